import PyProof.Rows.All
import Wide.All
import OpenK.AllK
import Wide.FinOn
import Lean
import PyProof.EqAt
import PyProof.EqKinds
import PyProof.TupleCall
import PyProof.EnumMake
import PyProof.EnumFor
import PyProof.Draws
import PyProof.DictWalks
import PyProof.ListRange
import PyProof.ZipIter
import PyProof.Rows.SortWalk
import PyProof.Rows.SumAny
import PyProof.TupleIter
import PyProof.MeetsStr2
import PyProof.StrWalks
import Wide.Txt
import PyProof.Rows.SortRuns
import PyProof.Rows.MinMaxN
import PyProof.ExcClass2
import PyProof.NsDelKeeps
import PyProof.ExcArgsOwn
import PyProof.ExcAttrAll.ValueError
import PyProof.ExcBaseAll.ValueError
import PyProof.ExcInit
import PyProof.InstStoreFacts
import PyProof.Rows.MatchSeqLen
import PySem.Challenge.RW_tanglehouse_k25_whole_any_text_read_or_n
open PySem.W (instObj methodObj Frag lookIn handedIn plainGet specialIn kitOne kia_one kitx_list kitx_dict keepIn callWith_K cellsFrom_some fnOf codeIn nsIn typeIn exmOne readsIn findCls mg_of mg_none_of)
set_option Elab.async false
set_option linter.all false
set_option maxRecDepth 100000
set_option maxHeartbeats 4000000
variable {us:List PySem.Value}
namespace L2
open PySem PySem.Spec PyProof.Rows
abbrev Key:=Sum Int Str
def Qik:Key->Value->Bool
 | .inl k,v=>Value.isInt k v
 | .inr x,v=>Value.isStrOf x v
def keyH (w:World):Key->Int
 | .inl k=>hashInt k
 | .inr x=>hashStr w x
theorem J4:∀{k:Key} {v:Value},Qik k v=true->(∃i t,k=Sum.inl i/\v=Value.int i t)\/(∃x t,k=Sum.inr x/\v=Value.str x t)
 | .inl i,v,h=>by
  obtain ⟨t,e⟩:=Value.isInt_shape (k:=i) (v:=v) h
  exact .inl ⟨i,t,rfl,e⟩
 | .inr x,v,h=>by
  obtain ⟨t,e⟩:=Value.isStrOf_shape (x:=x) (v:=v) h
  exact .inr ⟨x,t,rfl,e⟩
theorem Qkr (i:Int) (t:Tok):Qik (.inl i) (.int i t)=true:=by simp [Qik,Value.isInt]
theorem Qkq (x:Str) (t:Tok):Qik (.inr x) (.str x t)=true:=by simp [Qik,Value.isStrOf]
theorem Qx1 (a b:Int):decide ((Sum.inl a:Key)=Sum.inl b)=(a == b):=by
 by_cases e:a=b
 ·subst e;simp
 ·have h:¬(Sum.inl a:Key)=Sum.inl b:=λq=>e (Sum.inl.inj q)
  rw [decide_eq_false h]
  exact (beq_eq_false_iff_ne.mpr e).symm
theorem Qxy (a b:Str):decide ((Sum.inr a:Key)=Sum.inr b)=decide (a=b):=by
 by_cases e:a=b
 ·subst e;simp
 ·have h:¬(Sum.inr a:Key)=Sum.inr b:=λq=>e (Sum.inr.inj q)
  rw [decide_eq_false h,decide_eq_false e]
theorem Qx0 (a:Int) (b:Str):decide ((Sum.inl a:Key)=Sum.inr b)=false:=decide_eq_false (λq=>nomatch q)
theorem Qxz (a:Str) (b:Int):decide ((Sum.inr a:Key)=Sum.inl b)=false:=decide_eq_false (λq=>nomatch q)
def Yz (prog:Program) (w:World):PySem.KeyKind prog w Key where
 is:=Qik
 hash:=keyH w
 inj:=λv a b ha hb=>by
  rcases J4 ha with ⟨i,t,rfl,rfl⟩ | ⟨x,t,rfl,rfl⟩
  ·rcases J4 hb with ⟨j,u,rfl,e⟩ | ⟨y,u,rfl,e⟩
   ·injection e with e1 _;rw [e1]
   ·exact nomatch e
  ·rcases J4 hb with ⟨j,u,rfl,e⟩ | ⟨y,u,rfl,e⟩
   ·exact nomatch e
   ·injection e with e1 _;rw [e1]
 byValue:=λk v h=>by
  rcases J4 h with ⟨i,t,rfl,rfl⟩ | ⟨x,t,rfl,rfl⟩ <;> rfl
 pyHash:=λhv h=>by
  rcases J4 hv with ⟨i,t,rfl,rfl⟩ | ⟨x,t,rfl,rfl⟩
  ·exact wpAny_pyHash_int h
  ·exact wpAny_pyHash_str h
 eqBool:=λhu hv h=>by
  rcases J4 hu with ⟨i,t,rfl,rfl⟩ | ⟨x,t,rfl,rfl⟩
  ·rcases J4 hv with ⟨j,u,rfl,rfl⟩ | ⟨y,u,rfl,rfl⟩
   ·rw [Qx1] at h;exact wpAny_eqBool_int h
   ·rw [Qx0] at h;exact SeqAt.EqAt.int_str i t y u _ _ _ _ h
  ·rcases J4 hv with ⟨j,u,rfl,rfl⟩ | ⟨y,u,rfl,rfl⟩
   ·rw [Qxz] at h;exact SeqAt.EqAt.str_int x t j u _ _ _ _ h
   ·rw [Qxy] at h;exact wpAny_eqBool_str h
 «strs»:=λk x t v h=>by
  rcases J4 h with ⟨i,u,rfl,e⟩ | ⟨y,u,rfl,e⟩
  ·exact nomatch e
  ·injection e with e1 _
   subst e1
   cases v <;> rfl
theorem Qgd (prog:Program) (w:World) (i:Int) (t:Tok):(Yz prog w).is (.inl i) (.int i t)=true:=Qkr i t
theorem Qgc (prog:Program) (w:World) (x:Str) (t:Tok):(Yz prog w).is (.inr x) (.str x t)=true:=Qkq x t
inductive V where
 | non | bl (b:Bool) | int (i:Int) | str (x:Str) | byt (b:Array UInt8) | flt (b:UInt64) | ref (a:Addr) | ty (n:String)
 deriving DecidableEq
def RelV:V->Value->Prop
 | .non,u=>u=Value.none
 | .bl b,u=>u=Value.bool b
 | .int i,u=>∃t,u=Value.int i t
 | .str x,u=>∃t,u=Value.str x t
 | .byt b,u=>∃t,u=Value.bytes b t
 | .flt b,u=>∃t,u=Value.float b t
 | .ref a,u=>u=Value.ref a
 | .ty n,u=>u=Value.type n
abbrev Vals:List V->List Value->Prop:=Paired RelV
theorem Vals.length {xs:List V} (r:Vals xs us):xs.length=us.length:=Paired.length r
theorem Vals.get:∀{xs:List V} {us:List Value} {i:Nat} {x:V},Vals xs us->xs[i]? = some x->∃u,us[i]? = some u/\RelV x u
 | _,_,_,_,.nil,e=>by simp at e
 | _,_,0,_,.cons r _,e=>by simp at e;subst e;exact ⟨_,rfl,r⟩
 | _,_,i+1,x,.cons _ t,e=>by
  obtain ⟨u,h1,h2⟩:=Vals.get (i:=i) (x:=x) t (by simpa using e)
  exact ⟨u,by simpa using h1,h2⟩
theorem Vals.set {x:V} {u:Value} (r:RelV x u):∀{xs:List V} {us:List Value} (i:Nat),Vals xs us->Vals (xs.set i x) (us.set i u)
 | _,_,_,.nil=>.nil
 | _,_,0,.cons _ t=>.cons r t
 | _,_,i+1,.cons q t=>.cons q (Vals.set r i t)
theorem Vals.append:∀{xs ys:List V} {us ws:List Value},Vals xs us->Vals ys ws->Vals (xs++ys) (us++ws)
 | _,_,_,_,.nil,s=>s
 | _,_,_,_,.cons r t,s=>.cons r (Vals.append t s)
theorem Vals.take:∀{xs:List V} {us:List Value} (n:Nat),Vals xs us->Vals (xs.take n) (us.take n)
 | _,_,0,_=>.nil
 | _,_,_+1,.nil=>.nil
 | _,_,n+1,.cons r t=>.cons r (Vals.take n t)
theorem Vals.drop:∀{xs:List V} {us:List Value} (n:Nat),Vals xs us->Vals (xs.drop n) (us.drop n)
 | _,_,0,r=>r
 | _,_,_+1,.nil=>.nil
 | _,_,n+1,.cons _ t=>Vals.drop n t
def RelO:Option V->Option Value->Prop
 | some v,some u=>RelV v u
 | none,none=>True
 | _,_=>False
def KV {κ:Type}:List (κ × V)->List (κ × Value)->Prop:=Paired λ(p:κ × V) (q:κ × Value)=>p.1=q.1/\RelV p.2 q.2
def kV:Key->V
 | .inl i=>.int i
 | .inr x=>.str x
inductive HO where
 | lst (xs:List V)
 | tup (xs:List V)
 | dK (kvs:List (Key × V)) | dT (kvs:List (List Key × V))
 | set (S:Int->Bool) (n:Nat)
 | ins (C dx:Addr) (fs:List (Str × V))
 | own (x:Addr)
 | xd (fs:List (Str × V))
 | met (f x:Addr)
 | rng (lo hi:Int)
 | frz (o:Obj) (u:HO)
 | tbl (ps:Array Value)
 | ext (φ:Heap->Prop)
abbrev Hp:=Addr->Option HO
end L2
variable {H H' H1 H2:L2.Hp} {a b e:PySem.Addr} {o u ob:L2.HO} {P:PySem.Program} {w:PySem.World} {h h':PySem.Heap} {x:PySem.Str}
namespace L2
open PySem PySem.Spec PyProof.Rows
def upd (H:Hp) (a:Addr) (o:HO):Hp:=λb=>if b=a then some o else H b
theorem Ql:upd H a o a=some o:=by unfold upd;rw [if_pos rfl]
theorem Qk (h:b≠a):upd H a o b=H b:=by unfold upd;rw [if_neg h]
theorem Q1h (h:H a=some o) (h':H b=some u) (d:o≠u):a≠b:=by
 intro e;subst e;rw [h] at h';exact d (Option.some.inj h')
theorem Jn (h:H a=some o) (h':H b=none):a≠b:=by
 intro e;subst e;rw [h] at h';cases h'
section
variable (P:Program) (w:World)
def Ye (H:Hp) (h:Heap) (a:Addr):HO->Prop
 | .lst xs=>xs.length<=sizeLine/\∃(its:List Value) (n:Nat),Vals xs its/\h.get? a=some { cls:=.type "list",data:=.seq its.toArray n }
 | .tup xs=>xs.length<=sizeLine/\∃its:List Value,Vals xs its/\IsTup h a its.toArray
 | .dK kvs=>kvs.length<=sizeLine/\(a == sysModules)=false/\∃vs,KV kvs vs/\h.DictOf (Yz P w) a vs
 | .dT kvs=>kvs.length<=sizeLine/\(a == sysModules)=false/\∃xs:List (List Key × Addr × Value),
   Paired (λ(p:List Key × V) (q:List Key × Addr × Value)=>p.1=q.1/\H q.2.1=some (.tup (p.1.map kV))/\RelV p.2 q.2.2) kvs xs /\
   ∃o es ep,h.get? a=some o/\o.ExactDict/\o.data=.dict es ep/\es.toList=xs.map (entryOfKey (tupleKind (Yz P w)))/\(xs.map (·.1)).Nodup
 | .set S n=>h.SetOf (intKind P w) a S n
 | .ins C dx fs=>H dx=some (.own a)/\fs.length<=1000/\dx≠a/\h.get? a=some (instObj C dx) /\
   ∃mA,h.Ns1 dx mA/\(∀f,RelO (fs.lookup f) (mA f))/\PySem.Within mA (fs.map (·.1))
 | .own _=>∃o,h.get? a=some o
 | .xd fs=>∃mA,h.Ns1 a mA/\∀f,RelO (fs.lookup f) (mA f)
 | .rng lo hi=>∃t u v,h.get? a=some { cls:=.type "range",data:=.fields #[.int lo t,.int hi u,.int 1 v] }
 | .frz o u=>h.get? a=some o/\Ye H h a u
 | .tbl ps=>∃ts:Array Value,h.get? a=some { cls:=.none,data:=.fields ts }/\(ts = #[]\/∃(b:Addr) (oc:Obj) (u:HO) (vs:Array Value) (t:Tok) (q:Str) (t':Tok),ts = #[ps.getD 0 .none,ps.getD 1 .none,.ref b]/\H b=some (.frz oc u)/\oc.data=.fields vs/\ps.getD 2 .none=.str q t'/\vs[1]? = some (.str q t))
 | .met f x=>h.get? a=some (methodObj (.ref f) (.ref x))
 | .ext φ=>φ h/\(∃o,h.get? a=some o)/\∀h1 h2:Heap,φ h1->(∀o,h1.get? a=some o->h2.get? a=some o)->φ h2
def HOk (H:Hp) (h:Heap):Prop:=∀a o,H a=some o->Ye P w H h a o
end
theorem Ye.lt (x:Ye P w H h a o):a<h.objs.size:=by
 cases o with
 | lst xs=>obtain ⟨_,_,_,_,e⟩:=x;exact Heap.lt_size e
 | tup xs=>obtain ⟨_,_,_,p⟩:=x;exact p.lt
 | dK kvs=>obtain ⟨_,_,_,_,o,_,_,e,_⟩:=x;exact Heap.lt_size e
 | dT kvs=>obtain ⟨_,_,_,_,o,_,_,e,_⟩:=x;exact Heap.lt_size e
 | set S n=>obtain ⟨o,_,_,_,e,_⟩:=x;exact Heap.lt_size e
 | ins C dx fs=>obtain ⟨_,_,_,e,_⟩:=x;exact Heap.lt_size e
 | own y=>obtain ⟨_,e⟩:=x;exact Heap.lt_size e
 | xd fs=>obtain ⟨_,⟨_,_,_,e,_⟩,_⟩:=x;exact Heap.lt_size e
 | rng lo hi=>obtain ⟨_,_,_,e⟩:=x;exact Heap.lt_size e
 | frz ob u=>obtain ⟨e,_⟩:=x;exact Heap.lt_size e
 | tbl ps=>obtain ⟨_,e,_⟩:=x;exact Heap.lt_size e
 | met f y=>exact Heap.lt_size (show h.get? a=some _ from x)
 | ext φ=>obtain ⟨_,⟨_,e⟩,_⟩:=x;exact Heap.lt_size e
theorem Paired.mapP {α β:Type} {F G:α->β->Prop}:∀{l₁:List α} {l₂:List β},Paired F l₁ l₂->(∀a b,F a b->G a b)->Paired G l₁ l₂
 | _,_,.nil,_=>.nil
 | _,_,.cons r t,f=>.cons (f _ _ r) (Paired.mapP t f)
theorem Ye.stay (x:Ye P w H h a o) (k:∀b u,(b=a\/H b=some (.own a))->h.get? b=some u->h'.get? b=some u)
  (ho:∀b,H b=some (.own a)->H' b=some (.own a)) (ht:∀b xs,H b=some (.tup xs)->H' b=some (.tup xs)) (hf:∀b u v vs,H b=some (.frz u v)->u.data=.fields vs->H' b=some (.frz u v):=by exact λ_ _ _ _ q _=>q):Ye P w H' h' a o:=by
 induction o with
 | lst xs=>obtain ⟨z,its,n,r,e⟩:=x;exact ⟨z,its,n,r,k _ _ (.inl rfl) e⟩
 | tup xs=>obtain ⟨z,its,r,ob,e,c⟩:=x;exact ⟨z,its,r,ob,k _ _ (.inl rfl) e,c⟩
 | dK kvs=>obtain ⟨z,y,vs,r,ob,es,ep,e,c⟩:=x;exact ⟨z,y,vs,r,ob,es,ep,k _ _ (.inl rfl) e,c⟩
 | dT kvs =>
  obtain ⟨z,y,xs,r,ob,es,ep,e,c⟩:=x
  exact ⟨z,y,xs,Paired.mapP r λp q z=>⟨z.1,ht _ _ z.2.1,z.2.2⟩,ob,es,ep,k _ _ (.inl rfl) e,c⟩
 | set S n=>obtain ⟨ob,es,ep,t,e,c⟩:=x;exact ⟨ob,es,ep,t,k _ _ (.inl rfl) e,c⟩
 | ins C dx fs =>
  obtain ⟨d,z,ne,e,mA,⟨od,es,ep,e2,c⟩,r⟩:=x
  exact ⟨ho _ d,z,ne,k _ _ (.inl rfl) e,mA,⟨od,es,ep,k _ _ (.inr d) e2,c⟩,r⟩
 | own y=>obtain ⟨ob,e⟩:=x;exact ⟨ob,k _ _ (.inl rfl) e⟩
 | xd fs=>obtain ⟨mA,⟨od,es,ep,e,c⟩,r⟩:=x;exact ⟨mA,⟨od,es,ep,k _ _ (.inl rfl) e,c⟩,r⟩
 | rng lo hi=>obtain ⟨t,u,v,e⟩:=x;exact ⟨t,u,v,k _ _ (.inl rfl) e⟩
 | frz ob u ih=>obtain ⟨e,q⟩:=x;exact ⟨k _ _ (.inl rfl) e,ih q⟩
 | tbl ps =>
  obtain ⟨ts,e,r⟩:=x
  exact ⟨ts,k _ _ (.inl rfl) e,r.imp id λ⟨b,oc,u,vs,t,q,t',z1,z2,z3⟩=>⟨b,oc,u,vs,t,q,t',z1,hf _ _ _ _ z2 z3.1,z3⟩⟩
 | met f y =>
  have e:h.get? a=some (methodObj (.ref f) (.ref y)):=x
  show h'.get? a=some (methodObj (.ref f) (.ref y))
  exact k a _ (.inl rfl) e
 | ext φ=>obtain ⟨p,⟨o,e⟩,st⟩:=x;exact ⟨st _ _ p λo q=>k _ _ (.inl rfl) q,⟨o,k _ _ (.inl rfl) e⟩,st⟩
theorem HOk.lt (x:HOk P w H h) (e:H a=some o):a<h.objs.size:=(x a o e).lt
theorem HOk.fresh (x:HOk P w H h) (e:h.objs.size<=a):H a=none:=by
 cases q:H a with
 | none=>rfl
 | some u=>exact absurd (Nat.lt_of_lt_of_le (x.lt q) e) (Nat.lt_irrefl _)
theorem HOk.kept (x:HOk P w H h) (k:∀b u,h.get? b=some u->h'.get? b=some u):HOk P w H h':=λa o e =>
 (x a o e).stay (λb u _ q=>k b u q) (λ_ q=>q) λ_ _ q=>q
theorem HOk.laid (x:HOk P w H h) (k:∀b u,h.get? b=some u->h'.get? b=some u) (hp:h.objs.size<=a) (new:Ye P w (upd H a o) h' a o):HOk P w (upd H a o) h':=λb u e=>by
 have hn:=x.fresh hp
 by_cases hb:b=a
 ·subst hb;rw [Ql] at e;cases e;exact new
 ·rw [Qk hb] at e
  exact (x b u e).stay (λc v _ q=>k c v q) (λc q=>by rw [Qk (Jn q hn)];exact q) (λc xs q=>by rw [Qk (Jn q hn)];exact q) λc _ _ _ q _=>by rw [Qk (Jn q hn)];exact q
def Rd (H:Hp) (a:Addr) (u:HO):Prop:=H a=some u\/∃o,H a=some (.frz o u)
theorem Rd.ok (r:Rd H a u) (x:HOk P w H h):Ye P w H h a u:=by
 rcases r with r | ⟨o,r⟩
 ·exact x a u r
 ·obtain ⟨_,q⟩:=x a _ r
  exact q
def Mut:Option HO->Prop
 | some (.lst _)=>True
 | some (.dK _)=>True
 | some (.dT _)=>True
 | some (.set _ _)=>True
 | some (.ins _ _ _)=>True
 | some (.ext _)=>True
 | _=>False
section
variable {x:Addr} {o':HO}
theorem HOk.write (ok:HOk P w H h) (mu:Mut (H x)) (he:e=x\/H e=some (.own x)) (k:∀b u,b≠e->h.get? b=some u->h'.get? b=some u) (heo:∃u,h'.get? e=some u)
  (new:Ye P w (upd H x o') h' x o'):HOk P w (upd H x o') h':=λb u q=>by
 have nown:∀c y,H c=some (.own y)->c≠x:=λc y r z=>by subst z;rw [r] at mu;exact mu
 have ntup:∀c xs,H c=some (.tup xs)->c≠x:=λc xs r z=>by subst z;rw [r] at mu;exact mu
 have nfrz:∀c o v,H c=some (.frz o v)->c≠x:=λc o v r z=>by subst z;rw [r] at mu;exact mu
 by_cases hb:b=x
 ·subst hb;rw [Ql] at q;cases q;exact new
 ·rw [Qk hb] at q
  by_cases hbe:b=e
  ·have q':H b=some (.own x):=by
    rcases he with z | z
    ·exact absurd (hbe.trans z) hb
    ·rw [hbe];exact z
   rw [q] at q';cases q'
   obtain ⟨v,hv⟩:=heo
   exact ⟨v,by rw [hbe];exact hv⟩
  ·refine (ok b u q).stay (λc v hc r=>k c v ?_ r) (λc r=>by rw [Qk (nown c b r)];exact r) (λc xs r=>by rw [Qk (ntup c xs r)];exact r) λc o v _ r _=>by rw [Qk (nfrz c o v r)];exact r
   rcases hc with rfl | hc
   ·exact hbe
   ·rintro rfl
    rcases he with z | z
    ·exact nown c b hc z
    ·rw [hc] at z;cases z;exact hb rfl
end
structure Un (fs ex:List Addr) (H H':Hp) (h h':Heap):Prop where
 keep:∀b o,h.get? b=some o->H b=none->b∉fs->b∉ex->h'.get? b=some o
 slot:∀b o,h.get? b=some o->H b=none->b∈fs->b∉ex->∃sl,h'.get? b=some { o with slots:=sl }
 free:∀b o,h.get? b=some o->H b=none->b∉ex->H' b=none
 there:∀b o,h.get? b=some o->b∉ex->∃o',h'.get? b=some o'
 tups:∀b xs,H b=some (.tup xs)->H' b=some (.tup xs)
 frzs:∀b o u,H b=some (.frz o u)->H' b=some (.frz o u)
 tbls:∀b ps,H b=some (.tbl ps)->∃more,H' b=some (.tbl (ps++more))
section
variable {fs ex:List Addr} {h1:Heap} {x:Addr}
theorem Un.any (u:Un fs ex H H1 h h1) {ob:Obj} (q:h.get? b=some ob) (n:H b=none) (hx:b∉ex):∃sl,h1.get? b=some { ob with slots:=sl }:=by
 by_cases hb:b∈fs
 ·exact u.slot b ob q n hb hx
 ·exact ⟨ob.slots,u.keep b ob q n hb hx⟩
theorem Un.kept (k:∀b u,h.get? b=some u->h'.get? b=some u):Un fs ex H H h h' :=
 ⟨λb ob q _ _ _=>k b ob q,λb ob q _ _ _=>⟨ob.slots,k b ob q⟩,λ_ _ _ n _=>n,λb ob q _=>⟨ob,k b ob q⟩,λ_ _ q=>q,λ_ _ _ q=>q,λ_ ps q=>⟨#[],by rw [q];simp⟩⟩
theorem Un.refl:Un fs ex H H h h:=Un.kept λ_ _ q=>q
theorem Un.laid (k:∀b u,h.get? b=some u->h'.get? b=some u) (hp:h.objs.size<=a) (hn:H a=none):Un fs ex H (upd H a o) h h' where
 keep:=λb u q _ _ _=>k b u q
 slot:=λb u q _ _ _=>⟨u.slots,k b u q⟩
 free:=λb u q n _=>by rw [Qk (Nat.ne_of_lt (Nat.lt_of_lt_of_le (Heap.lt_size q) hp))];exact n
 there:=λb u q _=>⟨u,k b u q⟩
 tups:=λb xs q=>by rw [Qk (Jn q hn)];exact q
 frzs:=λb u xs q=>by rw [Qk (Jn q hn)];exact q
 tbls:=λb ps q=>⟨#[],by rw [Qk (Jn q hn),q];simp⟩
theorem Un.write (mu:Mut (H x)) (he:e=x\/H e=some (.own x)) (k:∀b u,b≠e->h.get? b=some u->h'.get? b=some u) (heo:∃u,h'.get? e=some u):Un fs ex H (upd H x o) h h':=by
 have hx:∀b,H b=none->b≠x:=λb n z=>by subst z;rw [n] at mu;exact mu
 have hb:∀b,H b=none->b≠e:=λb n z=>by
  subst z
  rcases he with r | r
  ·exact hx b n r
  ·rw [n] at r;cases r
 have hm:∀b u,H b=some u->¬Mut (some u)->b≠x:=λb u q nm z=>by subst z;rw [q] at mu;exact nm mu
 refine ⟨λb u q n _ _=>k b u (hb b n) q,λb u q n _ _=>⟨u.slots,k b u (hb b n) q⟩,λb u q n _=>by rw [Qk (hx b n)];exact n,λb u q _=>?_,
  λb xs q=>by rw [Qk (hm b _ q λz=>z)];exact q,λb u xs q=>by rw [Qk (hm b _ q λz=>z)];exact q,λb ps q=>⟨#[],by rw [Qk (hm b _ q λz=>z),q];simp⟩⟩
 by_cases hbe:b=e
 ·subst hbe;exact heo
 ·exact ⟨u,k b u hbe q⟩
end
def trk (h:Heap) (H:Hp):List Addr:=(List.range h.objs.size).filter λa=>(H a).isSome
def hidT (h:Heap) (H:Hp):Heap:=PySem.W.hideAll h (trk h H)
theorem Qk4 (h:Heap) (H:Hp):(hidT h H).objs.size=h.objs.size:=PySem.W.hideAll_size _ _
theorem Qn5 {o:Obj} (e:h.get? b=some o) (n:H b=none):(hidT h H).get? b=some o :=
 PySem.W.hideAll_get _ e λhm=>by
  have q:(H b).isSome=true:=(List.mem_filter.mp hm).2
  rw [n] at q;simp at q
theorem Qsn {o:Obj} (e:(hidT h H).get? b=some o):h.get? b=some o/\H b=none:=by
 have e':h.get? b=some o:=PySem.W.of_hideAll (trk h H) e
 refine ⟨e',?_⟩
 cases q:H b with
 | none=>rfl
 | some x =>
  have hm:b∈trk h H:=List.mem_filter.mpr ⟨List.mem_range.mpr (Heap.lt_size e'),by simp [q]⟩
  have z:(hidT h H).get? b=none:=PySem.W.hideAll_none (trk h H) hm
  rw [z] at e;cases e
structure Mod (K:Frag) (mg:Str->Option Value) (base:Heap):Prop where
 kin:K.In base
 glob:base.Ns mainGlobals mg
 blt:∃mb,base.Ns builtinsNs mb/\∀x:Str,x ≠ "__name__" -> mb x=bootBuiltins x
 nolimit:base.NoLimit
structure Cx where
 prog:Program
 w:World
 K:Frag
 mg:Str->Option Value
 base:Heap
 A:Around
 N:List Str
 s₀:Shared
 H₀:Hp
 env:Env
 outer:List Env
 stack:List Env
 ex:List Addr
 fn:Str->Bool
 calm:Bool
 pn:List (Addr × Obj)
 xe:Value->Shared->Prop
end L2
variable {u:PySem.Value} {g':Array PySem.GenState} {t' i:Nat} {d':PySem.Drawn} {ch:List PySem.Addr} {it:PySem.Addr} {N:List PySem.Str} {A:PySem.Around} {E:PySem.Value->PySem.Shared->Prop} {v:L2.V} {Q:Unit->PySem.Shared->Prop} {s' s:PySem.Shared} {X:L2.Cx} {pins:List (PySem.Addr × PySem.Obj)}
namespace L2
open PySem PySem.Spec PyProof.Rows
def frs (l:List Env):List Addr:=l.filterMap (·.frame)
abbrev Cx.fs (X:Cx):List Addr:=frs X.outer
def Vis (sc:Scope) (x:Str):Prop:=sc.names.lookup x=some .local\/sc.names.lookup x=some .cell\/sc.names.lookup x=some .free
def Loc (sc:Scope) (x:Str):Prop:=sc.names.lookup x=some .local\/sc.names.lookup x=some .cell
def Look (env:Env) (h:Heap) (m:Str->Option Value) (x:Str) (u:Value):Prop :=
 (env.kindOf x=some .local/\m x=some u)\/((env.kindOf x=some .cell\/env.kindOf x=some .free)/\∃c,env.cells.lookup x=some c/\h.IsCell c (some u))
structure Cx.Ok (X:Cx):Prop where
 mod:Mod X.K X.mg X.base
 kind:X.env.scope.kind=.function
 glob:X.env.globals=mainGlobals
 blt:X.env.builtins=builtinsNs
 above:X.s₀.heap.objs.size<=X.env.locals
 inj:∀x y c,X.env.cells.lookup x=some c->X.env.cells.lookup y=some c->x=y
 has:∀x,(X.env.kindOf x=some .cell\/X.env.kindOf x=some .free)->∃c,X.env.cells.lookup x=some c
 cab:∀x c,X.fn x=true->X.env.cells.lookup x=some c->X.s₀.heap.objs.size<=c
 hd:X.calm=true->X.A.handled=none
 frames:X.A.frames=some X.stack
 stk:X.stack=X.outer\/(X.stack=X.env::X.outer/\X.env.frame=some X.env.locals)
 exf:∀b∈X.ex,b≠X.env.locals/\∀x c,X.env.cells.lookup x=some c->c≠b
 bs:∀b o,X.base.get? b=some o->X.s₀.heap.get? b=some o/\X.H₀ b=none
 bsz:X.base.objs.size<=X.s₀.heap.objs.size
 noex:∀b o,X.base.get? b=some o->b∉X.ex
 exfs:∀b∈X.ex,b∉X.fs
 funs:X.s₀.heap.FunFrames X.base X.outer
 frf:∀b∈X.fs,X.H₀ b=none
structure Inv (X:Cx) (pins:List (Addr × Obj)) (σ:List (Option V)) (H:Hp) (s:Shared):Prop where
 ok:X.Ok
 os:s.os=X.s₀.os
 bare:AllBare s.gens
 base:Un X.fs X.ex X.H₀ H X.s₀.heap s.heap
 loc:∃m,s.heap.Ns X.env.locals m/\∀(i:Nat) (x:Str) (v:V),X.N[i]? = some x->σ[i]? = some (some v)->Vis X.env.scope x->∃u,RelV v u/\Look X.env s.heap m x u
 cell:∀x c,X.env.cells.lookup x=some c->∃v,s.heap.IsCell c v
 free:H X.env.locals=none
 freeC:∀x c,X.env.cells.lookup x=some c->H c=none
 pin:∀p∈X.pn++pins,s.heap.get? p.1=some p.2/\H p.1=none/\p.1≠X.env.locals/\p.1∉X.fs/\∀v,p.2.data ≠ .cell v
 hok:HOk X.prog X.w H s.heap
 len:σ.length=X.N.length
section
variable {σ:List (Option V)}
theorem Cx.Ok.nofr (ok:X.Ok) {o:Obj} (e:X.base.get? b=some o):b∉X.fs:=λhb=>by
 have:=(ok.funs.mem hb).1
 rw [e] at this;cases this
theorem Inv.bs (I:Inv X pins σ H s):∀b o,X.base.get? b=some o->s.heap.get? b=some o/\H b=none:=λb o e =>
 ⟨I.base.keep b o (I.ok.bs b o e).1 (I.ok.bs b o e).2 (I.ok.nofr e) (I.ok.noex b o e),I.base.free b o (I.ok.bs b o e).1 (I.ok.bs b o e).2 (I.ok.noex b o e)⟩
theorem Inv.bk (I:Inv X pins σ H s):∀b o,X.base.get? b=some o->s.heap.get? b=some o:=λb o e=>(I.bs b o e).1
theorem Inv.mod (I:Inv X pins σ H s):Mod X.K X.mg X.base:=I.ok.mod
theorem Inv.kIn (I:Inv X pins σ H s):X.K.In s.heap:=I.ok.mod.kin.keeps I.bk
theorem Inv.lt (I:Inv X pins σ H s):X.env.locals<s.heap.objs.size:=let ⟨_,hn,_⟩:=I.loc;hn.lt
theorem Inv.sz (I:Inv X pins σ H s):X.s₀.heap.objs.size<=s.heap.objs.size:=Nat.le_trans I.ok.above (Nat.le_of_lt I.lt)
theorem Inv.nofs (I:Inv X pins σ H s) (h:s.heap.objs.size<=a):a∉X.fs:=λhb=>by
 obtain ⟨_,o,ho,_⟩:=I.ok.funs.mem hb
 exact absurd (Nat.lt_of_lt_of_le (Heap.lt_size ho) (Nat.le_trans I.sz h)) (Nat.lt_irrefl _)
theorem Inv.cne (I:Inv X pins σ H s):∀x c,X.env.cells.lookup x=some c->c≠X.env.locals:=λx c e z=>by
 obtain ⟨v,o,ho,hd⟩:=I.cell x c e
 obtain ⟨m,⟨o',es,ep,ho',hd',_⟩,_⟩:=I.loc
 rw [z,ho'] at ho;cases ho;rw [hd'] at hd;cases hd
theorem Inv.funs (I:Inv X pins σ H s):s.heap.FunFrames X.base X.outer:=by
 have all:∀(l:List Env),(∀b∈frs l,b∈X.fs)->X.s₀.heap.FunFrames X.base l->s.heap.FunFrames X.base l:=by
  intro l
  induction l with
  | nil=>intro _ _;trivial
  | cons env r ih =>
   intro hs hl
   obtain ⟨hk,⟨L,o,hf,hn,ho,hd⟩,hr⟩:=hl
   have hL:L∈X.fs:=hs L (by unfold frs;rw [List.filterMap_cons,hf];exact List.mem_cons_self)
   obtain ⟨sl,e⟩:=I.base.slot L o ho (I.ok.frf L hL) hL λz=>I.ok.exfs L z hL
   exact ⟨hk,⟨L,_,hf,hn,e,hd⟩,ih (λb hb=>hs b (by unfold frs;rw [List.filterMap_cons,hf];exact List.mem_cons_of_mem _ hb)) hr⟩
 exact all X.outer (λ_ hb=>hb) I.ok.funs
theorem Inv.stack (I:Inv X pins σ H s):s.heap.FunFrames X.base X.stack:=by
 rcases I.ok.stk with e | ⟨e,hf⟩
 ·rw [e];exact I.funs
 ·rw [e]
  obtain ⟨m,hn,_⟩:=I.loc
  refine .cons (by rw [I.ok.kind];decide) hf hn ?_ I.funs
  exact Heap.get?_none_of_le (Nat.le_trans I.ok.bsz I.ok.above)
theorem Inv.stkSub (I:Inv X pins σ H s):∀b∈frs X.stack,b∈X.env.locals::X.fs:=λb hb=>by
 rcases I.ok.stk with e | ⟨e,hf⟩
 ·rw [e] at hb;exact List.mem_cons_of_mem _ hb
 ·rw [e] at hb
  unfold frs at hb
  rw [List.filterMap_cons,hf] at hb
  exact hb
theorem Inv.stkFree (I:Inv X pins σ H s):∀b∈frs X.stack,H b=none:=λb hb=>by
 rcases List.mem_cons.mp (I.stkSub b hb) with e | hb
 ·rw [e];exact I.free
 ·obtain ⟨_,o,ho,_⟩:=I.ok.funs.mem hb
  exact I.base.free b o ho (I.ok.frf b hb) λz=>I.ok.exfs b z hb
theorem Inv.step (I:Inv X pins σ H s)
  (hch:∀b∈ch,(b∈X.ex\/X.s₀.heap.objs.size<=b)/\b≠X.env.locals/\(∀x c,X.env.cells.lookup x=some c->c≠b)/\∀p∈X.pn++pins,p.1≠b)
  (keep:∀b o,b≠X.env.locals->b∉X.fs->b∉ch->s.heap.get? b=some o->H b=none->h'.get? b=some o)
  (slot:∀b o,b≠X.env.locals->b∈X.fs->b∉ch->s.heap.get? b=some o->H b=none->∃sl,h'.get? b=some { o with slots:=sl }) (free:∀b o,b∉ch->s.heap.get? b=some o->H b=none->H' b=none)
  (there:∀b o,b∉ch->s.heap.get? b=some o->∃o',h'.get? b=some o')
  (tups:∀b xs,H b=some (.tup xs)->H' b=some (.tup xs)) (frzs:∀b o u,H b=some (.frz o u)->H' b=some (.frz o u)) (tbls:∀b ps,H b=some (.tbl ps)->∃more,H' b=some (.tbl (ps++more)))
  (ns:∀m,s.heap.Ns X.env.locals m->h'.Ns X.env.locals m) (hok:HOk X.prog X.w H' h') (hg:AllBare g') :
  Inv X pins σ H' { s with heap:=h',gens:=g',drawn:=d',toks:=t' }:=by
 have neL:∀b o,X.s₀.heap.get? b=some o->b≠X.env.locals:=λb o e=>Nat.ne_of_lt (Nat.lt_of_lt_of_le (Heap.lt_size e) I.ok.above)
 have neC:∀b o,X.s₀.heap.get? b=some o->b∉X.ex->b∉ch:=λb o e hx hb=>by
  rcases (hch b hb).1 with z | z
  ·exact hx z
  ·exact absurd (Nat.lt_of_lt_of_le (Heap.lt_size e) z) (Nat.lt_irrefl _)
 have cellK:∀x c,X.env.cells.lookup x=some c->∀v,s.heap.IsCell c v->h'.IsCell c v:=λx c e v ⟨o,ho,hd⟩=>by
  have nch:c∉ch:=λz=>(hch c z).2.2.1 x c e rfl
  by_cases hc:c∈X.fs
  ·obtain ⟨sl,q⟩:=slot c o (I.cne x c e) hc nch ho (I.freeC x c e)
   exact ⟨_,q,hd⟩
  ·exact ⟨o,keep c o (I.cne x c e) hc nch ho (I.freeC x c e),hd⟩
 refine ⟨I.ok,I.os,hg,⟨λb o e n hb hx=>?_,λb o e n hb hx=>?_,λb o e n hx=>?_,λb o e hx=>?_,λb xs e=>tups b xs (I.base.tups b xs e),λb o xs e=>frzs b o xs (I.base.frzs b o xs e),λb ps e=>?_⟩,?_,λx c e=>?_,?_,λx c e=>?_,λp hp=>?_,hok,I.len⟩
 ·exact keep b o (neL b o e) hb (neC b o e hx) (I.base.keep b o e n hb hx) (I.base.free b o e n hx)
 ·obtain ⟨sl,e1⟩:=I.base.slot b o e n hb hx
  obtain ⟨sl',e2⟩:=slot b _ (neL b o e) hb (neC b o e hx) e1 (I.base.free b o e n hx)
  exact ⟨sl',e2⟩
 ·obtain ⟨o',e1⟩:=I.base.there b o e hx
  exact free b o' (neC b o e hx) e1 (I.base.free b o e n hx)
 ·obtain ⟨o',e1⟩:=I.base.there b o e hx
  exact there b o' (neC b o e hx) e1
 ·obtain ⟨m1,e1⟩:=I.base.tbls b ps e
  obtain ⟨m2,e2⟩:=tbls b _ e1
  exact ⟨m1++m2,by rw [e2,Array.append_assoc]⟩
 ·obtain ⟨m,hn,hl⟩:=I.loc
  refine ⟨m,ns m hn,λi x v e1 e2 e3=>?_⟩
  obtain ⟨u,r,l⟩:=hl i x v e1 e2 e3
  refine ⟨u,r,?_⟩
  rcases l with l | ⟨k,c,e,z⟩
  ·exact .inl l
  ·exact .inr ⟨k,c,e,cellK x c e _ z⟩
 ·obtain ⟨v,z⟩:=I.cell x c e
  exact ⟨v,cellK x c e v z⟩
 ·obtain ⟨m,⟨o,_,_,ho,_⟩,_⟩:=I.loc
  exact free _ o (λz=>(hch _ z).2.1 rfl) ho I.free
 ·obtain ⟨v,o,ho,hd⟩:=I.cell x c e
  exact free c o (λz=>(hch c z).2.2.1 x c e rfl) ho (I.freeC x c e)
 ·obtain ⟨e,n,ne,nf,d⟩:=I.pin p hp
  have nch:p.1∉ch:=λz=>(hch p.1 z).2.2.2 p hp rfl
  exact ⟨keep p.1 p.2 ne nf nch e n,free p.1 p.2 nch e n,ne,nf,d⟩
theorem Inv.un (I:Inv X pins σ H s) (u:Un X.fs [] H H' s.heap h') (hok:HOk X.prog X.w H' h'):Inv X pins σ H' { s with heap:=h',toks:=t' }:=by
 obtain ⟨m,⟨o,es,ep,ho,r⟩,_⟩:=id I.loc
 obtain ⟨sl,hL⟩:=u.any ho I.free (by simp)
 exact I.step (g':=s.gens) (d':=s.drawn) (ch:=[]) (λ_ z=>nomatch z) (λb o _ hb _ e n=>u.keep b o e n hb (by simp)) (λb o _ hb _ e n=>u.slot b o e n hb (by simp)) (λb o _ e n=>u.free b o e n (by simp)) (λb o _ e=>u.there b o e (by simp)) u.tups u.frzs u.tbls (λm' hm=>by
  obtain ⟨o',es',ep',ho',r'⟩:=hm
  rw [ho] at ho';cases ho'
  exact ⟨_,es',ep',hL,r'⟩) hok I.bare
theorem Inv.call (I:Inv X pins σ H s) (u:Un (frs X.stack) ch H H' s.heap h') (hok:HOk X.prog X.w H' h') (hg:AllBare g')
  (hch:∀b∈ch,(b∈X.ex\/X.s₀.heap.objs.size<=b)/\b≠X.env.locals/\(∀x c,X.env.cells.lookup x=some c->c≠b)/\∀p∈X.pn++pins,p.1≠b) :
  Inv X pins σ H' { s with heap:=h',gens:=g',drawn:=d',toks:=t' }:=by
 obtain ⟨m,⟨o,es,ep,ho,r⟩,_⟩:=id I.loc
 obtain ⟨sl,hL⟩:=u.any ho I.free λz=>(hch _ z).2.1 rfl
 exact I.step (ch:=ch) hch (λb o hL hb hc e n=>u.keep b o e n (λz=>(List.mem_cons.mp (I.stkSub b z)).elim hL hb) hc) (λb o _ _ hc e n=>u.any e n hc) (λb o hc e n=>u.free b o e n hc) (λb o hc e=>u.there b o e hc) u.tups u.frzs u.tbls (λm' hm=>by
  obtain ⟨o',es',ep',ho',r'⟩:=hm
  rw [ho] at ho';cases ho'
  exact ⟨_,es',ep',hL,r'⟩) hok hg
theorem Inv.turned (I:Inv X pins σ H s) (k:∀b o,b≠it->s.heap.get? b=some o->h'.get? b=some o) (hn:H it=none) (hL:it≠X.env.locals)
  (h1:it∈X.ex\/X.s₀.heap.objs.size<=it) (h2:∀x c,X.env.cells.lookup x=some c->c≠it) (h3:∀p∈X.pn++pins,p.1≠it):Inv X pins σ H { s with heap:=h',toks:=t' }:=by
 have nit:∀b u,H b=some u->b≠it:=λb u e z=>by rw [z,hn] at e;cases e
 refine I.step (g':=s.gens) (d':=s.drawn) (ch:=[it]) (λb hb=>?_) (λb o _ _ hc e _=>k b o (λz=>hc (by simp [z])) e) (λb o _ _ hc e _=>⟨o.slots,k b o (λz=>hc (by simp [z])) e⟩) (λ_ _ _ _ n=>n)
  (λb o hc e=>⟨o,k b o (λz=>hc (by simp [z])) e⟩) (λ_ _ e=>e) (λ_ _ _ e=>e) (λb ps e=>⟨#[],by rw [e];simp⟩) (λm hm=>?_) (λb u e=>?_) I.bare
 ·have e:b=it:=by simpa using hb
  subst e
  exact ⟨h1,hL,h2,h3⟩
 ·obtain ⟨o,es,ep,ho,r⟩:=hm
  exact ⟨o,es,ep,k _ o (Ne.symm hL) ho,r⟩
 ·refine (I.hok b u e).stay (λc v hc q=>k c v ?_ q) (λ_ q=>q) λ_ _ q=>q
  rcases hc with z | z
  ·rw [z];exact nit b u e
  ·exact nit c _ z
theorem Inv.tok (I:Inv X pins σ H s) (t:Nat):Inv X pins σ H { s with toks:=t }:=I.un (h':=s.heap) (t':=t) Un.refl I.hok
theorem Inv.kept (I:Inv X pins σ H s) (k:∀b u,s.heap.get? b=some u->h'.get? b=some u):Inv X pins σ H { s with heap:=h',toks:=t' }:=I.un (Un.kept k) (I.hok.kept k)
theorem Inv.laid (I:Inv X pins σ H s) (k:∀b u,s.heap.get? b=some u->h'.get? b=some u) (hp:s.heap.objs.size<=a) (new:Ye X.prog X.w (upd H a o) h' a o) :
  Inv X pins σ (upd H a o) { s with heap:=h',toks:=t' }:=I.un (Un.laid k hp (I.hok.fresh hp)) (I.hok.laid k hp new)
theorem Inv.write {x:Addr} (I:Inv X pins σ H s) (mu:Mut (H x)) (he:e=x\/H e=some (.own x)) (k:∀b u,b≠e->s.heap.get? b=some u->h'.get? b=some u) (heo:∃u,h'.get? e=some u)
  (new:Ye X.prog X.w (upd H x o) h' x o):Inv X pins σ (upd H x o) { s with heap:=h',toks:=t' }:=I.un (Un.write mu he k heo) (I.hok.write mu he k heo new)
theorem Inv.pins_of {pins':List (Addr × Obj)} (I:Inv X pins σ H s) (h:∀p∈pins',s.heap.get? p.1=some p.2/\H p.1=none/\p.1≠X.env.locals/\p.1∉X.fs/\∀v,p.2.data ≠ .cell v):Inv X pins' σ H s :=
 ⟨I.ok,I.os,I.bare,I.base,I.loc,I.cell,I.free,I.freeC,λp hp=>(List.mem_append.mp hp).elim (λz=>I.pin p (List.mem_append_left _ z)) (h p),I.hok,I.len⟩
theorem Qdk (hN:N.Nodup) {j:Nat} (a:N[i]? = some x) (b:N[j]? = some x):i=j:=by
 obtain ⟨h1,e1⟩:=List.getElem?_eq_some_iff.mp a
 obtain ⟨h2,e2⟩:=List.getElem?_eq_some_iff.mp b
 exact (List.getElem_inj hN).mp (e1.trans e2.symm)
theorem Qjg {M:Model} (I:Inv X pins σ H s) (hN:X.N.Nodup) (hi:X.N[i]? = some x) (hx:Loc X.env.scope x) (r:RelV v u)
  (h:∀s',Inv X pins (σ.set i (some v)) H s'->(∃a,Heap.SameBut a s.heap s'.heap/\(a=X.env.locals\/X.env.cells.lookup x=some a))->Q () s') (hf:X.fn x=true\/X.env.scope.names.lookup x=some .local:=by first | exact .inl rfl | exact .inr rfl | assumption):wpAny M A (storeName X.env x u) Q E s:=by
 obtain ⟨m,hn,hl⟩:=id I.loc
 have hcls:(X.env.scope.kind == .class || (X.env.scope.kind == .module && X.env.locals != X.env.globals))=false:=by rw [I.ok.kind];rfl
 have hiσ:i<σ.length:=by rw [I.len];exact (List.getElem?_eq_some_iff.mp hi).1
 have cne:=I.cne
 have tracked:∀{a:Addr} {h':Heap},(∃o,s.heap.get? a=some o/\H a=none)->Heap.SameBut a s.heap h'->HOk X.prog X.w H h':=λ{a h'} ha hs b ob e=>by
  obtain ⟨_,_,hfree⟩:=ha
  refine (I.hok b ob e).stay (λc w' hc q=>(hs.2 c ?_).trans q) (λ_ q=>q) λ_ _ q=>q
  rintro rfl
  rcases hc with rfl | hc
  ·rw [hfree] at e;cases e
  ·rw [hfree] at hc;cases hc
 rcases hx with hk | hk
 ·refine wpAny_storeName_local hk hn (λh' hn' hs=>?_) hcls
  obtain ⟨oL,_,_,hoL,_⟩:=id hn
  refine h _ ⟨I.ok,I.os,I.bare,⟨λb o e n hb hx=>?_,λb o e n hb hx=>?_,I.base.free,λb o e hx=>?_,I.base.tups,I.base.frzs,I.base.tbls⟩,⟨_,hn',λj y v' e1 e2 e3=>?_⟩,λy c e=>?_,I.free,I.freeC,λp hp=>?_,tracked ⟨oL,hoL,I.free⟩ hs,by simpa using I.len⟩ ⟨_,hs,.inl rfl⟩
  ·exact (hs.2 b (Nat.ne_of_lt (Nat.lt_of_lt_of_le (Heap.lt_size e) I.ok.above))).trans (I.base.keep b o e n hb hx)
  ·obtain ⟨sl,e1⟩:=I.base.slot b o e n hb hx
   exact ⟨sl,(hs.2 b (Nat.ne_of_lt (Nat.lt_of_lt_of_le (Heap.lt_size e) I.ok.above))).trans e1⟩
  ·obtain ⟨o',e1⟩:=I.base.there b o e hx
   exact ⟨o',(hs.2 b (Nat.ne_of_lt (Nat.lt_of_lt_of_le (Heap.lt_size e) I.ok.above))).trans e1⟩
  ·by_cases hj:j=i
   ·subst hj
    rw [hi] at e1;cases e1
    rw [List.getElem?_set_self hiσ] at e2
    cases e2
    exact ⟨u,r,.inl ⟨hk,by simp⟩⟩
   ·rw [List.getElem?_set_ne (Ne.symm hj)] at e2
    obtain ⟨u',r',q⟩:=hl j y v' e1 e2 e3
    refine ⟨u',r',?_⟩
    rcases q with ⟨k,e⟩ | ⟨k,c,e,z⟩
    ·refine .inl ⟨k,?_⟩
     have:y≠x:=λe=>hj (Qdk hN e1 (e ▸ hi))
     simp [this,e]
    ·exact .inr ⟨k,c,e,z.sameBut hs (cne y c e)⟩
  ·obtain ⟨w',z⟩:=I.cell y c e
   exact ⟨w',z.sameBut hs (cne y c e)⟩
  ·obtain ⟨e,n,ne,nf,d⟩:=I.pin p hp
   exact ⟨(hs.2 p.1 ne).trans e,n,ne,nf,d⟩
 ·have hfn:X.fn x=true:=by
   rcases hf with z | z
   ·exact z
   ·rw [z] at hk;cases hk
  obtain ⟨c,hc⟩:=I.ok.has x (.inl hk)
  obtain ⟨w',z⟩:=I.cell x c hc
  refine wpAny_storeName_cell I.ok.kind hk hc z (λh' hc' hs=>?_)
  obtain ⟨oc,hoc,hocd⟩:=id z
  refine h { s with heap:=h' } ⟨I.ok,I.os,I.bare,⟨λb o e n hb hx=>?_,λb o e n hb hx=>?_,I.base.free,λb o e hx=>?_,I.base.tups,I.base.frzs,I.base.tbls⟩,⟨m,hn.sameBut hs (Ne.symm (cne x c hc)),λj y v' e1 e2 e3=>?_⟩,λy c' e=>?_,I.free,I.freeC,λp hp=>?_,tracked ⟨oc,hoc,I.freeC x c hc⟩ hs,by simpa using I.len⟩ ⟨c,hs,.inr hc⟩
  ·exact (hs.2 b (Nat.ne_of_lt (Nat.lt_of_lt_of_le (Heap.lt_size e) (I.ok.cab x c hfn hc)))).trans (I.base.keep b o e n hb hx)
  ·obtain ⟨sl,e1⟩:=I.base.slot b o e n hb hx
   exact ⟨sl,(hs.2 b (Nat.ne_of_lt (Nat.lt_of_lt_of_le (Heap.lt_size e) (I.ok.cab x c hfn hc)))).trans e1⟩
  ·obtain ⟨o',e1⟩:=I.base.there b o e hx
   exact ⟨o',(hs.2 b (Nat.ne_of_lt (Nat.lt_of_lt_of_le (Heap.lt_size e) (I.ok.cab x c hfn hc)))).trans e1⟩
  ·by_cases hj:j=i
   ·subst hj
    rw [hi] at e1;cases e1
    rw [List.getElem?_set_self hiσ] at e2
    cases e2
    exact ⟨u,r,.inr ⟨.inl hk,c,hc,hc'⟩⟩
   ·rw [List.getElem?_set_ne (Ne.symm hj)] at e2
    obtain ⟨u',r',q⟩:=hl j y v' e1 e2 e3
    refine ⟨u',r',?_⟩
    rcases q with q | ⟨k,c',e,z'⟩
    ·exact .inl q
    ·refine .inr ⟨k,c',e,z'.sameBut hs ?_⟩
     rintro rfl
     exact hj (Qdk hN e1 (I.ok.inj _ _ _ e hc ▸ hi))
  ·by_cases hcc:c'=c
   ·subst hcc;exact ⟨_,hc'⟩
   ·obtain ⟨w2,z2⟩:=I.cell y c' e
    exact ⟨w2,z2.sameBut hs hcc⟩
  ·obtain ⟨e,n,ne,nf,d⟩:=I.pin p hp
   refine ⟨(hs.2 p.1 ?_).trans e,n,ne,nf,d⟩
   intro q
   rw [q,hoc] at e
   have q':oc=p.2:=Option.some.inj e
   exact d w' (by rw [← q'];exact hocd)
theorem Qc1 {M:Model} (I:Inv X pins σ H s) (hN:X.N.Nodup) (hi:X.N[i]? = some x) (hx:Loc X.env.scope x) (r:RelV v u)
  (h:∀s',Inv X pins (σ.set i (some v)) H s'->Q () s') (hf:X.fn x=true\/X.env.scope.names.lookup x=some .local:=by first | exact .inl rfl | exact .inr rfl | assumption):wpAny M A (storeName X.env x u) Q E s :=
 Qjg I hN hi hx r (λs' I' _=>h s' I') hf
theorem Inv.call' (I:Inv X pins σ H s) (ho:s'.os=s.os) (u:Un (frs X.stack) ch H H' s.heap s'.heap) (hok:HOk X.prog X.w H' s'.heap) (hg:AllBare s'.gens)
  (hch:∀b∈ch,(b∈X.ex\/X.s₀.heap.objs.size<=b)/\b≠X.env.locals/\(∀x c,X.env.cells.lookup x=some c->c≠b)/\∀p∈X.pn++pins,p.1≠b):Inv X pins σ H' s':=by
 obtain ⟨h',g',d',t',o'⟩:=s'
 have e:o'=s.os:=ho
 subst e
 exact I.call (g':=g') (t':=t') (d':=d') u hok hg hch
end
abbrev XK:=Value->Option Addr->Hp->Prop
abbrev St:=List (Option V)
abbrev VK:=V->Hp->Prop
abbrev TE:=St->Hp->VK->Prop
abbrev TT:=St->Hp->(Bool->Hp->Prop)->Prop
abbrev TA:=St->Hp->(List V->Hp->Prop)->Prop
structure Ends where
 nx:St->Hp->Prop
 rt:VK
 bk:St->Hp->Prop:=λ_ _=>False
 ct:St->Hp->Prop:=λ_ _=>False
abbrev TS:=Ends->St->Hp->Prop
end L2
variable {xs ys:List L2.V} {e c:PySem.Expr} {Q:PySem.Value->PySem.Shared->Prop} {pos:PySem.Pos} {σ:L2.St} {y:L2.V} {K:Frag} {f:PySem.Value->PySem.Value->PySem.Sem PySem.Value} {st:PySem.Stmt} {te ta tb:L2.TE} {rest:List PySem.Expr}
namespace L2
open PySem PySem.Spec PyProof.Rows
def EP (X:Cx) (pins:List (Addr × Obj)) (σ:St) (Q:VK) (u:Value) (s':Shared):Prop:=∃v H',Inv X pins σ H' s'/\RelV v u/\Q v H'
def TP (X:Cx) (pins:List (Addr × Obj)) (σ:St) (Q:Bool->Hp->Prop) (b:Bool) (s':Shared):Prop:=∃H',Inv X pins σ H' s'/\Q b H'
def AP (X:Cx) (pins:List (Addr × Obj)) (σ:St) (Q:List V->Hp->Prop) (us:List Value) (s':Shared):Prop:=∃vs H',Inv X pins σ H' s'/\Vals vs us/\Q vs H'
def SP (X:Cx) (pins:List (Addr × Obj)) (D:Ends) (f:Flow) (s':Shared):Prop :=
 match f with
 | .next=>∃σ' H',Inv X pins σ' H' s'/\D.nx σ' H'
 | .brk=>∃σ' H',Inv X pins σ' H' s'/\D.bk σ' H'
 | .cont=>∃σ' H',Inv X pins σ' H' s'/\D.ct σ' H'
 | .ret u=>∃v σ' H',Inv X pins σ' H' s'/\RelV v u/\D.rt v H'
def PE (X:Cx) (e:Expr) (t:TE):Prop :=
 ∀(pins:List (Addr × Obj)) (s:Shared) (σ:St) (H:Hp) (Q:VK),Inv X pins σ H s->t σ H Q->wpAny (model X.prog X.w) X.A (eval e X.env) (EP X pins σ Q) X.xe s
def PT (X:Cx) (e:Expr) (t:TT):Prop :=
 ∀(pins:List (Addr × Obj)) (s:Shared) (σ:St) (H:Hp) (Q:Bool->Hp->Prop),Inv X pins σ H s->t σ H Q->wpAny (model X.prog X.w) X.A (isTrue e X.env (eval e X.env)) (TP X pins σ Q) X.xe s
def PW (X:Cx) (e:Expr) (t:TT):Prop :=
 ∀(whole:Sem Value) (pins:List (Addr × Obj)) (s:Shared) (σ:St) (H:Hp) (Q:Bool->Hp->Prop),Inv X pins σ H s->t σ H Q->wpAny (model X.prog X.w) X.A (isTrue e X.env whole) (TP X pins σ Q) X.xe s
theorem PW.pt {t:TT} (h:PW X e t):PT X e t:=h _
def PA (X:Cx) (es:List Expr) (t:TA):Prop :=
 ∀(pos:Pos) (pins:List (Addr × Obj)) (s:Shared) (σ:St) (H:Hp) (Q:List V->Hp->Prop),Inv X pins σ H s->t σ H Q->wpAny (model X.prog X.w) X.A (spliced (backTo pos (starEach es X.env))) (AP X pins σ Q) X.xe s
def PS (X:Cx) (st:Stmt) (t:TS):Prop :=
 ∀(pins:List (Addr × Obj)) (s:Shared) (σ:St) (H:Hp) (D:Ends),Inv X pins σ H s->t D σ H->wpAny (model X.prog X.w) X.A (exec st X.env) (SP X pins D) X.xe s
def PSs (X:Cx) (st:List Stmt) (t:TS):Prop :=
 ∀(pins:List (Addr × Obj)) (s:Shared) (σ:St) (H:Hp) (D:Ends),Inv X pins σ H s->t D σ H->wpAny (model X.prog X.w) X.A (execs st X.env) (SP X pins D) X.xe s
theorem thn {α:Type} {t:Sem α} {Q Q':α->Shared->Prop} {M:Model} (h:wpAny M A t Q E s) (hQ:∀a s,Q a s->Q' a s):wpAny M A t Q' E s:=wpAny_mono h hQ λ_ _ x=>x
def tVar (i:Nat):TE:=λσ H Q=>∃v,σ[i]? = some (some v)/\Q v H
def tC (v:V):TE:=λ_ H Q=>Q v H
theorem Xx (hN:X.N[i]? = some x) (hv:Vis X.env.scope x) (hd:(x == ("__debug__" : Str))=false:=by decide) (hcd:(x == ("__classdict__" : Str))=false:=by decide):PE X (.Name x pos) (tVar i):=by
 intro pins s σ H Q I h
 obtain ⟨v,e,h⟩:=h
 obtain ⟨m,hn,hl⟩:=I.loc
 obtain ⟨u,r,l⟩:=hl i x v hN e hv
 have fin:EP X pins σ Q u s:=⟨v,H,I,r,h⟩
 rcases l with ⟨hk,hm⟩ | ⟨hk,c,hc,hcell⟩
 ·exact wpAny_Name (wpAny_loadName_local I.ok.kind hk hn hm fin) hd
 ·rcases hk with hk | hk
  ·exact wpAny_Name (wpAny_loadName_cell I.ok.kind hk hc hcell fin) hd
  ·exact wpAny_Name (wpAny_loadName_free I.ok.kind hk hc hcell fin hcd) hd
theorem Qw2 {i j pos}:PE X (.Constant (.int i) j pos) (tC (.int i)):=λ_ _ _ H _ I h=>wpAny_Constant_int ⟨.int i,H,I.tok _,⟨_,rfl⟩,h⟩
theorem Q08 {b j pos}:PE X (.Constant (.bool b) j pos) (tC (.bl b)):=λ_ _ _ H _ I h=>Constant_bool ⟨.bl b,H,I,rfl,h⟩
theorem Qwz {j pos}:PE X (.Constant .none j pos) (tC .non):=λ_ _ _ H _ I h=>Constant_none ⟨.non,H,I,rfl,h⟩
theorem Qww {x j pos}:PE X (.Constant (.str x) j pos) (tC (.str x)):=λ_ _ _ H _ I h=>Calls.Constant_str ⟨.str x,H,I.tok _,⟨_,rfl⟩,h⟩
def Gl (X:Cx) (x:Str):Prop:=X.env.kindOf x=some .globalImplicit
theorem Xe (I:Inv X pins σ H s) (hg:Gl X x) (hm:X.mg x=some u) (h:Q u s)
  (hd:(x == ("__debug__" : Str))=false:=by decide):wpAny (model X.prog X.w) X.A (eval (.Name x pos) X.env) Q E s :=
 Calls.Name_function_global I.ok.kind hg (Calls.loadGlobal_global (by rw [I.ok.glob];exact I.mod.glob.keeps I.bk) hm h) hd
theorem Qcq (I:Inv X pins σ H s) (hg:Gl X x) (hm:X.mg x=none) (hv:bootBuiltins x=some u) (h:Q u s)
  (hn:x ≠ "__name__":=by decide) (hd:(x == ("__debug__" : Str))=false:=by decide):wpAny (model X.prog X.w) X.A (eval (.Name x pos) X.env) Q E s:=by
 obtain ⟨mb,h1,h2⟩:=I.mod.blt
 exact Calls.Name_function_global I.ok.kind hg (Calls.loadGlobal_builtin (by rw [I.ok.glob];exact I.mod.glob.keeps I.bk) hm (by rw [I.ok.blt];exact h1.keeps I.bk) ((h2 x hn).trans hv) h) hd
theorem Xa (hg:Gl X x) (hm:X.mg x=some u) (r:RelV v u) (hd:(x == ("__debug__" : Str))=false:=by decide):PE X (.Name x pos) (tC v) :=
 λ_ _ _ H _ I h=>Xe I hg hm ⟨v,H,I,r,h⟩ hd
theorem Qj6 (hg:Gl X x) (hm:X.mg x=none) (hv:bootBuiltins x=some u) (r:RelV v u) (hn:x ≠ "__name__":=by decide) (hd:(x == ("__debug__" : Str))=false:=by decide):PE X (.Name x pos) (tC v) :=
 λ_ _ _ H _ I h=>Qcq I hg hm hv ⟨v,H,I,r,h⟩ hn hd
section
variable {a b:Expr} {tA tB':TT}
def tAnd (t u:TT):TT:=λσ H Q=>t σ H λc H1=>if c=true then u σ H1 Q else Q false H1
def tOr (t u:TT):TT:=λσ H Q=>t σ H λc H1=>if c=true then Q true H1 else u σ H1 Q
def tNot (t:TT):TT:=λσ H Q=>t σ H λc H1=>Q (!c) H1
theorem Qr3 (ha:PT X a tA):PW X (.BoolOp .And [a] pos) tA:=by
 intro wh pins s σ H Q I h
 refine isTrue_and (thn (ha pins s σ H Q I h) λc s1 e=>?_)
 cases c with
 | true=>exact isTrue_and_nil e
 | false=>exact e
theorem Qwi (ha:PT X a tA):PW X (.BoolOp .Or [a] pos) tA:=by
 intro wh pins s σ H Q I h
 refine isTrue_or (thn (ha pins s σ H Q I h) λc s1 e=>?_)
 cases c with
 | false=>exact isTrue_or_nil e
 | true=>exact e
theorem Qwl (ha:PT X a tA) (hb:PW X (.BoolOp .And (b::rest) pos) tB'):PW X (.BoolOp .And (a::b::rest) pos) (tAnd tA tB'):=by
 intro wh pins s σ H Q I h
 refine isTrue_and (thn (ha pins s σ H _ I h) λc s1 ⟨H1,I1,q1⟩=>?_)
 cases c with
 | true=>exact hb wh pins s1 σ H1 Q I1 q1
 | false=>exact ⟨H1,I1,q1⟩
theorem Q01 (ha:PT X a tA) (hb:PW X (.BoolOp .Or (b::rest) pos) tB'):PW X (.BoolOp .Or (a::b::rest) pos) (tOr tA tB'):=by
 intro wh pins s σ H Q I h
 refine isTrue_or (thn (ha pins s σ H _ I h) λc s1 ⟨H1,I1,q1⟩=>?_)
 cases c with
 | true=>exact ⟨H1,I1,q1⟩
 | false=>exact hb wh pins s1 σ H1 Q I1 q1
theorem Qwm (ha:PT X a tA):PT X (.UnaryOp .Not a pos) (tNot tA):=by
 intro pins s σ H Q I h
 exact isTrue_not (ha pins s σ H (λc H1=>Q (!c) H1) I h)
def Qz5 (ta tb:TE):TE:=λσ H Q=>ta σ H λx H1=>∃c,x=.bl c/\if c=true then tb σ H1 Q else Q (.bl false) H1
def tOrV (ta tb:TE):TE:=λσ H Q=>ta σ H λx H1=>∃c,x=.bl c/\if c=true then Q (.bl true) H1 else tb σ H1 Q
def Qz0 (ta:TE):TE:=λσ H Q=>ta σ H λx H1=>∃c,x=.bl c/\Q (.bl (!c)) H1
theorem Qwx {op} {t:TE} (h:PE X a t):PE X (.BoolOp op [a] pos) t:=λpins s σ H Q I hw=>BoolOp_one (h pins s σ H Q I hw)
theorem Qw5 (ha:PE X a ta) (hb:PE X (.BoolOp .And (b::rest) pos) tb):PE X (.BoolOp .And (a::b::rest) pos) (Qz5 ta tb):=by
 intro pins s σ H Q I h
 refine BoolOp_and (thn (ha pins s σ H _ I h) λv s1 ⟨x,H1,I1,r1,q1⟩=>?_)
 obtain ⟨c,rfl,q1⟩:=q1
 cases r1
 refine wpAny_truthy_bool ?_
 cases c with
 | true=>exact hb pins s1 σ H1 Q I1 q1
 | false=>exact ⟨.bl false,H1,I1,rfl,q1⟩
theorem Q06 (ha:PE X a ta) (hb:PE X (.BoolOp .Or (b::rest) pos) tb):PE X (.BoolOp .Or (a::b::rest) pos) (tOrV ta tb):=by
 intro pins s σ H Q I h
 refine BoolOp_or (thn (ha pins s σ H _ I h) λv s1 ⟨x,H1,I1,r1,q1⟩=>?_)
 obtain ⟨c,rfl,q1⟩:=q1
 cases r1
 refine wpAny_truthy_bool ?_
 cases c with
 | false=>exact hb pins s1 σ H1 Q I1 q1
 | true=>exact ⟨.bl true,H1,I1,rfl,q1⟩
theorem Qwy (ha:PE X a ta):PE X (.UnaryOp .Not a pos) (Qz0 ta):=by
 intro pins s σ H Q I h
 refine UnaryOp_ (thn (ha pins s σ H _ I h) λv s1 ⟨x,H1,I1,r1,q1⟩=>?_)
 obtain ⟨c,rfl,q1⟩:=q1
 cases r1
 exact not_of (wpAny_truthy_bool ⟨.bl (!c),H1,I1,rfl,q1⟩)
def tIf (t:TT) (ta tb:TE):TE:=λσ H Q=>t σ H λc H1=>if c=true then ta σ H1 Q else tb σ H1 Q
theorem Qhd (hc:PT X c tA) (ha:PE X a ta) (hb:PE X b tb):PE X (.IfExp c a b pos) (tIf tA ta tb):=by
 intro pins s σ H Q I h
 refine wpAny_IfExp (thn (hc pins s σ H _ I h) λd s1 ⟨H1,I1,q1⟩=>?_)
 cases d with
 | true=>exact ha pins s1 σ H1 Q I1 q1
 | false=>exact hb pins s1 σ H1 Q I1 q1
end
def SqL (K:Frag) (H:Hp) (a:Addr) (xs:List V):Prop :=
 Rd H a (.lst xs) \/
  ∃(o:Obj) (its:Array Value) (n:Nat),K.lookup a=some o/\o.cls=.type "list" /\ o.dict=none/\o.data=.seq its n/\its.size<=sizeLine/\Vals xs its.toList
def SqT (K:Frag) (H:Hp) (a:Addr) (xs:List V):Prop :=
 Rd H a (.tup xs) \/
  ∃(o:Obj) (its:Array Value) (n:Nat),K.lookup a=some o/\o.cls=.type "tuple" /\ o.data=.seq its n/\its.size<=sizeLine/\Vals xs its.toList
def absV:Value->Option V
 | .none=>some .non
 | .bool b=>some (.bl b)
 | .int i _=>some (.int i)
 | .str x _=>some (.str x)
 | .bytes b _=>some (.byt b)
 | .float b _=>some (.flt b)
 | .ref a=>some (.ref a)
 | .type n=>some (.ty n)
 | _=>none
theorem RelV.abs {x:V} (r:RelV x u):absV u=some x:=by
 cases x with
 | non=>cases r;rfl
 | bl _=>cases r;rfl
 | int _=>obtain ⟨t,rfl⟩:=r;rfl
 | str _=>obtain ⟨t,rfl⟩:=r;rfl
 | byt _=>obtain ⟨t,rfl⟩:=r;rfl
 | flt _=>obtain ⟨t,rfl⟩:=r;rfl
 | ref _=>cases r;rfl
 | ty _=>cases r;rfl
theorem RelV.inj {x:V} (r:RelV x u) (q:RelV y u):x=y:=Option.some.inj (r.abs.symm.trans q.abs)
theorem Vals.inj:∀{xs ys:List V} {us:List Value},Vals xs us->Vals ys us->xs=ys
 | _,_,_,.nil,.nil=>rfl
 | _,_,_,.cons r t,.cons r' t'=>by rw [r.inj r',Vals.inj t t']
theorem SqL.of (h:H a=some (.lst xs)):SqL K H a xs:=.inl (.inl h)
theorem SqT.of (h:H a=some (.tup xs)):SqT K H a xs:=.inl (.inl h)
theorem Inv.list (I:Inv X pins σ H s) (h:SqL X.K H a xs):∃its:List Value,Vals xs its/\PlainL s.heap a its.toArray/\xs.length<=sizeLine:=by
 rcases h with h | ⟨o,its,n,hk,hc,hd,hs,hz,r⟩
 ·obtain ⟨z,its,n,r,e⟩:=h.ok I.hok
  exact ⟨its,r,⟨_,n,e,rfl,rfl,rfl⟩,z⟩
 ·refine ⟨its.toList,r,⟨o,n,I.kIn a o hk,hc,hd,by simpa using hs⟩,?_⟩
  have e:=r.length
  simp only [Array.length_toList] at e
  omega
theorem Inv.tuple (I:Inv X pins σ H s) (h:SqT X.K H a xs):∃its:List Value,Vals xs its/\IsTup s.heap a its.toArray/\xs.length<=sizeLine:=by
 rcases h with h | ⟨o,its,n,hk,hc,hs,hz,r⟩
 ·obtain ⟨z,its,r,p⟩:=h.ok I.hok
  exact ⟨its,r,p,z⟩
 ·refine ⟨its.toList,r,⟨o,I.kIn a o hk,hc,n,by simpa using hs⟩,?_⟩
  have e:=r.length
  simp only [Array.length_toList] at e
  omega
theorem Inv.list_inj (I:Inv X pins σ H s) (h:SqL X.K H a xs) (h':SqL X.K H a ys):xs=ys:=by
 obtain ⟨its,r,⟨o,n,e,_,_,d⟩,_⟩:=I.list h
 obtain ⟨its',r',⟨o',n',e',_,_,d'⟩,_⟩:=I.list h'
 rw [e] at e';cases e'
 rw [d] at d'
 injection d' with d1 _
 have:its=its':=by simpa using congrArg Array.toList d1
 subst this
 exact r.inj r'
theorem Inv.tuple_inj (I:Inv X pins σ H s) (h:SqT X.K H a xs) (h':SqT X.K H a ys):xs=ys:=by
 obtain ⟨its,r,⟨o,e,_,n,d⟩,_⟩:=I.tuple h
 obtain ⟨its',r',⟨o',e',_,n',d'⟩,_⟩:=I.tuple h'
 rw [e] at e';cases e'
 rw [d] at d'
 injection d' with d1 _
 have:its=its':=by simpa using congrArg Array.toList d1
 subst this
 exact r.inj r'
abbrev Cx.wish (X:Cx) (E:Value->Shared->Prop):Cx:={ X with xe:=E }
abbrev Cx.nox (X:Cx):Cx:=X.wish λ_ _=>False
theorem Cx.Ok.wish (ok:X.Ok) (E:Value->Shared->Prop):(X.wish E).Ok :=
 ⟨ok.mod,ok.kind,ok.glob,ok.blt,ok.above,ok.inj,ok.has,ok.cab,ok.hd,ok.frames,ok.stk,ok.exf,ok.bs,ok.bsz,ok.noex,ok.exfs,ok.funs,ok.frf⟩
theorem Cx.Ok.unwish (ok:(X.wish E).Ok):X.Ok :=
 ⟨ok.mod,ok.kind,ok.glob,ok.blt,ok.above,ok.inj,ok.has,ok.cab,ok.hd,ok.frames,ok.stk,ok.exf,ok.bs,ok.bsz,ok.noex,ok.exfs,ok.funs,ok.frf⟩
theorem Inv.wish (I:Inv X pins σ H s) (E:Value->Shared->Prop):Inv (X.wish E) pins σ H s:=⟨I.ok.wish E,I.os,I.bare,I.base,I.loc,I.cell,I.free,I.freeC,I.pin,I.hok,I.len⟩
theorem Inv.unwish (I:Inv (X.wish E) pins σ H s):Inv X pins σ H s:=⟨I.ok.unwish,I.os,I.bare,I.base,I.loc,I.cell,I.free,I.freeC,I.pin,I.hok,I.len⟩
theorem SP.unwish {D:Ends} {f:Flow} (h:SP (X.wish E) pins D f s'):SP X pins D f s':=by
 cases f with
 | next=>obtain ⟨σ',H',I,q⟩:=h;exact ⟨σ',H',I.unwish,q⟩
 | brk=>obtain ⟨σ',H',I,q⟩:=h;exact ⟨σ',H',I.unwish,q⟩
 | cont=>obtain ⟨σ',H',I,q⟩:=h;exact ⟨σ',H',I.unwish,q⟩
 | ret u=>obtain ⟨v,σ',H',I,r,q⟩:=h;exact ⟨v,σ',H',I.unwish,r,q⟩
theorem PE.nox {t:TE} (h:PE X.nox e t):PE X e t:=λpins s σ H Q I hw =>
 wpAny_mono (h pins s σ H Q (I.wish _) hw) (λ_ _ ⟨v,H',I',r,q⟩=>⟨v,H',I'.unwish,r,q⟩) λ_ _ z=>False.elim z
theorem PSs.nox {st:List Stmt} {t:TS} (h:PSs X.nox st t):PSs X st t:=λpins s σ H D I hw =>
 wpAny_mono (h pins s σ H D (I.wish _) hw) (λ_ _ q=>q.unwish) λ_ _ z=>False.elim z
section
variable {rest:List Stmt} {t u:TS}
def Qz1:TS:=λD σ H=>D.nx σ H
def tSeq (t u:TS):TS:=λD σ H=>t { D with nx:=u D } σ H
theorem Qr5:PSs X [] Qz1:=λ_ _ σ H _ I h=>wpAny_execs_nil ⟨σ,H,I,h⟩
theorem Qg9 (h1:PS X st t) (h2:PSs X rest u):PSs X (st::rest) (tSeq t u):=by
 intro pins s σ H D I h
 refine wpAny_execs_cons (thn (h1 pins s σ H { D with nx:=u D } I h) λf s1 q=>?_)
 cases f with
 | next =>
  obtain ⟨σ',H',I',q⟩:=q
  exact h2 pins s1 σ' H' D I' q
 | ret v=>exact q
 | brk=>exact q
 | cont=>exact q
theorem Qj0 (h1:PS X st t):PSs X [st] t:=by
 intro pins s σ H D I h
 refine wpAny_execs_cons (thn (h1 pins s σ H D I h) λf s1 q=>?_)
 cases f with
 | next=>exact wpAny_execs_nil q
 | ret v=>exact q
 | brk=>exact q
 | cont=>exact q
theorem Inv.quiet (I:Inv X pins σ H s):interactive X.env=false:=by simp [interactive,I.ok.kind]
def Qz2 (te:TE):TS:=λD σ H=>te σ H λ_ H1=>D.nx σ H1
theorem Qr8 (he:PE X e te) (hs:swapsWith e none pos.line X.env=pure false:=by rfl):PS X (.Expr e pos) (Qz2 te):=by
 intro pins s σ H D I h
 exact wpAny_Expr_any (thn (he pins s σ H _ I h) λv s1 ⟨x,H1,I1,r1,q1⟩=>⟨σ,H1,I1,q1⟩) I.quiet hs
def tRet (te:TE):TS:=λD σ H=>te σ H D.rt
theorem Qph (he:PE X e te):PS X (.Return (some e) pos) (tRet te):=by
 intro pins s σ H D I h
 exact wpAny_Return_some (thn (he pins s σ H _ I h) λv s1 ⟨x,H1,I1,r1,q1⟩=>⟨x,σ,H1,I1,r1,q1⟩)
def tIfS (c:TT) (t u:TS):TS:=λD σ H=>c σ H λb H1=>if b=true then t D σ H1 else u D σ H1
theorem Q02 {a b:List Stmt} {tc:TT} (hc:PT X c tc) (ha:PSs X a t) (hb:PSs X b u):PS X (.If c a b pos) (tIfS tc t u):=by
 intro pins s σ H D I h
 refine wpAny_If (thn (hc pins s σ H _ I h) λd s1 ⟨H1,I1,q1⟩=>?_)
 cases d with
 | true=>exact ha pins s1 σ H1 D I1 q1
 | false=>exact hb pins s1 σ H1 D I1 q1
end
abbrev TG:=V->St->Hp->(St->Hp->Prop)->Prop
abbrev TGs:=List V->St->Hp->(St->Hp->Prop)->Prop
def PG (X:Cx) (target:Expr) (t:TG):Prop :=
 ∀(pins:List (Addr × Obj)) (s:Shared) (σ:St) (H:Hp) (v:V) (u:Value) (Q:St->Hp->Prop),Inv X pins σ H s->RelV v u->t v σ H Q ->
  wpAny (model X.prog X.w) X.A (assign target X.env u) (λ_ s'=>∃σ' H',Inv X pins σ' H' s'/\Q σ' H') X.xe s
def PGs (X:Cx) (ts:List Expr) (t:TGs):Prop :=
 ∀(pins:List (Addr × Obj)) (s:Shared) (σ:St) (H:Hp) (vs:List V) (us:List Value) (Q:St->Hp->Prop),Inv X pins σ H s->Vals vs us->t vs σ H Q ->
  wpAny (model X.prog X.w) X.A (assignInOrder ((assignEach ts X.env).map (·.2)) us) (λ_ s'=>∃σ' H',Inv X pins σ' H' s'/\Q σ' H') X.xe s
abbrev TSet:=V->V->V->Hp->(Hp->Prop)->Prop
end L2
variable {o:PySem.Obj} {es:List PySem.Expr} {n:Nat} {to:L2.TE} {tg:PySem.Expr} {g:L2.TG} {pos':PySem.Pos}
namespace L2
open PySem PySem.Spec PyProof.Rows
def PSet (X:Cx) (t:TSet):Prop :=
 ∀(pins:List (Addr × Obj)) (s:Shared) (σ:St) (H:Hp) (o i v:V) (ov iv u:Value) (Q:Hp->Prop),Inv X pins σ H s->RelV o ov->RelV i iv->RelV v u->t o i v H Q ->
  wpAny (model X.prog X.w) X.A (setItem ov iv u) (λ_ s'=>∃H',Inv X pins σ H' s'/\Q H') X.xe s
def Qk9 (i:Nat):TG:=λv σ H Q=>Q (σ.set i (some v)) H
theorem Qdd (hN:X.N.Nodup) (hi:X.N[i]? = some x) (hx:Loc X.env.scope x) (hf:X.fn x=true\/X.env.scope.names.lookup x=some .local:=by first | exact .inl rfl | exact .inr rfl | assumption):PG X (.Name x pos) (Qk9 i):=by
 intro pins s σ H v u Q I r h
 exact wpAny_assign_Name (Qc1 I hN hi hx r (λs' I'=>⟨_,H,I',h⟩) hf)
def gNil:TGs:=λvs σ H Q=>vs=[]/\Q σ H
def Qs9 (t:TG) (u:TGs):TGs:=λvs σ H Q=>∃v r,vs=v::r/\t v σ H λσ' H'=>u r σ' H' Q
theorem Qsd:PGs X [] gNil:=by
 intro pins s σ H vs us Q I r h
 obtain ⟨e,h⟩:=h
 subst e
 cases r
 exact assignInOrder_nil ⟨σ,H,I,h⟩
theorem Qhc {t:TG} {u:TGs} (h1:PG X e t) (h2:PGs X es u)
  (hs:(assignEach (e::es) X.env).map (·.2)=assign e X.env::(assignEach es X.env).map (·.2):=by rfl):PGs X (e::es) (Qs9 t u):=by
 intro pins s σ H vs us Q I r h
 obtain ⟨v,vr,e1,h⟩:=h
 subst e1
 cases r with
 | cons r rr =>
  rw [hs]
  refine assignInOrder_cons (thn (h1 pins s σ H _ _ _ I r h) λ_ s1 ⟨σ1,H1,I1,q1⟩=>?_)
  exact h2 pins s1 σ1 H1 _ _ Q I1 rr q1
def gTup (K:Frag) (n:Nat) (t:TGs):TG:=λv σ H Q=>∃a xs,v=.ref a/\SqT K H a xs/\xs.length=n/\t xs σ H Q
theorem Qws {k:Nat} {t:TGs} (hc:X.calm=true) (h:PGs X es t)
  (hn:(assignEach es X.env).length=n:=by rfl) (hst:(assignEach es X.env).findIdx? (·.1)=none:=by rfl):PG X (.Tuple es k pos) (gTup X.K n t):=by
 intro pins s σ H v u Q I r hw
 obtain ⟨a,xs,e1,hq,hl,hw⟩:=hw
 subst e1
 cases r
 obtain ⟨its,rv,ht,hz⟩:=I.tuple hq
 refine assign_Tuple_tuple (I.ok.hd hc) ht (by simp [hn,← hl,rv.length]) hst λh' hx=>?_
 have I1:Inv X pins σ H { s with heap:=h' }:=I.kept (t':=s.toks) λb o e=>hx b o (Nat.ne_of_lt (Heap.lt_size e)) e
 exact h pins _ σ H xs _ Q I1 (by simpa using rv) hw
def gSub (to ti:TE) (t:TSet):TG:=λv σ H Q=>to σ H λo H1=>ti σ H1 λi H2=>t o i v H2 λH3=>Q σ H3
theorem Qwt {o i:Expr} {ti:TE} {t:TSet} (ho:PE X o to) (hi:PE X i ti) (hs:PSet X t)
  (ha:∀v,assign (.Subscript o i pos) X.env v=(do
   let ov ← holding [v] (eval o X.env)
   let iv ← holding [v,ov] (eval i X.env)
   standAt pos
   holding [v,ov,iv] (setItem ov iv v)
   release [v,ov,iv] []):=by intro _;rfl):PG X (.Subscript o i pos) (gSub to ti t):=by
 intro pins s σ H v u Q I r h
 rw [ha]
 refine wpAny_bind (wpAny_holding (thn (ho pins s σ H _ I h) λov s1 ⟨x,H1,I1,r1,q1⟩=>?_))
 refine wpAny_bind (wpAny_holding (thn (hi pins s1 σ H1 _ I1 q1) λiv s2 ⟨y,H2,I2,r2,q2⟩=>?_))
 refine wpAny_bind (wpAny_standAt (wpAny_bind (wpAny_holding (thn (hs pins s2 σ H2 x y v ov iv u _ I2 r1 r2 r q2) λ_ s3 ⟨H3,I3,q3⟩=>?_))))
 exact wpAny_release ⟨σ,H3,I3,q3⟩
def tAsg (te:TE) (g:TG):TS:=λD σ H=>te σ H λx H1=>g x σ H1 D.nx
theorem Qwo (he:PE X e te) (hg:PG X tg g) (hs:swapsWithSole [tg] e pos.line X.env=pure false:=by rfl) (hw:swappedStores [tg] e X.env=pure none:=by rfl)
  (h1:(assignEach [tg] X.env).map (·.2)=[assign tg X.env]:=by rfl):PS X (.Assign [tg] e pos) (tAsg te g):=by
 intro pins s σ H D I h
 refine wpAny_Assign_stores (thn (he pins s σ H _ I h) λv s1 ⟨x,H1,I1,r1,q1⟩=>?_) hs hw
 rw [h1]
 exact thn (hg pins s1 σ H1 x v _ I1 r1 q1) λ_ s2 q=>q
theorem Qpg (hN:X.N.Nodup) (hi:X.N[i]? = some x) (hx:Loc X.env.scope x) (he:PE X e te) (hs:swapsWith e (some (.Name x pos')) pos.line X.env=pure false:=by rfl) (hf:X.fn x=true\/X.env.scope.names.lookup x=some .local:=by first | exact .inl rfl | exact .inr rfl | assumption) :
  PS X (.Assign [.Name x pos'] e pos) (tAsg te (Qk9 i)):=by
 intro pins s σ H D I h
 refine wpAny_Assign_Name (thn (he pins s σ H _ I h) λv s1 ⟨y,H1,I1,r1,q1⟩=>?_) hs
 exact Qc1 I1 hN hi hx r1 (λs2 I2=>⟨_,H1,I2,q1⟩) hf
structure It where
 go:Nat->Hp->Prop
 yld:Nat->Hp->V->Hp->Prop
 stop:Nat->Hp->Prop
def FpOk (X:Cx) (pins:List (Addr × Obj)) (H:Hp) (b:Addr):Prop :=
 H b=none/\b≠X.env.locals/\b∉X.fs/\(b∈X.ex\/X.s₀.heap.objs.size<=b)/\(∀x c,X.env.cells.lookup x=some c->c≠b)/\∀p∈X.pn++pins,p.1≠b
theorem Inv.fpOk (I:Inv X pins σ H s) (hb:s.heap.objs.size<=b) (hn:H' b=none):FpOk X pins H' b:=by
 refine ⟨hn,Nat.ne_of_gt (Nat.lt_of_lt_of_le I.lt hb),I.nofs hb,.inr (Nat.le_trans I.sz hb),λx c e z=>?_,λp hp z=>?_⟩
 ·obtain ⟨v,q⟩:=I.cell x c e
  exact absurd (Nat.lt_of_lt_of_le q.lt (by rw [z];exact hb)) (Nat.lt_irrefl _)
 ·exact absurd (Nat.lt_of_lt_of_le (Heap.lt_size (I.pin p hp).1) (by rw [z];exact hb)) (Nat.lt_irrefl _)
structure Turn (P:Program) (w:World) (K:Frag) (tg:Expr) (J:It) (fp:List Addr) (it:Addr) (tn:Nat->Heap->Prop):Prop where
 mem:it∈fp
 obj:∀i h,tn i h->∀b∈fp,∃o,h.get? b=some o/\∀v,o.data ≠ .cell v
 keep:∀i h h',tn i h->(∀b∈fp,∀o,h.get? b=some o->h'.get? b=some o)->tn i h'
 item:∀(X:Cx),X.prog=P->X.w=w->X.K=K->X.calm=true->∀(i:Nat) (pins:List (Addr × Obj)) (s:Shared) (σ:St) (H:Hp) (E:Value->Shared->Prop),Inv X pins σ H s->(∀b∈fp,FpOk X pins H b)->tn i s.heap->J.go i H ->
  wpAny (model P w) X.A (pyNext (.ref it)) (λr s1=>∃u,r=some u /\
   wpAny (model P w) X.A (letOwnedTupleGo tg (.ref it) u) (λ_ s2=>∃x H',Inv X pins σ H' s2/\RelV x u/\J.yld i H x H'/\tn (i+1) s2.heap/\∀b∈fp,H' b=none) E s1) E s
 done:∀(X:Cx),X.prog=P->X.w=w->X.K=K->X.calm=true->∀(i:Nat) (pins:List (Addr × Obj)) (s:Shared) (σ:St) (H:Hp) (E:Value->Shared->Prop),Inv X pins σ H s->(∀b∈fp,FpOk X pins H b)->tn i s.heap->J.stop i H ->
  wpAny (model P w) X.A (pyNext (.ref it)) (λr s1=>r=none/\Inv X pins σ H s1) E s
 self:∀(A:Around) (i:Nat) (s:Shared) (Q:Value->Shared->Prop) (E:Value->Shared->Prop),tn i s.heap->Q (.ref it) s->wpAny (model P w) A (pyIter (.ref it)) Q E s
abbrev TI:=St->Hp->(It->Hp->Prop)->Prop
end L2
variable {vs:List L2.V} {R:PySem.Result->PySem.Shared->Prop} {hi:Option Int} {tk:PySem.Tok} {p:PySem.Pos} {fp:List PySem.Addr} {iter:PySem.Expr} {body:List PySem.Stmt} {wi:L2.TI}
namespace L2
open PySem PySem.Spec PyProof.Rows
def PIE (X:Cx) (pins:List (Addr × Obj)) (σ:St) (tg:Expr) (R:It->Hp->Prop) (itv:Value) (s2:Shared):Prop :=
 ∃(it:Addr) (fp:List Addr) (tn:Nat->Heap->Prop) (J:It) (H':Hp),itv=.ref it/\Inv X pins σ H' s2/\Turn X.prog X.w X.K tg J fp it tn/\tn 0 s2.heap/\(∀b∈fp,FpOk X pins H' b)/\R J H'
def PI (X:Cx) (tg iter:Expr) (wi:TI):Prop :=
 ∀(pins:List (Addr × Obj)) (s:Shared) (σ:St) (H:Hp) (R:It->Hp->Prop),Inv X pins σ H s->wi σ H R ->
  wpAny (model X.prog X.w) X.A (eval iter X.env) (λv s1=>wpAny (model X.prog X.w) X.A (pyIter v) (PIE X pins σ tg R) X.xe s1) X.xe s
theorem Qn7 {M:Model} {n:String} {vs:Array Value} {Q:Unit->Shared->Prop} (ho:s.heap.get? it=some o) (hc:o.cls=.type n) (hd:o.data=.fields vs)
    (hn:["enumerate","zip","dict_itemiterator","dict_reverseitemiterator","odict_iterator","itertools.zip_longest","itertools.pairwise"].contains n=false) (hQ:Q () s):wpAny M A (letOwnedTupleGo tg (.ref it) u) Q E s:=by
  unfold letOwnedTupleGo
  cases tg <;> first
    | exact wpAny_pure hQ
    | (cases u <;> first
        | exact wpAny_pure hQ
        | (refine wpAny_bind (wpAny_load ho ?_)
           rw [hc,hd]
           show wpAny M A (if (["enumerate","zip","dict_itemiterator","dict_reverseitemiterator","odict_iterator","itertools.zip_longest","itertools.pairwise"].contains n && vs[0]? == some (rawInt _))=true then _ else _) Q E s
           rw [if_neg (by intro h;rw [hn,Bool.false_and] at h;cases h)]
           exact wpAny_pure hQ))
def Itl (K:Frag) (a:Addr):It :=
 ⟨λi H=>∃xs x,SqL K H a xs/\xs[i]? = some x,λi H x H'=>H'=H/\∀xs,SqL K H a xs->xs[i]? = some x,λi H=>∃xs,SqL K H a xs/\xs.length<=i⟩
def Itt (K:Frag) (a:Addr):It :=
 ⟨λi H=>∃xs x,SqT K H a xs/\xs[i]? = some x,λi H x H'=>H'=H/\∀xs,SqT K H a xs->xs[i]? = some x,λi H=>∃xs,SqT K H a xs/\xs.length<=i⟩
def Itr (lo:Int) (n:Nat):It:=⟨λi _=>i<n,λi H x H'=>H'=H/\x=.int (lo+i),λi _=>n<=i⟩
theorem Qi8 (a it:Addr):Turn P w K tg (Itl K a) [it] it (λi h=>h.IsListIter it a i) where
 mem:=by simp
 obj:=λi h st b hb=>by
  have e:b=it:=by simpa using hb
  subst e
  obtain ⟨o,e,c,d⟩:=st
  exact ⟨o,e,λv z=>by rw [d] at z;cases z⟩
 keep:=λi h h' st k=>st.at λo e=>k it (by simp) o e
 item:=by
  intro X hP hw hK hc i pins s σ H E I hf st hg
  subst hP hw hK
  obtain ⟨xs,x,hq,hx⟩:=hg
  obtain ⟨its,rv,p,hz⟩:=I.list hq
  obtain ⟨u,hu,ru⟩:=rv.get hx
  obtain ⟨f0,f1,f2,f3,f4,f5⟩:=hf it (by simp)
  refine wpAny_pyNext_list_item st p.isList (x:=u) (by simpa using hu) λh' st' sb=>?_
  have I1:Inv X pins σ H { s with heap:=h' }:=I.turned (t':=s.toks) (λb o hb e=>(sb.2 b hb).trans e) f0 f1 f3 f4 f5
  obtain ⟨o,e,c,d⟩:=id st'
  exact ⟨u,rfl,Qn7 (s:={ s with heap:=h' }) e c d (by decide) ⟨x,H,I1,ru,⟨rfl,λys hy=>by rw [I.list_inj hy hq];exact hx⟩,st',λb hb=>(hf b hb).1⟩⟩
 done:=by
  intro X hP hw hK hc i pins s σ H E I hf st hg
  subst hP hw hK
  obtain ⟨xs,hq,hx⟩:=hg
  obtain ⟨its,rv,p,hz⟩:=I.list hq
  obtain ⟨f0,f1,f2,f3,f4,f5⟩:=hf it (by simp)
  have hl:=rv.length
  exact wpAny_pyNext_list_end (I.ok.hd hc) st p.isList (by simp;omega) λh' eb=>⟨rfl,I.turned (t':=s.toks) (λb o hb e=>eb b o hb e) f0 f1 f3 f4 f5⟩
 self:=λ_ _ _ _ _ st h=>wpAny_pyIter_listiter st h
theorem Qhz (a it:Addr):Turn P w K tg (Itt K a) [it] it (λi h=>h.IsTupleIter it a i) where
 mem:=by simp
 obj:=λi h st b hb=>by
  have e:b=it:=by simpa using hb
  subst e
  obtain ⟨o,e,c,d⟩:=st
  exact ⟨o,e,λv z=>by rw [d] at z;cases z⟩
 keep:=λi h h' st k=>st.at λo e=>k it (by simp) o e
 item:=by
  intro X hP hw hK hc i pins s σ H E I hf st hg
  subst hP hw hK
  obtain ⟨xs,x,hq,hx⟩:=hg
  obtain ⟨its,rv,p,hz⟩:=I.tuple hq
  obtain ⟨u,hu,ru⟩:=rv.get hx
  obtain ⟨f0,f1,f2,f3,f4,f5⟩:=hf it (by simp)
  refine wpAny_pyNext_tuple_item st (show s.heap.IsTuple a its.toArray from p) (x:=u) (by simpa using hu) λh' st' sb=>?_
  have I1:Inv X pins σ H { s with heap:=h' }:=I.turned (t':=s.toks) (λb o hb e=>(sb.2 b hb).trans e) f0 f1 f3 f4 f5
  obtain ⟨o,e,c,d⟩:=id st'
  exact ⟨u,rfl,Qn7 (s:={ s with heap:=h' }) e c d (by decide) ⟨x,H,I1,ru,⟨rfl,λys hy=>by rw [I.tuple_inj hy hq];exact hx⟩,st',λb hb=>(hf b hb).1⟩⟩
 done:=by
  intro X hP hw hK hc i pins s σ H E I hf st hg
  subst hP hw hK
  obtain ⟨xs,hq,hx⟩:=hg
  obtain ⟨its,rv,p,hz⟩:=I.tuple hq
  obtain ⟨f0,f1,f2,f3,f4,f5⟩:=hf it (by simp)
  have hl:=rv.length
  exact wpAny_pyNext_tuple_end (I.ok.hd hc) st (show s.heap.IsTuple a its.toArray from p) (by simp;omega) λh' eb=>⟨rfl,I.turned (t':=s.toks) (λb o hb e=>eb b o hb e) f0 f1 f3 f4 f5⟩
 self:=λ_ _ _ _ _ st h=>wpAny_pyIter_tupleiter st h
theorem Qh0 (it:Addr) (lo:Int) (n:Nat):Turn P w K tg (Itr lo n) [it] it (λi h=>IsRangeIter h it (lo+(i:Nat)*1) ((n:Int)-(i:Nat)) 1) where
 mem:=by simp
 obj:=λi h st b hb=>by
  have e:b=it:=by simpa using hb
  subst e
  exact ⟨_,st,λv z=>by
   have z':Data.fields _=Data.cell v:=z
   cases z'⟩
 keep:=λi h h' st k=>k it (by simp) _ st
 item:=by
  intro X hP hw hK hc i pins s σ H E I hf st hg
  subst hP hw hK
  obtain ⟨f0,f1,f2,f3,f4,f5⟩:=hf it (by simp)
  have W:=Walks.range (prog:=X.prog) (w:=X.w) (I.ok.hd hc) it lo 1 n
  refine W.item i s _ _ hg st λv h' tk hv st' kk=>?_
  obtain ⟨t,rfl⟩:=hv
  have I1:Inv X pins σ H { s with heap:=h',toks:=tk }:=I.turned (λb o hb e=>kk b o (by simpa using hb) e) f0 f1 f3 f4 f5
  refine ⟨_,rfl,Qn7 (s:={ s with heap:=h',toks:=tk }) (n:="range_iterator") st' rfl rfl (by decide) ⟨.int (lo+i),H,I1,⟨t,?_⟩,⟨rfl,rfl⟩,st',λb hb=>(hf b hb).1⟩⟩
  rw [Int.mul_one]
 done:=by
  intro X hP hw hK hc i pins s σ H E I hf st hg
  subst hP hw hK
  obtain ⟨f0,f1,f2,f3,f4,f5⟩:=hf it (by simp)
  exact wpAny_pyNext_range_end (I.ok.hd hc) st (by have:n<=i:=hg;omega) λh' eb=>⟨rfl,I.turned (t':=s.toks) (λb o hb e=>eb b o hb e) f0 f1 f3 f4 f5⟩
 self:=λ_ _ _ _ _ st h=>wpAny_pyIter_rangeiter st h
theorem Qm4 {R:It->Hp->Prop} {lo hi:Int} {t u v:Tok} {tk:Nat} (I:Inv X pins σ H s) (h1:-(2 ^ 62)<=lo) (h2:lo<2 ^ 62) (h3:-(2 ^ 62)<=hi) (h4:hi<2 ^ 62)
  (q:R (Itr lo (hi-lo).toNat) H):wpAny (model X.prog X.w) X.A (pyIter (.ref s.heap.objs.size)) (PIE X pins σ tg R) E { s with heap:=s.heap.push { cls:=.type "range",data:=.fields #[.int lo t,.int hi u,.int 1 v] },toks:=tk }:=by
 refine wpAny_pyIter_range (IsRange.new ..) (small_one h1 h2 h3 h4) ?_
 have I1:Inv X pins σ H { s with heap:=s.heap.push { cls:=.type "range",data:=.fields #[.int lo t,.int hi u,.int 1 v] },toks:=tk }:=I.kept λb o e=>Heap.get?_push_of_some _ e
 refine ⟨(s.heap.push { cls:=.type "range",data:=.fields #[.int lo t,.int hi u,.int 1 v] }).objs.size,[(s.heap.push { cls:=.type "range",data:=.fields #[.int lo t,.int hi u,.int 1 v] }).objs.size],_,_,H,rfl,
  I1.kept (t':=tk) λb o e=>Heap.get?_push_of_some _ e,Qh0 _ lo (hi-lo).toNat,?_,λb hb=>?_,q⟩
 ·have e1:lo+((0:Nat):Int)*1=lo:=by simp
  have e2:(((hi-lo).toNat:Nat):Int)-((0:Nat):Int)=Builtin.Range.rangeSize lo hi 1:=by rw [rangeSize_one];split <;> omega
  show IsRangeIter _ _ (lo+((0:Nat):Int)*1) ((((hi-lo).toNat:Nat):Int)-((0:Nat):Int)) 1
  rw [e1,e2]
  exact Heap.get?_push_size _ rfl
 ·have e:b=(s.heap.push { cls:=.type "range",data:=.fields #[.int lo t,.int hi u,.int 1 v] }).objs.size:=by simpa using hb
  subst e
  exact I1.fpOk (Nat.le_refl _) (I1.hok.fresh (Nat.le_refl _))
def Q1p (ta:TA):TI:=λσ H R=>ta σ H λvs H1=>∃j:Int,vs=[.int j] /\ -(2 ^ 62)<=j/\j<2 ^ 62/\R (Itr 0 j.toNat) H1
theorem Qj5 {a:Expr} {ta:TA} (hg:Gl X "range") (hm:X.mg "range" = none) (ha:PA X [a] ta) (hs:starEach [a] X.env=[(false,eval a X.env)]:=by rfl):PI X tg (.Call (.Name "range" p) [a] [] pos) (Q1p ta):=by
 intro pins s σ H R I h
 refine Call_ (Qcq I hg hm boot_range (PyProof.Rows.callWith_type1 (thn (ha pos pins s σ H _ I h) λus s1 ⟨vs,H1,I1,r1,q1⟩=>?_) hs rfl))
 obtain ⟨j,e,q1,q2,q⟩:=q1
 subst e
 cases r1 with
 | cons r rr =>
  cases rr
  obtain ⟨t,rfl⟩:=r
  exact call_range_1 (Qm4 I1 (by omega) (by omega) q1 q2 (by simpa using q))
def tFor (wi:TI) (g:TG) (tb:TS):TS:=λD σ H=>wi σ H λJ H1=>∃W:Nat->Nat->St->Hp->Prop,(∃m,W 0 m σ H1)/\∀i m σ H,W i m σ H ->
 (J.stop i H/\D.nx σ H)\/(J.go i H/\∃N:St->Hp->Prop,(∀σ' H',N σ' H'->∃m',m' < m/\W (i+1) m' σ' H')/\∀x H',J.yld i H x H'->g x σ H' λσ2 H2=>tb { D with nx:=N,ct:=N,bk:=D.nx } σ2 H2)
def Qem (fp:List Addr) (h:Heap):List (Addr × Obj):=fp.filterMap λb=>(h.get? b).map λo=>(b,o)
theorem V7 (hb:b∈fp) (e:h.get? b=some o):(b,o)∈Qem fp h:=List.mem_filterMap.mpr ⟨b,hb,by rw [e];rfl⟩
theorem Qkc {p:Addr × Obj} (hp:p∈Qem fp h):p.1∈fp/\h.get? p.1=some p.2:=by
 obtain ⟨b,hb,e⟩:=List.mem_filterMap.mp hp
 cases q:h.get? b with
 | none=>rw [q] at e;cases e
 | some o =>
  rw [q] at e
  have e':(b,o)=p:=Option.some.inj e
  subst e'
  exact ⟨hb,q⟩
theorem Inv.pinned (I:Inv X pins σ H s) (hf:∀b∈fp,FpOk X pins H b) (ho:∀b∈fp,∃o,s.heap.get? b=some o/\∀v,o.data ≠ .cell v):Inv X (pins++Qem fp s.heap) σ H s :=
 I.pins_of λp hp=>(List.mem_append.mp hp).elim (λz=>I.pin p (List.mem_append_right _ z)) λz=>by
  obtain ⟨hb,e⟩:=Qkc z
  obtain ⟨f0,f1,f2,_⟩:=hf p.1 hb
  obtain ⟨o,e',d⟩:=ho p.1 hb
  rw [e] at e';cases e'
  exact ⟨e,f0,f1,f2,d⟩
theorem Inv.unpinned {pl:List (Addr × Obj)} (I:Inv X (pins++pl) σ H s):Inv X pins σ H s:=I.pins_of λp hp=>I.pin p (List.mem_append_right _ (List.mem_append_left _ hp))
theorem Qwn {tb:TS} (hp:PassesOwn (model X.prog X.w) X.A X.env X.xe) (hc:X.calm=true) (hi:PI X tg iter wi) (hg:PG X tg g) (hb:PSs X body tb)
  (hs:∀x,foldedSetIterable iter X.env x=pure x:=by intro _;rfl):PS X (.For tg iter body [] pos) (tFor wi g tb):=by
 intro pins s σ H D I h
 refine wpAny_For (thn (hi pins s σ H _ I h) λv s1 h1=>thn h1 λitv s2 h2=>?_) hs
 obtain ⟨it,fp,tn,J,H2,e,I2,T,st2,f2,W,⟨m0,w0⟩,turn⟩:=h2
 subst e
 -- what stays true of the iterator's objects through the loop
 have stat:∀{H':Hp},(∀b∈fp,H' b=none)->∀b∈fp,FpOk X pins H' b:=λhn b hb=>⟨hn b hb,(f2 b hb).2⟩
 refine codeAny_forLoop_any (λn s'=>∃i σ' H',Inv X pins σ' H' s'/\tn i s'.heap/\(∀b∈fp,H' b=none)/\W i n σ' H') ?_ m0 ⟨0,σ,H2,I2,st2,λb hb=>(f2 b hb).1,w0⟩
 rintro n s3 ⟨i,σ3,H3,I3,st3,fr3,w3⟩
 rcases turn i n σ3 H3 w3 with ⟨stop,qn⟩ | ⟨go,N,hN,step⟩
 ·refine wpAny_passesOwn hp (thn (T.done X rfl rfl rfl hc i pins s3 σ3 H3 X.xe I3 (stat fr3) st3 stop) λr s4 ⟨hr,I4⟩=>?_)
  subst hr
  exact wpAny_execs_nil ⟨σ3,H3,I4,qn⟩
 ·refine wpAny_passesOwn hp (thn (T.item X rfl rfl rfl hc i pins s3 σ3 H3 X.xe I3 (stat fr3) st3 go) λr s4 ⟨u,hr,h4⟩=>?_)
  subst hr
  refine wpAny_passesOwn hp (thn h4 λ_ s5 ⟨x,H5,I5,r5,y5,st5,fr5⟩=>?_)
  have I5':=I5.pinned (stat fr5) (T.obj _ _ st5)
  refine wpAny_passesOwn hp (thn (hg _ s5 σ3 H5 x u _ I5' r5 (step x H5 y5)) λ_ s6 ⟨σ6,H6,I6,q6⟩=>?_)
  refine wpAny_passesOwn hp (thn (hb _ s6 σ6 H6 _ I6 q6) λf s7 q7=>?_)
  have again:∀{σ7:St} {H7:Hp},Inv X (pins++Qem fp s5.heap) σ7 H7 s7->N σ7 H7->∃m,m<n/\∃i σ' H',Inv X pins σ' H' s7/\tn i s7.heap/\(∀b∈fp,H' b=none)/\W i m σ' H':=λ{σ7 H7} I7 n7=>by
   obtain ⟨m',hm,w7⟩:=hN σ7 H7 n7
   refine ⟨m',hm,i+1,σ7,H7,I7.unpinned,T.keep _ _ _ st5 λb hb o e=>(I7.pin (b,o) (List.mem_append_right _ (List.mem_append_right _ (V7 hb e)))).1,λb hb=>?_,w7⟩
   obtain ⟨o,e,d⟩:=T.obj _ _ st5 b hb
   exact (I7.pin (b,o) (List.mem_append_right _ (List.mem_append_right _ (V7 hb e)))).2.1
  cases f with
  | next=>obtain ⟨σ7,H7,I7,n7⟩:=q7;exact again I7 n7
  | cont=>obtain ⟨σ7,H7,I7,n7⟩:=q7;exact again I7 n7
  | brk=>obtain ⟨σ7,H7,I7,q7⟩:=q7;exact ⟨σ7,H7,I7.unpinned,q7⟩
  | ret v=>obtain ⟨x7,σ7,H7,I7,r7,q7⟩:=q7;exact ⟨x7,σ7,H7,I7.unpinned,r7,q7⟩
abbrev R2:=V->V->Hp->VK->Prop
end L2
variable {o:Option L2.V} {i:Int} {g:Int->Int->Int} {op:PySem.CmpOp} {r r':L2.R2} {C dx:PySem.Addr} {its:List PySem.Value} {mA:PySem.Str->Option PySem.Value} {prog:PySem.Program} {env:PySem.Env} {kw:List (PySem.Str × PySem.Value)} {fs:List (PySem.Str × L2.V)}
namespace L2
open PySem PySem.Spec PyProof.Rows
def OpR (X:Cx) (f:Value->Value->Sem Value) (r:R2):Prop :=
 ∀(pins:List (Addr × Obj)) (s:Shared) (σ:St) (H:Hp) (x y:V) (v u:Value) (Q:VK),Inv X pins σ H s->RelV x v->RelV y u->r x y H Q ->
  wpAny (model X.prog X.w) X.A (f v u) (EP X pins σ Q) X.xe s
def UnR (X:Cx) (f:Value->Sem Value) (r:V->Hp->VK->Prop):Prop :=
 ∀(pins:List (Addr × Obj)) (s:Shared) (σ:St) (H:Hp) (x:V) (v:Value) (Q:VK),Inv X pins σ H s->RelV x v->r x H Q ->
  wpAny (model X.prog X.w) X.A (f v) (EP X pins σ Q) X.xe s
def Vf (X:Cx) (f:Value) (r:List V->Hp->VK->Prop):Prop :=
 ∀(pins:List (Addr × Obj)) (s:Shared) (σ:St) (H:Hp) (xs:List V) (us:List Value) (Q:VK),Inv X pins σ H s->Vals xs us->r xs H Q ->
  wpAny (model X.prog X.w) X.A (call f us) (EP X pins σ Q) X.xe s
def TruR (X:Cx) (r:V->Hp->(Bool->Hp->Prop)->Prop):Prop :=
 ∀(pins:List (Addr × Obj)) (s:Shared) (σ:St) (H:Hp) (x:V) (v:Value) (Q:Bool->Hp->Prop),Inv X pins σ H s->RelV x v->r x H Q ->
  wpAny (model X.prog X.w) X.A (truthy v) (TP X pins σ Q) X.xe s
def tOp (r:R2) (ta tb:TE):TE:=λσ H Q=>ta σ H λx H1=>tb σ H1 λy H2=>r x y H2 Q
def tUn (r:V->Hp->VK->Prop) (ta:TE):TE:=λσ H Q=>ta σ H λx H1=>r x H1 Q
def rI (C:Int->Int->Prop) (g:Int->Int->V):R2:=λx y H Q=>∃i j,x=.int i/\y=.int j/\C i j/\Q (g i j) H
def rI0 (g:Int->Int->V):R2:=λx y H Q=>∃i j,x=.int i/\y=.int j/\Q (g i j) H
def rU (g:Int->V):V->Hp->VK->Prop:=λx H Q=>∃i,x=.int i/\Q (g i) H
section
variable {a b:Expr}
theorem binT (ha:PE X a ta) (hb:PE X b tb) {R:V->V->Hp->Prop} (I:Inv X pins σ H s)
  (h:ta σ H λx H1=>tb σ H1 λy H2=>R x y H2)
  (hf:∀v u s2 x y H2,Inv X pins σ H2 s2->RelV x v->RelV y u->R x y H2->wpAny (model X.prog X.w) X.A (f v u) Q X.xe s2) :
  wpAny (model X.prog X.w) X.A (eval a X.env) (λv s₁=>wpAny (model X.prog X.w) X.A (eval b X.env) (λu s₂=>wpAny (model X.prog X.w) X.A (f v u) Q X.xe s₂) X.xe s₁) X.xe s:=by
 refine thn (ha pins s σ H _ I h) λv s1 ⟨x,H1,I1,r1,q1⟩=>?_
 refine thn (hb pins s1 σ H1 _ I1 q1) λu s2 ⟨y,H2,I2,r2,q2⟩=>?_
 exact hf v u s2 x y H2 I2 r1 r2 q2
theorem Q07 {op:Operator} (ho:OpR X (binaryOp op) r) (ha:PE X a ta) (hb:PE X b tb):PE X (.BinOp a op b pos) (tOp r ta tb):=by
 intro pins s σ H Q I h
 exact wpAny_BinOp (binT ha hb I h λv u s2 x y H2 I2 rx ry q=>ho pins s2 σ H2 x y v u Q I2 rx ry q)
theorem Qwu {op:UnaryOp} {r:V->Hp->VK->Prop} (ho:UnR X (unaryOp op) r) (ha:PE X a ta):PE X (.UnaryOp op a pos) (tUn r ta):=by
 intro pins s σ H Q I h
 exact UnaryOp_ (thn (ha pins s σ H _ I h) λv s1 ⟨x,H1,I1,r1,q1⟩=>ho pins s1 σ H1 x v Q I1 r1 q1)
theorem opI {C:Int->Int->Prop}
  (rule:∀(i j:Int) (t u:Tok) (s:Shared) (Q:Value->Shared->Prop) (E:Value->Shared->Prop),C i j->Q (.int (g i j) s.toks) { s with toks:=s.toks+1 }->wpAny (model X.prog X.w) X.A (f (.int i t) (.int j u)) Q E s) :
  OpR X f (rI C λi j=>.int (g i j)):=by
 intro pins s σ H x y v u Q I rx ry h
 obtain ⟨i,j,rfl,rfl,hc,q⟩:=h
 obtain ⟨t,rfl⟩:=rx
 obtain ⟨t',rfl⟩:=ry
 exact rule i j t t' s _ _ hc ⟨.int (g i j),H,I.tok _,⟨_,rfl⟩,q⟩
theorem opI0
  (rule:∀(i j:Int) (t u:Tok) (s:Shared) (Q:Value->Shared->Prop) (E:Value->Shared->Prop),Q (.int (g i j) s.toks) { s with toks:=s.toks+1 }->wpAny (model X.prog X.w) X.A (f (.int i t) (.int j u)) Q E s) :
  OpR X f (rI0 λi j=>.int (g i j)):=by
 intro pins s σ H x y v u Q I rx ry h
 obtain ⟨i,j,rfl,rfl,q⟩:=h
 obtain ⟨t,rfl⟩:=rx
 obtain ⟨t',rfl⟩:=ry
 exact rule i j t t' s _ _ ⟨.int (g i j),H,I.tok _,⟨_,rfl⟩,q⟩
theorem opB0 {g:Int->Int->Bool}
  (rule:∀(i j:Int) (t u:Tok) (s:Shared) (Q:Value->Shared->Prop) (E:Value->Shared->Prop),Q (.bool (g i j)) s->wpAny (model X.prog X.w) X.A (f (.int i t) (.int j u)) Q E s) :
  OpR X f (rI0 λi j=>.bl (g i j)):=by
 intro pins s σ H x y v u Q I rx ry h
 obtain ⟨i,j,rfl,rfl,q⟩:=h
 obtain ⟨t,rfl⟩:=rx
 obtain ⟨t',rfl⟩:=ry
 exact rule i j t t' s _ _ ⟨.bl (g i j),H,I,rfl,q⟩
def CPow (i j:Int):Prop:=0<=j/\j<=1000000/\i.natAbs<2 ^ 64
def CMul (i j:Int):Prop:=(-(2 ^ 64)<i/\i<2 ^ 64)\/(-(2 ^ 64)<j/\j<2 ^ 64)
theorem CMul.ok {j:Int} (h:CMul i j):IntMulOk i j:=by
 rcases h with ⟨h1,h2⟩ | ⟨h1,h2⟩
 ·exact .of_left (intBits_le_64 h1 h2)
 ·exact .of_right (intBits_le_64 h1 h2)
theorem Qxf:OpR X (binaryOp .Add) (rI0 λi j=>.int (i+j)):=opI0 λ_ _ _ _ _ _ _ q=>add_int q
theorem Qw6:OpR X (binaryOp .Sub) (rI0 λi j=>.int (i-j)):=opI0 λ_ _ _ _ _ _ _ q=>sub_int q
theorem Qxa:OpR X (binaryOp .Mult) (rI CMul λi j=>.int (i*j)):=opI λ_ _ _ _ _ _ _ hc q=>mul_int q hc.ok
theorem Qxb:OpR X (binaryOp .Mod) (rI (λ_ j=>0<j) λi j=>.int (i % j)):=opI λi j _ _ _ _ _ hc q=>by
 have h1:(0:Int)<j:=hc
 exact mod_int' (by omega) (by rw [Int.fmod_eq_emod_of_nonneg i (by omega)];exact q)
theorem Qsj:OpR X (binaryOp .Mod) (rI (λ_ j=>j≠0) λi j=>.int (i.fmod j)):=opI λ_ _ _ _ _ _ _ hc q=>mod_int' hc q
theorem Qw8:OpR X (binaryOp .Pow) (rI CPow λi j=>.int (i ^ j.toNat)):=opI λ_ _ _ _ _ _ _ hc q=>pow_int_small hc.1 hc.2.1 hc.2.2 q
theorem unI {f:Value->Sem Value} {g:Int->Int}
  (rule:∀(i:Int) (t:Tok) (s:Shared) (Q:Value->Shared->Prop) (E:Value->Shared->Prop),Q (.int (g i) s.toks) { s with toks:=s.toks+1 }->wpAny (model X.prog X.w) X.A (f (.int i t)) Q E s) :
  UnR X f (rU λi=>.int (g i)):=by
 intro pins s σ H x v Q I rx h
 obtain ⟨i,rfl,q⟩:=h
 obtain ⟨t,rfl⟩:=rx
 exact rule i t s _ _ ⟨.int (g i),H,I.tok _,⟨_,rfl⟩,q⟩
theorem Qun:UnR X (unaryOp .USub) (rU λi=>.int (-i)):=unI λ_ _ _ _ _ q=>neg_int q
end
def scal:V->V->Bool
 | .non,.non=>true | .non,.int _=>true | .int _,.non=>true | .non,.bl _=>true | .bl _,.non=>true | .non,.str _=>true | .str _,.non=>true
 | .int _,.int _=>true | .bl _,.bl _=>true | .str _,.str _=>true | .byt _,.byt _=>true
 | .int _,.str _=>true | .str _,.int _=>true | .bl _,.str _=>true | .str _,.bl _=>true
 | _,_=>false
def rEq:R2:=λx y H Q=>scal x y=true/\Q (.bl (decide (x=y))) H
def rNe:R2:=λx y H Q=>scal x y=true/\Q (.bl (!decide (x=y))) H
theorem Qls {j:Int}:decide (V.int i=V.int j)=(i == j):=by
 rw [Bool.eq_iff_iff]
 simp
theorem Qhr {i j:Bool}:decide (V.bl i=V.bl j)=(i == j):=by
 rw [Bool.eq_iff_iff]
 simp
theorem Qlr {i j:Str}:decide (V.str i=V.str j)=(i == j):=by
 rw [Bool.eq_iff_iff]
 simp
theorem Qlt {i j:Array UInt8}:decide (V.byt i=V.byt j)=(i.toList == j.toList):=by
 rw [Bool.eq_iff_iff]
 cases i
 cases j
 simp
section
variable {a b:Expr} {tc:TE}
theorem Ji {Q:VK} {k k':Bool} (I:Inv X pins σ H s) (q:Q (.bl k) H) (e:k=k'):EP X pins σ Q (.bool k') s:=by
 subst e
 exact ⟨.bl k,H,I,rfl,q⟩
theorem Q1d:OpR X (compareOp .Eq) rEq:=by
 intro pins s σ H x y v u Q I rx ry h
 obtain ⟨hs,q⟩:=h
 cases x with
 | non =>
  cases rx
  cases y with
  | non=>cases ry;exact PySem.EqNone.eq_none_none (Ji I q (by simp))
  | bl j=>cases ry;exact PySem.EqNone.eq_none_bool (Ji I q (by simp))
  | int j=>obtain ⟨t',rfl⟩:=ry;exact PySem.EqNone.eq_none_int (Ji I q (by simp))
  | str j=>obtain ⟨t',rfl⟩:=ry;exact PySem.EqNone.eq_none_str (Ji I q (by simp))
  | _=>exact absurd (show false=true from hs) Bool.false_ne_true
 | bl i =>
  cases rx
  cases y with
  | non=>cases ry;exact PySem.EqNone.eq_bool_none (Ji I q (by simp))
  | bl j=>cases ry;exact eq_bool (Ji I q Qhr)
  | str j=>obtain ⟨t',rfl⟩:=ry;exact PySem.EqMixed.eq_bool_str (Ji I q (by simp))
  | _=>exact absurd (show false=true from hs) Bool.false_ne_true
 | int i =>
  obtain ⟨t,rfl⟩:=rx
  cases y with
  | non=>cases ry;exact PySem.EqNone.eq_int_none (Ji I q (by simp))
  | int j=>obtain ⟨t',rfl⟩:=ry;exact eq_int (Ji I q Qls)
  | str j=>obtain ⟨t',rfl⟩:=ry;exact PySem.EqMixed.eq_int_str (Ji I q (by simp))
  | _=>exact absurd (show false=true from hs) Bool.false_ne_true
 | str i =>
  obtain ⟨t,rfl⟩:=rx
  cases y with
  | non=>cases ry;exact PySem.EqNone.eq_str_none (Ji I q (by simp))
  | bl j=>cases ry;exact PySem.EqMixed.eq_str_bool (Ji I q (by simp))
  | int j=>obtain ⟨t',rfl⟩:=ry;exact PySem.EqMixed.eq_str_int (Ji I q (by simp))
  | str j=>obtain ⟨t',rfl⟩:=ry;exact eq_str (Ji I q Qlr)
  | _=>exact absurd (show false=true from hs) Bool.false_ne_true
 | byt i =>
  obtain ⟨t,rfl⟩:=rx
  cases y with
  | byt j=>obtain ⟨t',rfl⟩:=ry;exact PySem.W.eq_bytes (Ji I q Qlt)
  | _=>exact absurd (show false=true from hs) Bool.false_ne_true
 | _=>cases y <;> exact absurd (show false=true from hs) Bool.false_ne_true
theorem Q09:OpR X (compareOp .NotEq) rNe:=by
 intro pins s σ H x y v u Q I rx ry h
 obtain ⟨hs,q⟩:=h
 cases x with
 | non =>
  cases rx
  cases y with
  | non=>cases ry;exact PySem.EqNone.ne_none_none (Ji I q (by simp))
  | bl j=>cases ry;exact PySem.EqNone.ne_none_bool (Ji I q (by simp))
  | int j=>obtain ⟨t',rfl⟩:=ry;exact PySem.EqNone.ne_none_int (Ji I q (by simp))
  | str j=>obtain ⟨t',rfl⟩:=ry;exact PySem.EqNone.ne_none_str (Ji I q (by simp))
  | _=>exact absurd (show false=true from hs) Bool.false_ne_true
 | bl i =>
  cases rx
  cases y with
  | non=>cases ry;exact PySem.EqNone.ne_bool_none (Ji I q (by simp))
  | bl j=>cases ry;exact ne_bool (Ji I q (congrArg not Qhr))
  | str j=>obtain ⟨t',rfl⟩:=ry;exact PySem.EqMixed.ne_bool_str (Ji I q (by simp))
  | _=>exact absurd (show false=true from hs) Bool.false_ne_true
 | int i =>
  obtain ⟨t,rfl⟩:=rx
  cases y with
  | non=>cases ry;exact PySem.EqNone.ne_int_none (Ji I q (by simp))
  | int j=>obtain ⟨t',rfl⟩:=ry;exact ne_int (Ji I q (congrArg not Qls))
  | str j=>obtain ⟨t',rfl⟩:=ry;exact PySem.EqMixed.ne_int_str (Ji I q (by simp))
  | _=>exact absurd (show false=true from hs) Bool.false_ne_true
 | str i =>
  obtain ⟨t,rfl⟩:=rx
  cases y with
  | non=>cases ry;exact PySem.EqNone.ne_str_none (Ji I q (by simp))
  | bl j=>cases ry;exact PySem.EqMixed.ne_str_bool (Ji I q (by simp))
  | int j=>obtain ⟨t',rfl⟩:=ry;exact PySem.EqMixed.ne_str_int (Ji I q (by simp))
  | str j=>obtain ⟨t',rfl⟩:=ry;exact ne_str (Ji I q (congrArg not Qlr))
  | _=>exact absurd (show false=true from hs) Bool.false_ne_true
 | byt i =>
  obtain ⟨t,rfl⟩:=rx
  cases y with
  | byt j=>obtain ⟨t',rfl⟩:=ry;exact PySem.W.ne_bytes (Ji I q (congrArg not Qlt))
  | _=>exact absurd (show false=true from hs) Bool.false_ne_true
 | _=>cases y <;> exact absurd (show false=true from hs) Bool.false_ne_true
theorem Q1a:OpR X (compareOp .Lt) (rI0 λi j=>.bl (decide (i<j))):=opB0 λ_ _ _ _ _ _ _ q=>lt_int q
theorem Q1b:OpR X (compareOp .LtE) (rI0 λi j=>.bl (decide (i<=j))):=opB0 λ_ _ _ _ _ _ _ q=>le_int q
theorem Q1c:OpR X (compareOp .Gt) (rI0 λi j=>.bl (decide (j<i))):=opB0 λ_ _ _ _ _ _ _ q=>gt_int q
theorem Qj8:OpR X (compareOp .In) (λx y H Q=>∃i j,x=.str i/\y=.str j/\Q (.bl (!(Builtin.Str.occurrences j i 0 j.length 1).isEmpty)) H):=by
 intro pins s σ H x y v u Q I rx ry h
 obtain ⟨i,j,rfl,rfl,q⟩:=h
 obtain ⟨t,rfl⟩:=rx
 obtain ⟨t',rfl⟩:=ry
 exact in_str (Ji I q rfl)
theorem Qxc:OpR X (compareOp .Is) (λx y H Q=>y=.non/\Q (.bl (decide (x=.non))) H):=by
 intro pins s σ H x y v u Q I rx ry h
 obtain ⟨rfl,q⟩:=h
 cases ry
 refine is_none_gen (Ji I q ?_)
 cases x <;> first
  | (cases rx;rfl)
  | (obtain ⟨t,rfl⟩:=rx;rfl)
theorem Qsi:OpR X (compareOp .IsNot) (λx y H Q=>y=.non/\Q (.bl (!decide (x=.non))) H):=by
 intro pins s σ H x y v u Q I rx ry h
 obtain ⟨rfl,q⟩:=h
 cases ry
 refine isnot_none_gen (Ji I q ?_)
 cases x <;> first
  | (cases rx;rfl)
  | (obtain ⟨t,rfl⟩:=rx;rfl)
theorem OpR.or (h:OpR X f r) (h':OpR X f r'):OpR X f (λx y H Q=>r x y H Q\/r' x y H Q):=by
 intro pins s σ H x y v u Q I rx ry q
 rcases q with q | q
 ·exact h pins s σ H x y v u Q I rx ry q
 ·exact h' pins s σ H x y v u Q I rx ry q
theorem Qpl (b:Expr) (h:op ≠ .In:=by decide) (h2:op ≠ .NotIn:=by decide):behindInMarks op b=false:=by
 have e1:(op == CmpOp.In)=false:=by cases op <;> first | rfl | exact absurd rfl h
 have e2:(op == CmpOp.NotIn)=false:=by cases op <;> first | rfl | exact absurd rfl h2
 cases b <;> simp [behindInMarks,e1,e2]
theorem Qsg (ho:OpR X (compareOp op) r) (ha:PE X a ta) (hb:PE X b tb) (hm:behindInMarks op b=false):PE X (.Compare a [op] [b] pos) (tOp r ta tb):=by
 intro pins s σ H Q I h
 exact wpAny_Compare1 (binT ha hb I h λv u s2 x y H2 I2 rx ry q=>ho pins s2 σ H2 x y v u Q I2 rx ry q) hm
def Quu (t:TE):TT:=λσ H Q=>t σ H λx H'=>∃k,x=.bl k/\Q k H'
theorem Qr4 (ho:OpR X (compareOp op) r) (ha:PE X a ta) (hb:PE X b tb) (hm:behindInMarks op b=false):PT X (.Compare a [op] [b] pos) (Quu (tOp r ta tb)):=by
 intro pins s σ H Q I h
 refine wpAny_isTrue_Compare1 (thn (ha pins s σ H _ I h) λv s1 ⟨x,H1,I1,r1,q1⟩=>thn (hb pins s1 σ H1 _ I1 q1) λu s2 ⟨y,H2,I2,r2,q2⟩ =>
  thn (ho pins s2 σ H2 x y v u _ I2 r1 r2 q2) λc s3 ⟨z,H3,I3,r3,k,e,q3⟩=>?_) hm
 subst e
 cases r3
 exact wpAny_truthy_bool ⟨H3,I3,q3⟩
def Quw (r r':R2) (ta tb tc:TE):TE:=λσ H Q=>ta σ H λx H1=>tb σ H1 λy H2=>r x y H2 λz H3=>∃k,z=.bl k /\
 (if k=true then tc σ H3 λw' H4=>r' y w' H4 Q else Q (.bl false) H3)
theorem Qng {op':CmpOp} (ho:OpR X (compareOp op) r) (ho':OpR X (compareOp op') r') (ha:PE X a ta) (hb:PE X b tb) (hc:PE X c tc)
  (hm:lastMarks [op,op'] [b,c]=false:=by with_unfolding_all rfl):PT X (.Compare a [op,op'] [b,c] pos) (Quu (Quw r r' ta tb tc)):=by
 intro pins s σ H Q I h
 refine isTrue_chain (thn (ha pins s σ H _ I h) λv s1 ⟨x,H1,I1,r1,q1⟩=>test_link (thn (hb pins s1 σ H1 _ I1 q1) λu s2 ⟨y,H2,I2,r2,q2⟩ =>
  thn (ho pins s2 σ H2 x y v u _ I2 r1 r2 q2) λd s3 ⟨z,H3,I3,r3,k,e,q3⟩=>?_)) hm
 subst e
 cases r3
 refine wpAny_truthy_bool ?_
 cases k with
 | false =>
  obtain ⟨k',e',q'⟩:=q3
  cases e'
  exact ite_ff ⟨H3,I3,q'⟩
 | true =>
  refine ite_tt (test_last (thn (hc pins s3 σ H3 _ I3 q3) λw' s4 ⟨z',H4,I4,r4,q4⟩=>thn (ho' pins s4 σ H4 y z' u w' _ I4 r2 r4 q4) λd' s5 ⟨z2,H5,I5,r5,k2,e2,q5⟩=>?_))
  subst e2
  cases r5
  exact wpAny_truthy_bool ⟨H5,I5,q5⟩
def TruV (K:Frag) (x:V) (H:Hp) (k:Bool):Prop :=
 match x with
 | .non=>k=false
 | .bl b=>k=b
 | .int i=>k=(i != 0)
 | .str y=>y.length<=sizeLine/\k=((y.length:Int) != 0)
 | .byt y=>y.size<=sizeLine/\k=((y.size:Int) != 0)
 | .ref p=>(∃xs,SqL K H p xs/\k = !xs.isEmpty)\/(∃xs,SqT K H p xs/\k = !xs.isEmpty)\/∃kvs,H p=some (.dK kvs)/\k = !kvs.isEmpty
 | _=>False
theorem Qim {κ:Type} {kvs:List (κ × V)} {vs:List (κ × Value)} (r:KV kvs vs):(!vs.isEmpty) = !kvs.isEmpty:=by
 cases r <;> rfl
theorem Qcu (r:Vals xs its):(!its.toArray.isEmpty) = !xs.isEmpty:=by
 cases r <;> simp
theorem Qcp:(sizeLine:Nat)<2 ^ 63:=by rw [sizeLine_eq];decide
theorem Qus:TruR X (λx H Q=>∃k,TruV X.K x H k/\Q k H):=by
 intro pins s σ H x v Q I rx h
 obtain ⟨k,e,q⟩:=h
 have hl:=Qcp
 have hs:sizeLine=16777216:=sizeLine_eq
 cases x with
 | non =>
  cases rx
  have e':k=false:=e
  subst e'
  exact truthy_none ⟨H,I,q⟩
 | bl b =>
  cases rx
  have e':k=b:=e
  subst e'
  exact wpAny_truthy_bool ⟨H,I,q⟩
 | int i =>
  obtain ⟨t,rfl⟩:=rx
  have e':k=(i != 0):=e
  subst e'
  exact PySem.P.truthy_int ⟨H,I,q⟩
 | str y =>
  obtain ⟨t,rfl⟩:=rx
  obtain ⟨hy,e'⟩:y.length<=sizeLine/\k=((y.length:Int) != 0):=e
  subst e'
  exact PySem.P.truthy_str (by omega) ⟨H,I.tok _,q⟩
 | byt y =>
  obtain ⟨t,rfl⟩:=rx
  obtain ⟨hy,e'⟩:y.size<=sizeLine/\k=((y.size:Int) != 0):=e
  subst e'
  exact PySem.W.truthy_bytes (by omega) ⟨H,I.tok _,q⟩
 | ref p =>
  cases rx
  have e':(∃xs,SqL X.K H p xs/\k = !xs.isEmpty)\/(∃xs,SqT X.K H p xs/\k = !xs.isEmpty)\/∃kvs,H p=some (.dK kvs)/\k = !kvs.isEmpty:=e
  rcases e' with ⟨xs,hx,e'⟩ | ⟨xs,hx,e'⟩ | ⟨kvs,hx,e'⟩
  ·subst e'
   obtain ⟨its,r,pl,hz⟩:=I.list hx
   have hlen:=r.length
   exact wpAny_truthy_list pl.isList (by simp only [List.size_toArray];omega) ⟨H,I.tok _,by rw [Qcu r];exact q⟩
  ·subst e'
   obtain ⟨its,r,pl,hz⟩:=I.tuple hx
   have hlen:=r.length
   exact truthy_tuple pl (by simp only [List.size_toArray];omega) ⟨H,I.tok _,by rw [Qcu r];exact q⟩
  ·subst e'
   obtain ⟨hz,hS,vs,r,m⟩:kvs.length<=sizeLine/\(p == sysModules)=false/\∃vs,KV kvs vs/\s.heap.DictOf (Yz X.prog X.w) p vs:=I.hok p _ hx
   have hlen:kvs.length=vs.length:=Paired.length r
   exact wpAny_truthy_dict hS m (by omega) ⟨H,I.tok _,by rw [Qim r];exact q⟩
 | _=>exact (show False from e).elim
theorem Qnf (ha:PE X a ta) (he:∀whole,isTrue a X.env whole=(do let v ← whole;standAt a.pos;holding [v] (truthy v))) :
  PT X a (λσ H Q=>ta σ H λx H'=>∃k,TruV X.K x H' k/\Q k H'):=by
 intro pins s σ H Q I h
 exact isTrue_plain (thn (ha pins s σ H _ I h) λv s1 ⟨x,H1,I1,r1,q1⟩=>Qus pins s1 σ H1 x v Q I1 r1 q1) (he _)
theorem Qie:OpR X (binaryOp .Add) (λx y H Q=>∃i j,x=.str i/\y=.str j/\i.length+j.length<=sizeLine/\Q (.str (i++j)) H):=by
 intro pins s σ H x y v u Q I rx ry h
 obtain ⟨i,j,rfl,rfl,hz,q⟩:=h
 obtain ⟨t,rfl⟩:=rx
 obtain ⟨t',rfl⟩:=ry
 exact add_str (λt' tk=>⟨.str (i++j),H,I.tok _,⟨_,rfl⟩,q⟩) hz
theorem Qbw {x:V} (r:Vals [x] us):∃u,us=[u]/\RelV x u:=by
 cases r with
 | cons r1 r2=>cases r2;exact ⟨_,rfl,r1⟩
theorem Qhy {x:V} (r:Vals [x,y] us):∃u w',us=[u,w']/\RelV x u/\RelV y w':=by
 cases r with
 | cons r1 r2 =>
  cases r2 with
  | cons r3 r4=>cases r4;exact ⟨_,_,rfl,r1,r3⟩
theorem Qor:Vf X (.builtin "abs") (λxs H Q=>∃i,xs=[.int i]/\Q (.int (if i<0 then -i else i)) H):=by
 intro pins s σ H xs us Q I r h
 obtain ⟨i,rfl,q⟩:=h
 obtain ⟨u,rfl,t,rfl⟩:=Qbw r
 exact call_abs_int λu tk=>⟨.int (if i<0 then -i else i),H,I.tok _,⟨_,rfl⟩,q⟩
theorem Qmc:Vf X (.type "int") (λxs H Q=>(∃i,xs=[.int i]/\Q (.int i) H)\/∃k,xs=[.bl k]/\Q (.int (if k then 1 else 0)) H):=by
 intro pins s σ H xs us Q I r h
 rcases h with ⟨i,rfl,q⟩ | ⟨k,rfl,q⟩
 ·obtain ⟨u,rfl,t,rfl⟩:=Qbw r
  exact call_int_int ⟨.int i,H,I,⟨_,rfl⟩,q⟩
 ·obtain ⟨u,rfl,r1⟩:=Qbw r
  cases r1
  exact call_int_bool ⟨.int (if k then 1 else 0),H,I.tok _,⟨_,rfl⟩,q⟩
theorem Qfe:Vf X (.type "str") (λxs H Q=>∃i,xs=[.int i]/\i.natAbs.log2<1920/\Q (.str (toString i)) H):=by
 intro pins s σ H xs us Q I r h
 obtain ⟨i,rfl,hz,q⟩:=h
 obtain ⟨u,rfl,t,rfl⟩:=Qbw r
 exact PySem.P.str_of_int hz ⟨.str _,H,I.tok _,⟨_,rfl⟩,q⟩
def LenV (K:Frag) (x:V) (H:Hp) (n:Nat):Prop :=
 match x with
 | .str y=>y.length<=sizeLine/\n=y.length
 | .byt y=>y.size<=sizeLine/\n=y.size
 | .ref p=>(∃xs,SqL K H p xs/\n=xs.length)\/∃xs,SqT K H p xs/\n=xs.length
 | _=>False
theorem Qoo:Vf X (.builtin "len") (λxs H Q=>∃x n,xs=[x]/\LenV X.K x H n/\Q (.int n) H):=by
 intro pins s σ H xs us Q I r h
 obtain ⟨x,n,rfl,e,q⟩:=h
 obtain ⟨u,rfl,rx⟩:=Qbw r
 have hl:=Qcp
 have hs:sizeLine=16777216:=sizeLine_eq
 cases x with
 | str y =>
  obtain ⟨t,rfl⟩:=rx
  obtain ⟨hy,e'⟩:y.length<=sizeLine/\n=y.length:=e
  subst e'
  exact len_str (by omega) ⟨.int _,H,I.tok _,⟨_,rfl⟩,q⟩
 | byt y =>
  obtain ⟨t,rfl⟩:=rx
  obtain ⟨hy,e'⟩:y.size<=sizeLine/\n=y.size:=e
  subst e'
  exact PySem.W.len_bytes (by omega) ⟨.int _,H,I.tok _,⟨_,rfl⟩,q⟩
 | ref p =>
  cases rx
  have e':(∃xs,SqL X.K H p xs/\n=xs.length)\/∃xs,SqT X.K H p xs/\n=xs.length:=e
  rcases e' with ⟨xs,hx,e'⟩ | ⟨xs,hx,e'⟩
  ·subst e'
   obtain ⟨its,r',pl,hz⟩:=I.list hx
   have hlen:=r'.length
   exact Calls.call_len_list pl.isList (by simp only [List.size_toArray];omega) ⟨.int xs.length,H,I.tok _,⟨_,by simp only [List.size_toArray];rw [hlen]⟩,q⟩
  ·subst e'
   obtain ⟨its,r',pl,hz⟩:=I.tuple hx
   have hlen:=r'.length
   exact len_tuple pl (by simp only [List.size_toArray];omega) ⟨.int xs.length,H,I.tok _,⟨_,by simp only [List.size_toArray];rw [hlen]⟩,q⟩
 | _=>exact (show False from e).elim
end
structure ObjM (h:Heap) (x dx C:Addr) (mA:Str->Option Value):Prop where
 obj:h.get? x=some (instObj C dx)
 ns:h.Ns1 dx mA
 ne:dx≠x
theorem Qkm (n:h.Ns1 dx mA):∃od,h.get? dx=some od/\∀name,lookIn name od=some (mA name):=by
 obtain ⟨o,es,ep,ho,hd,hk,_,hm⟩:=n
 refine ⟨o,ho,λname=>?_⟩
 have e:=hm name
 unfold nsFind findBy at e
 rw [← Array.find?_toList] at e
 unfold lookIn
 rw [hd]
 dsimp only
 split
 ·rename_i y q
  rw [q] at e
  exact congrArg some e
 ·rename_i q
  rw [q] at e
  have a:es.toList.any (·.refKey)=false:=by
   rw [List.any_eq_false]
   intro y hy
   obtain ⟨z,t,hkey⟩:=hk y (Array.mem_toList_iff.mp hy)
   simp [DictEntry.refKey,hkey]
  have a':¬es.toList.any (·.refKey)=true:=by rw [a];exact Bool.false_ne_true
  rw [if_neg a']
  exact congrArg some e
theorem ObjM.look {x:Addr} (I:ObjM h x dx C mA):∃od,PySem.W.InstAt h x (instObj C dx) C (some od)/\∀name,lookIn name od=some (mA name) :=
 let ⟨od,ho,hl⟩:=Qkm I.ns
 ⟨od,⟨I.obj,rfl,rfl,ho⟩,hl⟩
theorem RelO.some_of {o:Option Value} (r:RelO (some v) o):∃u,o=some u/\RelV v u:=by
 cases o with
 | none=>exact (show False from r).elim
 | some u=>exact ⟨u,rfl,r⟩
theorem Qk5 (r:RelV v u):handedIn u=true:=by
 cases v with
 | non=>cases (show u=Value.none from r);rfl
 | bl b=>cases (show u=Value.bool b from r);rfl
 | int i=>obtain ⟨t,e⟩:=(show ∃t,u=Value.int i t from r);cases e;rfl
 | str x=>obtain ⟨t,e⟩:=(show ∃t,u=Value.str x t from r);cases e;rfl
 | byt b=>obtain ⟨t,e⟩:=(show ∃t,u=Value.bytes b t from r);cases e;rfl
 | flt b=>obtain ⟨t,e⟩:=(show ∃t,u=Value.float b t from r);cases e;rfl
 | ref a=>cases (show u=Value.ref a from r);rfl
 | ty n=>cases (show u=Value.type n from r);rfl
theorem Qs6 (hok:HOk P w H h) (e:H a=some (.ins C dx fs)):∃mA,ObjM h a dx C mA/\(∀f,RelO (fs.lookup f) (mA f))/\PySem.Within mA (fs.map (·.1))/\fs.length<=1000/\H dx=some (.own a):=by
 obtain ⟨d,z,ne,ob,mA,n,r,q⟩:=(show Ye P w H h a (.ins C dx fs) from hok a _ e)
 exact ⟨mA,⟨ob,n,ne⟩,r,q,z,d⟩
structure Cls (K:Frag) (C:Addr):Prop where
 pg:plainGet K C Str.empty=true
 hd:PySem.W.hasDictIn K C=true
 po:PySem.W.plainOver K C=true
 sa:PySem.W.findIn K (.ref C) "__setattr__" = some (some (.builtin "object.__setattr__"))
theorem Cls.get (c:Cls K C) (f:Str):plainGet K C f=true:=c.pg
section
variable {f:Str}
theorem Qty {f:Str} (hb:attributeBase e f env (eval e env)=eval e env)
  (h:wpAny (model prog w) A (eval e env) (λo s₁=>wpAny (model prog w) A (getAttr o f true) Q E s₁) E s):wpAny (model prog w) A (eval (.Attribute e f pos) env) Q E s :=
 Attribute_any_ h (by rw [arm_eval_Attribute,hb])
end
section
variable {c:Value} {b:Bool}
inductive TyOf (K:Frag) (H:Hp):V->Value->Prop where
 | non:TyOf K H .non (.type "NoneType")
 | bl (x:Bool):TyOf K H (.bl x) (.type "bool")
 | int (i:Int):TyOf K H (.int i) (.type "int")
 | str (x:Str):TyOf K H (.str x) (.type "str")
 | flt (x:UInt64):TyOf K H (.flt x) (.type "float")
 | lst {a:Addr} {xs:List V} (e:H a=some (.lst xs)):TyOf K H (.ref a) (.type "list")
 | frz {a:Addr} {o:Obj} {xs:List V} (e:H a=some (.frz o (.lst xs))):TyOf K H (.ref a) (.type "list")
 | tup {a:Addr} {xs:List V} (e:H a=some (.tup xs)):TyOf K H (.ref a) (.type "tuple")
 | dK {a:Addr} {kvs:List (Key × V)} (e:H a=some (.dK kvs)):TyOf K H (.ref a) (.type "dict")
 | dT {a:Addr} {kvs:List (List Key × V)} (e:H a=some (.dT kvs)):TyOf K H (.ref a) (.type "dict")
 | ins {a C dx:Addr} {fs:List (Str × V)} (e:H a=some (.ins C dx fs)) (cl:Cls K C) (ha:PySem.W.findIn K (.ref C) "__class__" = some (some (.builtin "object.__class__")))
   (hn:specialIn K (.builtin "object.__class__") "__get__" = some (some (.builtin "getset_descriptor.__get__"))) (htk:PySem.W.takesIn K (.builtin "object.__class__")=some true)
   (hm:PySem.W.mroIn K C (.type "object")=some true):TyOf K H (.ref a) (.ref C)
theorem Qky {x:V} {t:Value} (I:Inv X pins σ H s) (rx:RelV x u) (ty:TyOf X.K H x t) (e:kitOne X.K t c=some b) (h:∀tk,Q (.bool b) { s with toks:=tk }) :
  wpAny (model X.prog X.w) A (call (.builtin "isinstance") [u,c]) Q E s:=by
 cases ty with
 | non=>cases (show u=Value.none from rx);exact kia_one PySem.W.kitx_none I.kIn True.intro e (λz=>nomatch z) h
 | bl y=>cases (show u=Value.bool y from rx);exact kia_one PySem.W.kitx_bool I.kIn True.intro e (λz=>nomatch z) h
 | int i=>obtain ⟨t,q⟩:=(show ∃t,u=Value.int i t from rx);cases q;exact kia_one PySem.W.kitx_int I.kIn True.intro e (λz=>nomatch z) h
 | str y=>obtain ⟨t,q⟩:=(show ∃t,u=Value.str y t from rx);cases q;exact kia_one PySem.W.kitx_str I.kIn True.intro e (λz=>nomatch z) h
 | flt y=>obtain ⟨t,q⟩:=(show ∃t,u=Value.float y t from rx);cases q;exact kia_one PySem.W.kitx_float I.kIn True.intro e (λz=>nomatch z) h
 | @lst a xs ea =>
  cases (show u=Value.ref a from rx)
  obtain ⟨_,_,n,_,h1⟩:=(show Ye X.prog X.w H s.heap a (.lst xs) from I.hok a _ ea)
  exact kia_one kitx_list I.kIn ⟨_,h1,rfl⟩ e (λz=>nomatch z) h
 | @frz a ob xs ea =>
  cases (show u=Value.ref a from rx)
  obtain ⟨_,_,_,n,_,h1⟩:=(show Ye X.prog X.w H s.heap a (.frz ob (.lst xs)) from I.hok a _ ea)
  exact kia_one kitx_list I.kIn ⟨_,h1,rfl⟩ e (λz=>nomatch z) h
 | @tup a xs ea =>
  cases (show u=Value.ref a from rx)
  obtain ⟨_,_,_,p⟩:=(show Ye X.prog X.w H s.heap a (.tup xs) from I.hok a _ ea)
  obtain ⟨o,h1,h2,_⟩:=p
  exact kia_one PySem.W.kitx_tuple I.kIn ⟨o,h1,h2⟩ e (λz=>nomatch z) h
 | @dK a kvs ea =>
  cases (show u=Value.ref a from rx)
  obtain ⟨_,_,vs,_,p⟩:=(show Ye X.prog X.w H s.heap a (.dK kvs) from I.hok a _ ea)
  obtain ⟨o,es,ep,h1,h2,_⟩:=p
  exact kia_one kitx_dict I.kIn ⟨o,h1,h2.1⟩ e (λz=>nomatch z) h
 | @dT a kvs ea =>
  cases (show u=Value.ref a from rx)
  obtain ⟨_,_,xs,_,o,es,ep,h1,h2,_⟩:=(show Ye X.prog X.w H s.heap a (.dT kvs) from I.hok a _ ea)
  exact kia_one kitx_dict I.kIn ⟨o,h1,h2.1⟩ e (λz=>nomatch z) h
 | @ins a C dx fs ea cl ha hn htk hm =>
  cases (show u=Value.ref a from rx)
  obtain ⟨mA,O,_⟩:=Qs6 I.hok ea
  obtain ⟨od,J,_⟩:=O.look
  exact kia_one (PySem.W.kitx_own (cl.get _) cl.hd ha hn htk hm) I.kIn J e (λz=>nomatch z) h
end
structure Room (k:Nat) (A:Around):Prop where
 hd:A.handled=none
 dp:A.depth+3*k+5<recursionLimit
 un:A.units+16*k+200<cLine
theorem Room.mono {j k:Nat} (r:Room k A) (h:j<=k):Room j A:=⟨r.hd,by have:=r.dp;omega,by have:=r.un;omega⟩
theorem Room.deeper {k:Nat} (r:Room (k+1) A) (env:Env):Room k (A.deeper env) :=
 ⟨r.hd,by have:=r.dp;show A.depth+1+3*k+5<_;omega,by have:=r.un;show A.units+3+16*k+200<_;omega⟩
theorem Qii:(A.under (.builtin "type.__call__" ⟨.ref C::us,kw⟩)).depth=A.depth+1:=by
 first | rfl | simp [Around.under,Code.weight,Code.isCreation,Code.isGuard,Code.isCaller,Code.frames,Code.isFrame,guardIds]
theorem Qih:(A.under (.builtin "type.__call__" ⟨.ref C::us,kw⟩)).units=A.units+1:=by
 first | rfl | simp [Around.under,Code.cUnits,Code.frames,Code.isFrame]
theorem Room.make {k:Nat} (r:Room (k+1) A) (C:Addr) (us:List Value) (kw:List (Str × Value)):Room k (A.under (.builtin "type.__call__" ⟨.ref C::us,kw⟩)) :=
 ⟨r.hd,by have:=r.dp;rw [Qii];omega,by have:=r.un;rw [Qih];omega⟩
theorem Room.depth {k:Nat} (r:Room k A):A.depth<recursionLimit:=by have:=r.dp;omega
theorem Room.units {k:Nat} (r:Room k A):A.units+64<cLine:=by have:=r.un;omega
def tNil:TA:=λ_ H Q=>Q [] H
def Qz3 (ta:TE) (tr:TA):TA:=λσ H Q=>ta σ H λx H1=>tr σ H1 λxs H2=>Q (x::xs) H2
section
variable {t:TA}
theorem Qj7:PA X [] tNil:=λ_ _ _ _ H Q I h=>Calls.spliced_nil ⟨[],H,I,.nil,h⟩
theorem Um (ha:PE X e te) (hr:PA X es t) (hs:starEach (e::es) X.env=(false,eval e X.env)::starEach es X.env:=by rfl):PA X (e::es) (Qz3 te t):=by
 intro pos pins s σ H Q I h
 rw [hs]
 show wpAny _ _ (spliced ((false,eval e X.env)::backTo pos (starEach es X.env))) _ _ s
 refine Calls.spliced_cons (thn (ha pins s σ H _ I h) λu s1 ⟨x,H1,I1,r1,q1⟩=>?_)
 exact thn (hr pos pins s1 σ H1 _ I1 q1) λus s2 ⟨xs,H2,I2,r2,q2⟩=>⟨x::xs,H2,I2,.cons r1 r2,q2⟩
def tTup (t:TA):TE:=λσ H Q=>t σ H λxs H1=>xs.length<=sizeLine/\∀p,H1 p=none->Q (.ref p) (upd H1 p (.tup xs))
def tLst (t:TA):TE:=λσ H Q=>t σ H λxs H1=>xs.length<=sizeLine/\∀p,H1 p=none->Q (.ref p) (upd H1 p (.lst xs))
theorem Qwv {x1} (h:PA X es t):PE X (.Tuple es x1 pos) (tTup t):=by
 intro pins s σ H Q I hq
 refine wpAny_Tuple_spliced (thn (h pos pins s σ H _ I hq) λus s1 ⟨xs,H1,I1,r,z,q⟩=>⟨by rw [← r.length];exact z,?_⟩)
 have hf:H1 s1.heap.objs.size=none:=I1.hok.fresh (Nat.le_refl _)
 refine ⟨.ref s1.heap.objs.size,upd H1 s1.heap.objs.size (.tup xs),I1.laid (t':=s1.toks) (λb u e=>Heap.get?_push_of_some _ e) (Nat.le_refl _) ?_,rfl,q _ hf⟩
 exact ⟨z,us,r,⟨_,Heap.get?_push_size _ rfl,rfl,_,rfl⟩⟩
theorem Qw0 (h:PA X es t):PE X (.List es pos) (tLst t):=by
 intro pins s σ H Q I hq
 refine wpAny_List_spliced (thn (h pos pins s σ H _ I hq) λus s1 ⟨xs,H1,I1,r,z,q⟩=>⟨by rw [← r.length];exact z,?_⟩)
 have hf:H1 s1.heap.objs.size=none:=I1.hok.fresh (Nat.le_refl _)
 refine ⟨.ref s1.heap.objs.size,upd H1 s1.heap.objs.size (.lst xs),I1.laid (t':=s1.toks) (λb u e=>Heap.get?_push_of_some _ e) (Nat.le_refl _) ?_,rfl,q _ hf⟩
 exact ⟨z,us,0,r,Heap.get?_push_size _ rfl⟩
end
abbrev Sp:=List V->Hp->VK->XK->Prop
abbrev CXT:=List Env->Hp->Shared->XK->Value->Shared->Prop
end L2
variable {f:PySem.Addr} {r:L2.V->List L2.V->L2.Hp->L2.VK->Prop} {mg:PySem.Str->Option PySem.Value} {base:PySem.Heap} {outer:List PySem.Env} {fd:PySem.FuncData} {ps:List PySem.Str} {CX:L2.CXT} {qual name:PySem.Str} {scope:PySem.Scope} {cd:PySem.ClassData} {oc:PySem.Value} {od:Option PySem.Addr} {osl:Array (Option PySem.Value)} {sp:L2.Sp} {T:String} {m:Bool} {apos:PySem.Pos}
namespace L2
open PySem PySem.Spec PyProof.Rows
structure Env0 (P:Program) (w:World) (K:Frag) (mg:Str->Option Value) (base:Heap) (A:Around) (outer:List Env) (s:Shared) (H:Hp):Prop where
 frames:A.frames=some outer
 mod:Mod K mg base
 bs:∀b o,base.get? b=some o->s.heap.get? b=some o/\H b=none
 bsz:base.objs.size<=s.heap.objs.size
 funs:s.heap.FunFrames base outer
 frf:∀b∈frs outer,H b=none
 hok:HOk P w H s.heap
 bare:AllBare s.gens
def CE (outer:List Env) (P:Program) (w:World) (H:Hp) (s:Shared) (Q:VK) (u:Value) (s':Shared):Prop :=
 ∃v H',s'.os=s.os/\AllBare s'.gens/\Un (frs outer) [] H H' s.heap s'.heap/\HOk P w H' s'.heap/\RelV v u/\Q v H'
def CR (CX:CXT) (outer:List Env) (P:Program) (w:World) (H:Hp) (s:Shared) (Q:VK) (E:XK) (r:Result) (s':Shared):Prop :=
 match r with
 | .ok (.ret u)=>CE outer P w H s Q u s'
 | .ok _=>False
 | .error e=>CX outer H s E e s'
structure FnOk (P:Program) (w:World) (K:Frag) (mg:Str->Option Value) (base:Heap) (CX:CXT) (k:Nat) (f:Addr) (fd:FuncData) (ps:List Str) (sp:Sp):Prop where
 len:∀vs H Q E,sp vs H Q E->vs.length=ps.length
 run:∀(A:Around) (outer:List Env) (s:Shared) (H:Hp) (args:Args) (us:List Value) (vs:List V) (Q:VK) (E:XK),Room k A->Env0 P w K mg base A outer s H->BindsTo s fd args (ps.zip us)->Vals vs us->sp vs H Q E ->
  codeAny (model P w) A (.call (.ref f) args) (CR CX outer P w H s Q E) s
theorem Env0.make (e:Env0 P w K mg base A outer s H) (C:Addr) (us:List Value) (kw:List (Str × Value)) :
  Env0 P w K mg base (A.under (.builtin "type.__call__" ⟨.ref C::us,kw⟩)) outer s H:=⟨by first | exact e.frames | (simpa [Around.under,Code.envs,Code.isFrame,pushEnvs] using e.frames),e.mod,e.bs,e.bsz,e.funs,e.frf,e.hok,e.bare⟩
theorem Inv.env0 (I:Inv X pins σ H s):Env0 X.prog X.w X.K X.mg X.base X.A X.stack s H :=
 ⟨I.ok.frames,I.ok.mod,I.bs,Nat.le_trans I.ok.bsz I.sz,I.stack,I.stkFree,I.hok,I.bare⟩
theorem Inv.after {Q:VK} (I:Inv X pins σ H s) (h:CE X.stack X.prog X.w H s Q u s'):EP X pins σ Q u s':=by
 obtain ⟨v,H',os,bare,un,hok,r,q⟩:=h
 obtain ⟨hh,g,d,t,os'⟩:=s'
 obtain rfl:os'=s.os:=os
 exact ⟨v,H',I.call (h':=hh) (g':=g) (d':=d) (t':=t) (ch:=[]) un hok bare (λb z=>absurd z (by simp)),r,q⟩
def Qz4 (sp:Sp) (dvs:List V) (E:XK) (t:TA):TE:=λσ H Q=>t σ H λvs H1=>sp (vs++dvs) H1 Q E
def Xm (K:Frag) (fd:FuncData) (ps:List Str) (ds:List Value):Prop :=
 ∀(s:Shared) (us:List Value),K.In s.heap->(us++ds).length=ps.length->BindsTo s fd ⟨us,[]⟩ (ps.zip (us++ds))
theorem Xm.all (h:∀us:List Value,us.length=ps.length->bindArgs fd ⟨us,[]⟩=pure (ps.zip us)):Xm K fd ps []:=λs us _ hl=>by
 rw [List.append_nil] at hl ⊢
 exact .of_eq (h us hl)
def Qmi (CX:CXT) (X:Cx) (E:XK):Prop:=∀(pins:List (Addr × Obj)) (σ:St) (H:Hp) (s:Shared) (e:Value) (s':Shared),Inv X pins σ H s->CX X.stack H s E e s'->X.xe e s'
section
variable {k:Nat} {dvs:List V} {ds:List Value} {E:XK} {t:TA}
theorem Qu4 {Q:VK} (F:FnOk X.prog X.w X.K X.mg X.base CX k f fd ps sp) (hr:Room k X.A) (hb:Xm X.K fd ps ds) (hd:Vals dvs ds) (hx:Qmi CX X E)
  (I:Inv X pins σ H s) (r:Vals vs us) (h:sp (vs++dvs) H Q E):wpAny (model X.prog X.w) X.A (call (.ref f) us) (EP X pins σ Q) X.xe s:=by
 have r2:Vals (vs++dvs) (us++ds):=r.append hd
 have hl:(us++ds).length=ps.length:=by rw [← r2.length];exact F.len _ _ _ _ h
 refine wpAny_call (codeAny_mono (F.run X.A X.stack s H ⟨us,[]⟩ (us++ds) (vs++dvs) Q E hr I.env0 (hb s us I.kIn hl) r2 h) λr s' hq=>?_)
 cases r with
 | error e=>exact hx pins σ H s e s' I hq
 | ok fl =>
  cases fl with
  | ret u=>exact I.after hq
  | next=>exact False.elim hq
  | brk=>exact False.elim hq
  | cont=>exact False.elim hq
theorem Qf3 (F:FnOk X.prog X.w X.K X.mg X.base CX k f fd ps sp) (hr:Room k X.A) (hg:Gl X x) (hm:X.mg x=some (.ref f)) (hk:keepIn X.K (.ref f)=true) (hb:Xm X.K fd ps ds) (hd:Vals dvs ds) (hx:Qmi CX X E)
  (ha:PA X (e::es) t) (hdb:(x == ("__debug__" : Str))=false:=by decide) (he:starEach (e::es) X.env=(false,eval e X.env)::starEach es X.env:=by rfl) (hpl:(backTo pos (starEach es X.env)).any (·.1)=false:=by rfl) :
  PE X (.Call (.Name x p) (e::es) [] pos) (Qz4 sp dvs E t):=by
 intro pins s σ H Q I h
 refine wpAny_Call_Name_kw (Xe I hg hm ?_ hdb)
 refine callWith_K (h₀:=X.base) I.ok.mod.kin hk (thn (ha pos pins s σ H _ I h) λus s1 ⟨vs,H1,I1,r,q⟩=>⟨I1.kIn,?_⟩) he hpl
 exact Qu4 F hr hb hd hx I1 r q
end
structure FnScope (N P:List Str) (sc:Scope):Prop where
 kind:sc.kind=.function
 co:sc.isCoroutine=false
 gen:sc.isGenerator=false
 nd:N.Nodup
 pre:N.take P.length=P
 par:∀x∈P,sc.names.lookup x=some .local\/sc.names.lookup x=some .cell
 nofree:∀y∈sc.names,y.2 ≠ .free
theorem Qfg {kindOf:Str->Option NameKind} {x:Str}:∀{binds:List (Str × Value)} {m:Str->Option Value},(∀v,(x,v)∉binds)->bindL kindOf binds m x=m x
 | [],_,_=>rfl
 | (n,v)::r,m,h=>by
  unfold bindL
  rw [Qfg λw hw=>h w (List.mem_cons_of_mem _ hw)]
  split
  ·have:x≠n:=by rintro rfl;exact h v List.mem_cons_self
   simp [this]
  ·rfl
theorem Qfi {kindOf:Str->Option NameKind} {x:Str}:∀{binds:List (Str × Value)} {m:Str->Option Value},(∀v,(x,v)∉binds)->bindC kindOf binds m x=m x
 | [],_,_=>rfl
 | (n,v)::r,m,h=>by
  unfold bindC
  rw [Qfi λw hw=>h w (List.mem_cons_of_mem _ hw)]
  split
  ·rfl
  ·have:x≠n:=by rintro rfl;exact h v List.mem_cons_self
   simp [this]
theorem Qfh {kindOf:Str->Option NameKind} {x:Str} {v:Value}:∀{P:List Str} {vs:List Value} {i:Nat} {m:Str->Option Value},P.Nodup->P[i]? = some x->vs[i]? = some v->kindOf x=some .local ->
  bindL kindOf (P.zip vs) m x=some v
 | [],_,_,_,_,h,_,_=>by simp at h
 | _::_,[],_,_,_,_,h,_=>by simp at h
 | p::P,w::vs,0,m,nd,h1,h2,hk=>by
  simp at h1 h2;subst h1;subst h2
  show bindL kindOf ((p,w)::P.zip vs) m p=_
  unfold bindL
  rw [Qfg λv hv=>(List.nodup_cons.mp nd).1 (List.of_mem_zip hv).1,if_pos hk]
  simp
 | p::P,w::vs,i+1,m,nd,h1,h2,hk=>by
  show bindL kindOf ((p,w)::P.zip vs) m x=_
  unfold bindL
  exact Qfh (i:=i) (List.nodup_cons.mp nd).2 (by simpa using h1) (by simpa using h2) hk
theorem Qfj {kindOf:Str->Option NameKind} {x:Str} {v:Value}:∀{P:List Str} {vs:List Value} {i:Nat} {m:Str->Option Value},P.Nodup->P[i]? = some x->vs[i]? = some v->kindOf x≠some .local ->
  bindC kindOf (P.zip vs) m x=some v
 | [],_,_,_,_,h,_,_=>by simp at h
 | _::_,[],_,_,_,_,h,_=>by simp at h
 | p::P,w::vs,0,m,nd,h1,h2,hk=>by
  simp at h1 h2;subst h1;subst h2
  show bindC kindOf ((p,w)::P.zip vs) m p=_
  unfold bindC
  rw [Qfi λv hv=>(List.nodup_cons.mp nd).1 (List.of_mem_zip hv).1,if_neg hk]
  simp
 | p::P,w::vs,i+1,m,nd,h1,h2,hk=>by
  show bindC kindOf ((p,w)::P.zip vs) m x=_
  unfold bindC
  exact Qfj (i:=i) (List.nodup_cons.mp nd).2 (by simpa using h1) (by simpa using h2) hk
def start (N:List Str) (vs:List V):St:=vs.map some++List.replicate (N.length-vs.length) none
def cxOf (CX:CXT) (P:Program) (w:World) (K:Frag) (mg:Str->Option Value) (base:Heap) (N:List Str) (qual:Str) (scope:Scope) (f:Addr) (cd:Value) (A:Around) (outer:List Env) (s:Shared) (H:Hp) (E:XK):Cx where
 prog:=P
 w:=w
 K:=K
 mg:=mg
 base:=base
 A:=A.deeper (envOfC qual scope s.heap.objs.size f cd)
 N:=N
 s₀:=s
 H₀:=H
 env:=envOfC qual scope s.heap.objs.size f cd
 outer:=outer
 stack:=envOfC qual scope s.heap.objs.size f cd::outer
 ex:=[]
 calm:=true
 fn:=λ_=>true
 pn:=[]
 xe:=λe s'=>wpAny (model P w) (A.deeper (envOfC qual scope s.heap.objs.size f cd)) (leaving (envOfC qual scope s.heap.objs.size f cd) e) (λ_ s''=>CX outer H s E e s'') (λe' s''=>CX outer H s E e' s'') s'
theorem Qht {sc:Scope} (h:sc.names.lookup x=some .cell):∃c,(cellsFrom n sc.names []).lookup x=some c:=by
 have q:=cellsFrom_some sc.names n [] (.inl h)
 exact Option.isSome_iff_exists.mp q
theorem Qkz {cd:Value} {s1:Shared} {E:XK}
  (S:FnScope N ps scope) (hd:A.handled=none) (e0:Env0 P w K mg base A outer s H) (hl:vs.length=ps.length) (r:Vals vs us)
  (x:InCallC s s.heap.objs.size (bindL (envOfC qual scope s.heap.objs.size f cd).kindOf (ps.zip us) λ_=>none) (cellsFrom (s.heap.objs.size+1) scope.names []) (bindC (envOfC qual scope s.heap.objs.size f cd).kindOf (ps.zip us) λ_=>none) s1) :
  Inv (cxOf CX P w K mg base N qual scope f cd A outer s H E) [] (start N vs) H s1:=by
 have hpl:ps.length<=N.length:=by have:=congrArg List.length S.pre;rw [List.length_take] at this;omega
 obtain ⟨h1,tk,rfl,hk⟩:=x.done
 have noA:∀b:Addr,b∉(cxOf CX P w K mg base N qual scope f cd A outer s H E).ex:=λb z=>absurd (show b∈([]:List Addr) from z) (by simp)
 refine ⟨⟨e0.mod,S.kind,rfl,rfl,Nat.le_refl _,λy z c h1 h2=>?_,λy hy=>?_,λy c _ h=>?_,λ_=>hd,Around.frames_deeper e0.frames,.inr ⟨rfl,rfl⟩,λb z=>absurd z (noA b),e0.bs,e0.bsz,λb _ _=>noA b,λb z=>absurd z (noA b),e0.funs,e0.frf⟩,
  rfl,e0.bare,Un.kept hk,⟨_,x.toInCall.ns,λi y v h1 h2 h3=>?_⟩,λy c h=>⟨_,x.cell y c h⟩,e0.hok.fresh (Nat.le_refl _),λy c h=>?_,λp hp=>absurd (show p∈([]:List (Addr × Obj)) from hp) (by simp),e0.hok.kept hk,?_⟩
 ·exact name_of_addr x.apart (PySem.mem_of_lookup h1) (PySem.mem_of_lookup h2)
 ·have hy:scope.names.lookup y=some .cell\/scope.names.lookup y=some .free:=hy
  rcases hy with hy | hy
  ·exact Qht hy
  ·exact absurd rfl (S.nofree _ (PySem.mem_of_lookup hy))
 ·exact Nat.le_of_lt (x.above y c (PySem.mem_of_lookup h))
 ·have hi:i<vs.length:=by
   unfold start at h2
   by_cases hi:i<vs.length
   ·exact hi
   ·rw [List.getElem?_append_right (by simpa using hi)] at h2
    rw [List.getElem?_replicate] at h2
    split at h2 <;> cases h2
  have ha:vs[i]? = some v:=by
   unfold start at h2
   rw [List.getElem?_append_left (by simpa using hi),List.getElem?_map] at h2
   cases e:vs[i]? with
   | none=>rw [e] at h2;cases h2
   | some a=>rw [e] at h2;cases h2;rfl
  obtain ⟨u,hu,rv⟩:=r.get ha
  have hp:ps[i]? = some y:=by
   rw [← S.pre,List.getElem?_take_of_lt (by omega)];exact h1
  have ndP:ps.Nodup:=by rw [← S.pre];exact S.nd.sublist (List.take_sublist _ _)
  refine ⟨u,rv,?_⟩
  rcases S.par y (List.mem_of_getElem? hp) with k | k
  ·exact .inl ⟨k,Qfh ndP hp hu k⟩
  ·obtain ⟨c,e⟩:=Qht (n:=s.heap.objs.size+1) k
   refine .inr ⟨.inl k,c,e,?_⟩
   have q:=x.cell y c e
   rw [Qfj ndP hp hu (by show scope.names.lookup y≠_;rw [k];decide)] at q
   exact q
 ·exact e0.hok.fresh (Nat.le_of_lt (x.above y c (PySem.mem_of_lookup h)))
 ·unfold start
  show _=N.length
  rw [List.length_append,List.length_map,List.length_replicate]
  omega
theorem Qyh {k:Nat} {params:Arguments} {dV kV doc pm cdv ct:Value} {an:Option Addr} (lk:K.lookup f=some ⟨oc,od,.func (fnOf name qual params body scope dV kV doc pm an cdv ct),osl⟩) (hcd:codeIn K cdv qual=true) (S:FnScope N ps scope)
  (len:∀vs H Q E,sp vs H Q E->vs.length=ps.length)
  (hbody:∀(A:Around) (outer:List Env) (s:Shared) (H:Hp) (vs:List V) (Q:VK) (E:XK),Room k (A.deeper (envOfC qual scope s.heap.objs.size f cdv))->sp vs H Q E ->
   ∃t,PSs (cxOf CX P w K mg base N qual scope f cdv A outer s H E) body t/\t { nx:=λ_ H'=>Q .non H',rt:=Q } (start N vs) H) :
  FnOk P w K mg base CX (k+1) f (fnOf name qual params body scope dV kV doc pm an cdv ct) ps sp:=by
 refine ⟨len,λA outer s H args us vs Q E hr e0 hb r hsp=>?_⟩
 have hl:=len _ _ _ _ hsp
 have KX:K.In s.heap:=e0.mod.kin.keeps λb o e=>(e0.bs b o e).1
 have lim:s.heap.NoLimit:=e0.mod.nolimit.keeps λb o e=>(e0.bs b o e).1
 have hkind:∀y∈ps.zip us,scope.names.lookup y.1=some .local\/(scope.names.lookup y.1=some .cell/\((cellsFrom (s.heap.objs.size+1) scope.names []).lookup y.1).isSome=true):=λ⟨n,v⟩ hy=>by
  rcases S.par n (List.of_mem_zip hy).1 with q | q
  ·exact .inl q
  ·exact .inr ⟨q,cellsFrom_some _ _ _ (.inl q)⟩
 refine codeAny_call_function hr.depth (KX _ _ lk) rfl S.co S.gen rfl (PySem.W.codeRec_of KX hcd) (hb _ _ _ _ ?_)
 refine wpAny_newFunctionEnv_cells S.kind hkind λenv he s1 x=>?_
 subst he
 refine ⟨lim.keeps x.toInCall.keep,codeAny_func ?_⟩
 obtain ⟨t,ht,hq⟩:=hbody A outer s H vs Q E (hr.deeper _) hsp
 have I:Inv (cxOf CX P w K mg base N qual scope f cdv A outer s H E) [] (start N vs) H s1:=Qkz S hr.hd e0 hl r x
 refine wpAny_mono (ht [] s1 (start N vs) H _ I hq) (λfl s' hs=>?_) λe s' hs=>hs
 have fin:∀{σ':St} {H':Hp} {v:V} {u:Value},Inv (cxOf CX P w K mg base N qual scope f cdv A outer s H E) [] σ' H' s'->RelV v u->Q v H'->CE outer P w H s Q u s' :=
  λ{σ' H' v u} J rv q=>⟨v,H',J.os,J.bare,J.base,J.hok,rv,q⟩
 cases fl with
 | ret u =>
  obtain ⟨v,σ',H',J,rv,q⟩:=hs
  exact fin J rv q
 | next =>
  obtain ⟨σ',H',J,q⟩:=hs
  exact fin (v:=V.non) (u:=Value.none) J rfl q
 | brk =>
  obtain ⟨_,_,_,q⟩:=hs
  exact False.elim q
 | cont =>
  obtain ⟨_,_,_,q⟩:=hs
  exact False.elim q
section
variable {t:TA} {id:String} {r:List V->Hp->VK->Prop}
def tCB (r:List V->Hp->VK->Prop) (t:TA):TE:=λσ H Q=>t σ H λvs H1=>r vs H1 Q
theorem Qhe (hc:Vf X (.builtin id) r) (hg:Gl X x) (hm:X.mg x=none) (hv:bootBuiltins x=some (.builtin id)) (ha:PA X (e::es) t) (hn:x ≠ "__name__":=by decide) (hdb:(x == ("__debug__" : Str))=false:=by decide)
  (he:starEach (e::es) X.env=(false,eval e X.env)::starEach es X.env:=by rfl) (hpl:(backTo pos (starEach es X.env)).any (·.1)=false:=by rfl):PE X (.Call (.Name x p) (e::es) [] pos) (tCB r t):=by
 intro pins s σ H Q I h
 refine wpAny_Call_Name_kw (Qcq I hg hm hv ?_ hn hdb)
 exact PyProof.Rows.callWith_builtin1 (thn (ha pos pins s σ H _ I h) λus s1 ⟨vs,H1,I1,r1,q1⟩=>hc pins s1 σ H1 vs us Q I1 r1 q1) he hpl
theorem Qen (hc:Vf X (.type T) r) (hg:Gl X x) (hm:X.mg x=none) (hv:bootBuiltins x=some (.type T)) (ha:PA X (e::es) t) (hn:x ≠ "__name__":=by decide) (hdb:(x == ("__debug__" : Str))=false:=by decide)
  (he:starEach (e::es) X.env=(false,eval e X.env)::starEach es X.env:=by rfl) (hpl:(backTo pos (starEach es X.env)).any (·.1)=false:=by rfl):PE X (.Call (.Name x p) (e::es) [] pos) (tCB r t):=by
 intro pins s σ H Q I h
 refine wpAny_Call_Name_kw (Qcq I hg hm hv ?_ hn hdb)
 exact PyProof.Rows.callWith_type1 (thn (ha pos pins s σ H _ I h) λus s1 ⟨vs,H1,I1,r1,q1⟩=>hc pins s1 σ H1 vs us Q I1 r1 q1) he hpl
end
end L2
variable {sl:PySem.Addr} {vl vu:PySem.Value} {items:Array PySem.Value}
namespace HT
open PySem PyProof.Rows
def Qxp:List Int->List Int->Bool
 | [],[]=>false
 | [],_::_=>true
 | _::_,[]=>false
 | x::xs,y::ys=>if x=y then Qxp xs ys else decide (x<y)
theorem Qtw {t:Addr} {vs ws:List Value} (ht:IsTup s.heap t vs.toArray) (hb:IsTup s.heap b ws.toArray) (hv:vs≠[])
  (h1:ws=[]->Q (.ref t) s) (h2:ws≠[]->Q (.ref s.heap.objs.size) { s with heap:=s.heap.push { cls:=.type "tuple",data:=.seq (vs++ws).toArray } })
  (hsz:vs.length+ws.length<=sizeLine):wpAny (model prog w) A (binaryOp .Add (.ref t) (.ref b)) Q E s:=by
 obtain ⟨⟨cls,dd,data,sl⟩,ho,hc,n,hd⟩:=id ht
 obtain ⟨⟨cls2,dd2,data2,sl2⟩,ho2,hc2,n2,hd2⟩:=id hb
 simp only at hc hd hc2 hd2
 subst hc hd hc2 hd2
 have e:vs.toArray++ws.toArray=(vs++ws).toArray:=by simp
 by_cases hw:ws=[]
 ·exact concat_meets ⟨_,ho,rfl⟩ ⟨_,ho2,rfl⟩ noFill_tuple_add seq_tuple_add PySem.F.slot_tuple_add PySem.F.entry_tuple_add (PySem.F.args_tuple_add_2 _ _)
   (tuple_addW1 t b vs.toArray ws.toArray n n2 dd dd2 sl sl2 (by simpa using hv) (by simp [hw])) ⟨ho,ho2,h1 hw⟩
 ·refine concat_meets ⟨_,ho,rfl⟩ ⟨_,ho2,rfl⟩ noFill_tuple_add seq_tuple_add PySem.F.slot_tuple_add PySem.F.entry_tuple_add (PySem.F.args_tuple_add_2 _ _)
   (tuple_addW2 t b vs.toArray ws.toArray n n2 dd dd2 sl sl2 (by simpa using hv) (by simpa using hw) (by rw [List.size_toArray,List.size_toArray];exact hsz)) ⟨ho,ho2,?_⟩
  rw [e]
  exact h2 hw
def sIx (n d:Nat):Option Int->Nat
 | none=>d
 | some v=>if v<0 then (v+(n:Int)).toNat else min v.toNat n
theorem Qm2 (n d:Nat):sIx n d none=d:=rfl
theorem Qqz (n d k:Nat):sIx n d (some (k:Int))=min k n:=by
 show (if (k:Int)<0 then ((k:Int)+(n:Int)).toNat else min (k:Int).toNat n)=min k n
 rw [if_neg (by omega),Int.toNat_natCast]
theorem Qu3 (n d:Nat) (hd:d<=n) (o:Option Int):sIx n d o<=n:=by
 cases o with
 | none=>exact hd
 | some v =>
  show (if v<0 then (v+(n:Int)).toNat else min v.toNat n)<=n
  by_cases hv:v<0
  ·rw [if_pos hv];omega
  ·rw [if_neg hv];exact Nat.min_le_right _ _
theorem Ql3 (v:Int) (n d:Nat):(if v<0 then max (v+(n:Int)) 0 else min v (n:Int))=((sIx n d (some v):Nat):Int):=by
 show (if v<0 then max (v+(n:Int)) 0 else min v (n:Int))=(((if v<0 then (v+(n:Int)).toNat else min v.toNat n):Nat):Int)
 by_cases hv:v<0
 ·simp only [if_pos hv];omega
 ·simp only [if_neg hv];omega
theorem Qit (lo hi:Option Int) (n:Nat):Builtin.Slice.sliceAdjust lo hi 1 (n:Int)=(((sIx n 0 lo:Nat):Int),((sIx n n hi:Nat):Int)):=by
 have h1:¬((1:Int)<0):=by omega
 unfold Builtin.Slice.sliceAdjust
 simp only [h1,if_false]
 refine Prod.ext ?_ ?_
 ·cases lo with
  | none=>rfl
  | some v=>exact Ql3 v n 0
 ·cases hi with
  | none=>rfl
  | some v=>exact Ql3 v n n
theorem Qic (i j:Nat):Builtin.Slice.slicePlaces (i:Int) (j:Int) 1=j-i:=by
 unfold Builtin.Slice.slicePlaces
 have h1:(1:Int) > 0:=by omega
 simp only [h1,if_true,Int.ediv_one]
 split <;> omega
theorem Qck {v:Value} {o:Option Int} {Q:Option Int->Shared->Prop} (p:IsPart v o) (h:Q o s):wpAny (model prog w) A (Builtin.Slice.slicePartIndex v) Q E s:=by
 cases p with
 | none=>exact slicePart_none h
 | int i t=>exact slicePart_int h
theorem Vn {lo:Option Int} {Q:Int × Int × Nat->Shared->Prop} (hs:s.heap.IsSliceOf sl vl vu .none) (pl:IsPart vl lo) (pu:IsPart vu hi)
  (h:Q (((sIx n 0 lo:Nat):Int),1,sIx n n hi-sIx n 0 lo) s):wpAny (model prog w) A (Builtin.Slice.sliceApplied (.ref sl) (pure (n:Int))) Q E s:=by
 obtain ⟨os,hos,hcs,hds⟩:=id hs
 unfold Builtin.Slice.sliceApplied Builtin.Slice.sliceFields
 refine wpAny_bind (wpAny_bind (wpAny_field hos hds (x:=vl) rfl (wpAny_bind (wpAny_field hos hds (x:=vu) rfl (wpAny_bind (wpAny_field hos hds (x:=.none) rfl (wpAny_pure ?_)))))))
 refine wpAny_bind (slicePart_none ?_)
 show wpAny _ _ (if ((1:Int) == 0)=true then _ else _) _ _ s
 rw [if_neg (by decide)]
 refine wpAny_bind (Qck pl (wpAny_bind (Qck pu (wpAny_bind (wpAny_pure ?_)))))
 show wpAny _ _ (match Builtin.Slice.sliceAdjust lo hi 1 (n:Int) with | (lo,hi)=>pure (lo,(1:Int),Builtin.Slice.slicePlaces lo hi 1)) _ _ s
 rw [Qit lo hi n]
 show wpAny _ _ (pure (((sIx n 0 lo:Nat):Int),(1:Int),Builtin.Slice.slicePlaces ((sIx n 0 lo:Nat):Int) ((sIx n n hi:Nat):Int) 1)) _ _ s
 rw [Qic]
 exact wpAny_pure h
theorem Qnh (xs:Array Value) (i k:Nat):((List.range k).filterMap λ(m:Nat)=>xs[((i:Int)+(m:Int)*1).toNat]?).toArray=((xs.toList.drop i).take k).toArray:=by
 have e:(λ(m:Nat)=>xs[((i:Int)+(m:Int)*1).toNat]?)=λm=>xs[i+m]?:=by
  funext m
  have:((i:Int)+(m:Int)*1).toNat=i+m:=by omega
  rw [this]
 rw [e]
 have:=pick_run xs i k
 rw [List.filterMap_map] at this
 have e2:((λx=>xs[x]?) ∘ λx=>i+x)=λm=>xs[i+m]?:=rfl
 rw [e2] at this
 rw [this]
theorem Xf {t:Addr} {lo:Option Int} (ht:IsTup s.heap t items) (hs:s.heap.IsSliceOf sl vl vu .none) (pl:IsPart vl lo) (pu:IsPart vu hi)
  (hw:¬(sIx items.size 0 lo=0/\sIx items.size items.size hi=items.size))
  (h:Q (.ref s.heap.objs.size) { s with heap:=s.heap.push { cls:=.type "tuple",data:=.seq ((items.toList.drop (sIx items.size 0 lo)).take (sIx items.size items.size hi-sIx items.size 0 lo)).toArray } })
  (hsz:items.size<=sizeLine):wpAny (model prog w) A (getItem (.ref t) (.ref sl)) Q E s:=by
 have htake:sizeOk (.seq ((items.toList.drop (sIx items.size 0 lo)).take (sIx items.size items.size hi-sIx items.size 0 lo)).toArray):=by
  show ((items.toList.drop (sIx items.size 0 lo)).take (sIx items.size items.size hi-sIx items.size 0 lo)).toArray.size<=sizeLine
  rw [List.size_toArray,List.length_take,List.length_drop,Array.length_toList]
  omega
 have hj:sIx items.size items.size hi<=items.size:=Qu3 _ _ (Nat.le_refl _) hi
 obtain ⟨os,hos,hcs,hds⟩:=id hs
 have hTs:s.TypeIs (.ref sl) "slice":=⟨os,hos,hcs⟩
 unfold getItem
 try with_reducible refine wpAny_holding ?_
 first | refine wpAny_bind (wpAny_pure ?_) | skip
 refine wpAny_bind (wpAny_sequenceKey ht.typeIs (by decide) ?_)
 refine wpAny_bind (wpAny_callSpecial?_slot (name:=Str.ofString "__getitem__") ht.typeIs PyProof.Rows.slot_tuple_getitem
  (wpAny_call_entry PyProof.Rows.slot_tuple_getitem ht.typeIs entry_tuple_getitem ?_ (args_tuple_getitem _ _)))
 show wpAny _ _ (Builtin.Tuple.tupleItemsOf (.ref t) >>= _) _ _ s
 refine wpAny_bind (tupleItemsOf_ ht ?_)
 refine wpAny_bind (wpAny_typeOf hTs ?_)
 rw [if_pos (by decide)]
 refine wpAny_bind (Vn hs pl pu ?_)
 have hno:¬((((sIx items.size 0 lo:Nat):Int) == 0 && (1:Int) == 1 && (sIx items.size items.size hi-sIx items.size 0 lo) == items.size)=true):=by
  intro q
  rw [Bool.and_eq_true,Bool.and_eq_true] at q
  have q1:((sIx items.size 0 lo:Nat):Int)=0:=eq_of_beq q.1.1
  have q2:sIx items.size items.size hi-sIx items.size 0 lo=items.size:=eq_of_beq q.2
  exact hw ⟨by omega,by omega⟩
 show wpAny _ _ (if (((sIx items.size 0 lo:Nat):Int) == 0 && (1:Int) == 1 && (sIx items.size items.size hi-sIx items.size 0 lo) == items.size)=true then _ else _) _ _ s
 rw [if_neg hno,Qnh]
 first
  | exact wpAny_bind (m:=Builtin.Tuple.tupleExact _) (wpAny_newObj_type (wpAny_pure ⟨_,rfl,wpAny_pure h⟩) htake)
  | exact wpAny_bind (m:=Builtin.Tuple.tupleExact _) (wpAny_newObj_type (wpAny_bind (wpAny_pure (wpAny_pure ⟨_,rfl,wpAny_pure h⟩))) htake)
  | exact wpAny_bind (wpAny_bind (m:=Builtin.Tuple.tupleExact _) (wpAny_newObj_type (wpAny_pure (wpAny_pure ⟨_,rfl,wpAny_pure h⟩)) htake))
  | exact wpAny_bind (wpAny_bind (m:=Builtin.Tuple.tupleExact _) (wpAny_newObj_type (wpAny_pure ⟨_,rfl,wpAny_pure h⟩) htake))
end HT
namespace L2
open PySem PySem.Spec PyProof.Rows
abbrev TO:=St->Hp->(Option Int->Hp->Prop)->Prop
end L2
variable {xs:List (List L2.Key × PySem.Addr × PySem.Value)} {kvs:List (List L2.Key × L2.V)} {l:PySem.W.OpenLaw} {cpos p2:PySem.Pos} {th:L2.TS}
namespace L2
open PySem PySem.Spec PyProof.Rows
def PO (X:Cx) (e:Option Expr) (t:TO):Prop :=
 ∀(pins:List (Addr × Obj)) (s:Shared) (σ:St) (H:Hp) (Q:Option Int->Hp->Prop),Inv X pins σ H s->t σ H Q ->
  wpAny (model X.prog X.w) X.A (evalPart e X.env) (λu s'=>∃o H',Inv X pins σ H' s'/\IsPart u o/\Q o H') X.xe s
def Qqp:TO:=λ_ H Q=>Q none H
def Qzz (t:TE):TO:=λσ H Q=>t σ H λx H1=>∃i,x=.int i/\Q (some i) H1
section
variable {lo hi:Option Expr} {tl th:TO}
theorem Qf2:PO X none Qqp:=by
 intro pins s σ H Q I h
 rw [evalPart_none]
 exact wpAny_pure ⟨none,H,I,.none,h⟩
theorem Qsa (h:PE X e te):PO X (some e) (Qzz te):=by
 intro pins s σ H Q I hw
 rw [evalPart_some]
 refine thn (h pins s σ H _ I hw) λu s1 ⟨x,H1,I1,r1,q1⟩=>?_
 obtain ⟨i,rfl,q⟩:=q1
 obtain ⟨t,rfl⟩:=r1
 exact ⟨some i,H1,I1,.int i t,q⟩
def SlR (X:Cx) (r:V->Option Int->Option Int->Hp->VK->Prop):Prop :=
 ∀(pins:List (Addr × Obj)) (s:Shared) (σ:St) (H:Hp) (x:V) (v vl vu:Value) (lo hi:Option Int) (sl:Addr) (Q:VK),Inv X pins σ H s->RelV x v->s.heap.IsSliceOf sl vl vu .none->IsPart vl lo->IsPart vu hi->r x lo hi H Q ->
  ∃T id,typeLookup (.type T) "__getitem__" = pure (some (.builtin id))/\s.TypeIs v T/\wpAny (model X.prog X.w) X.A (getItem v (.ref sl)) (EP X pins σ Q) X.xe s
theorem SlR.or {r r':V->Option Int->Option Int->Hp->VK->Prop} (h:SlR X r) (h':SlR X r'):SlR X (λx lo hi H Q=>r x lo hi H Q\/r' x lo hi H Q):=by
 intro pins s σ H x v vl vu lo hi sl Q I rx hs pl pu q
 rcases q with q | q
 ·exact h pins s σ H x v vl vu lo hi sl Q I rx hs pl pu q
 ·exact h' pins s σ H x v vl vu lo hi sl Q I rx hs pl pu q
def tSl (r:V->Option Int->Option Int->Hp->VK->Prop) (te:TE) (tl th:TO):TE:=λσ H Q=>te σ H λx H1=>tl σ H1 λl H2=>th σ H2 λu H3=>r x l u H3 Q
theorem Qde {r:V->Option Int->Option Int->Hp->VK->Prop} (hr:SlR X r) (he:PE X e te) (hl:PO X lo tl) (hu:PO X hi th):PE X (.Subscript e (.Slice lo hi none p2) pos) (tSl r te tl th):=by
 intro pins s σ H Q I h
 refine Subscript_ (thn (he pins s σ H _ I h) λv s1 ⟨x,H1,I1,r1,q1⟩=>?_)
 refine wpAny_Slice (thn (hl pins s1 σ H1 _ I1 q1) λvl s2 ⟨l,H2,I2,pl,q2⟩=>thn (hu pins s2 σ H2 _ I2 q2) λvu s3 ⟨u,H3,I3,pu,q3⟩=>?_)
 rw [evalPart_none]
 refine wpAny_pure ?_
 have I4:Inv X pins σ H3 { s3 with heap:=s3.heap.push { cls:=.type "slice",data:=.fields #[vl,vu,.none] } }:=I3.kept (t':=s3.toks) λb ob q=>Heap.get?_push_of_some _ q
 obtain ⟨T,id,hT,ht,hg⟩:=hr pins { s3 with heap:=s3.heap.push { cls:=.type "slice",data:=.fields #[vl,vu,.none] } } σ H3 x v vl vu l u s3.heap.objs.size Q I4 r1 (Heap.IsSliceOf.new ..) pl pu q3
 show wpAny (model X.prog X.w) X.A (subscriptTail e (.Slice lo hi none p2) v (.ref s3.heap.objs.size)) (EP X pins σ Q) X.xe { s3 with heap:=s3.heap.push { cls:=.type "slice",data:=.fields #[vl,vu,.none] } }
 exact tail_any (ops:=[.ref s3.heap.objs.size,v]) ht hT hg (by with_unfolding_all rfl)
def cutV (xs:List V) (lo hi:Option Int):List V:=(xs.drop (HT.sIx xs.length 0 lo)).take (HT.sIx xs.length xs.length hi-HT.sIx xs.length 0 lo)
theorem Qbk (xs:List V) (lo hi:Option Int):(cutV xs lo hi).length<=xs.length:=by
 unfold cutV
 rw [List.length_take,List.length_drop]
 omega
def rSlT (K:Frag):V->Option Int->Option Int->Hp->VK->Prop:=λx lo hi H Q=>∃a xs,x=.ref a/\SqT K H a xs /\
 ¬(HT.sIx xs.length 0 lo=0/\HT.sIx xs.length xs.length hi=xs.length)/\∀p,H p=none->Q (.ref p) (upd H p (.tup (cutV xs lo hi)))
theorem Quz:SlR X (rSlT X.K):=by
 intro pins s σ H x v vl vu lo hi sl Q I rx hs pl pu h
 obtain ⟨a,xs,rfl,hx,hw,q⟩:=h
 cases rx
 obtain ⟨its,r,ht,hz⟩:=I.tuple hx
 have hlen:its.toArray.size=xs.length:=by rw [List.size_toArray];exact r.length.symm
 refine ⟨"tuple",_,PyProof.Rows.slot_tuple_getitem.lookup,ht.typeIs,?_⟩
 refine HT.Xf ht hs pl pu (by rw [hlen];exact hw) ?_ (by rw [hlen];exact hz)
 rw [hlen]
 refine ⟨.ref s.heap.objs.size,_,I.laid (t':=s.toks) (o:=.tup (cutV xs lo hi)) (λb ob q=>Heap.get?_push_of_some _ q) (Nat.le_refl _) ?_,rfl,q _ (I.hok.fresh (Nat.le_refl _))⟩
 exact ⟨Nat.le_trans (Qbk xs lo hi) hz,_,(r.drop (HT.sIx xs.length 0 lo)).take (HT.sIx xs.length xs.length hi-HT.sIx xs.length 0 lo),IsTup.new _ _⟩
def Q0y (K:Frag):R2:=λx y H Q=>∃a b xs ys,x=.ref a/\y=.ref b/\SqT K H a xs/\SqT K H b ys/\xs≠[]/\xs.length+ys.length<=sizeLine /\
 (ys=[]->Q (.ref a) H)/\(ys≠[]->∀p,H p=none->Q (.ref p) (upd H p (.tup (xs++ys))))
theorem Vals.nil_iff {xs:List V} (r:Vals xs us):us=[]↔xs=[]:=by
 cases r with
 | nil=>simp
 | cons _ _=>simp
theorem Qsl:OpR X (binaryOp .Add) (Q0y X.K):=by
 intro pins s σ H x y v u Q I rx ry h
 obtain ⟨a,b,xs,ys,rfl,rfl,ha,hb,hx,hz,q1,q2⟩:=h
 cases rx
 cases ry
 obtain ⟨its,r1,p1,_⟩:=I.tuple ha
 obtain ⟨its2,r2,p2,_⟩:=I.tuple hb
 refine HT.Qtw p1 p2 (λz=>hx (r1.nil_iff.mp z)) (λz=>⟨.ref a,H,I,rfl,q1 (r2.nil_iff.mp z)⟩) (λz=>?_) (by rw [← r1.length,← r2.length];exact hz)
 refine ⟨.ref s.heap.objs.size,_,I.laid (t':=s.toks) (o:=.tup (xs++ys)) (λb ob q=>Heap.get?_push_of_some _ q) (Nat.le_refl _) ?_,rfl,q2 (λw=>z (r2.nil_iff.mpr w)) _ (I.hok.fresh (Nat.le_refl _))⟩
 exact ⟨by rw [List.length_append];exact hz,_,r1.append r2,IsTup.new _ _⟩
end
def ixN (n:Nat) (i:Int):Option Nat:=if 0<=i then (if i<n then some i.toNat else none) else if -(n:Int)<=i then some (i+n).toNat else none
def atI {α:Type} (xs:List α) (i:Int):Option α:=(ixN xs.length i).bind λj=>xs[j]?
theorem Qdp {j:Nat} (h:ixN n i=some j):seqIndex? i n=some j/\j<n /\ -(n:Int)<=i/\i<n:=by
 unfold ixN at h
 by_cases h0:0<=i
 ·rw [if_pos h0] at h
  by_cases h1:i<n
  ·rw [if_pos h1] at h
   have e:i.toNat=j:=Option.some.inj h
   exact ⟨by rw [seqIndex_of h0 h1,e],by omega,by omega,h1⟩
  ·rw [if_neg h1] at h;cases h
 ·rw [if_neg h0] at h
  by_cases h1:-(n:Int)<=i
  ·rw [if_pos h1] at h
   have e:(i+n).toNat=j:=Option.some.inj h
   exact ⟨by rw [seqIndex_neg (by omega) h1,e],by omega,h1,by omega⟩
  ·rw [if_neg h1] at h;cases h
theorem Qgw {α:Type} {xs:List α} {v:α} (h:atI xs i=some v):∃j,seqIndex? i xs.length=some j/\xs[j]? = some v/\j<xs.length /\ -(xs.length:Int)<=i/\i<xs.length:=by
 unfold atI at h
 cases e:ixN xs.length i with
 | none=>rw [e] at h;cases h
 | some j =>
  rw [e] at h
  obtain ⟨h1,h2,h3,h4⟩:=Qdp e
  exact ⟨j,h1,h,h2,h3,h4⟩
def Qgx (b:Expr):Prop:=∀o i,subscripted b false o i=operate [o,i] (getItem o i)
def IxR (X:Cx) (r:R2):Prop :=
 ∀(value slice:Expr) (pins:List (Addr × Obj)) (s:Shared) (σ:St) (H:Hp) (x y:V) (v u:Value) (Q:VK),Inv X pins σ H s->RelV x v->RelV y u->r x y H Q ->
  subscripted slice false v u=operate [v,u] (getItem v u)->wpAny (model X.prog X.w) X.A (subscriptTail value slice v u) (EP X pins σ Q) X.xe s
def MtR (X:Cx) (id:String) (r:V->List V->Hp->VK->Prop):Prop :=
 ∀(pins:List (Addr × Obj)) (s:Shared) (σ:St) (H:Hp) (x:V) (xs:List V) (v:Value) (us:List Value) (Q:VK),Inv X pins σ H s->RelV x v->Vals xs us->r x xs H Q ->
  wpAny (model X.prog X.w) X.A (call (.builtin id) (v::us)) (EP X pins σ Q) X.xe s
section
variable {a b:Expr}
theorem IxR.or {r:R2} (h:IxR X r) (h':IxR X r'):IxR X (λx y H Q=>r x y H Q\/r' x y H Q):=by
 intro value slice pins s σ H x y v u Q I rx ry q hs
 rcases q with q | q
 ·exact h value slice pins s σ H x y v u Q I rx ry q hs
 ·exact h' value slice pins s σ H x y v u Q I rx ry q hs
theorem Qw1 {r:R2} (hr:IxR X r) (ha:PE X a ta) (hb:PE X b tb) (hs:Qgx b):PE X (.Subscript a b pos) (tOp r ta tb):=by
 intro pins s σ H Q I h
 exact Subscript_ (binT ha hb I h λv u s2 x y H2 I2 rx ry q=>hr a b pins s2 σ H2 x y v u Q I2 rx ry q (hs _ _))
def rIxL (K:Frag):R2:=λx y H Q=>∃p xs i v,x=.ref p/\y=.int i/\SqL K H p xs/\atI xs i=some v/\Q v H
def rIxT (K:Frag):R2:=λx y H Q=>∃p xs i v,x=.ref p/\y=.int i/\SqT K H p xs/\atI xs i=some v/\Q v H
def rIxS:R2:=λx y H Q=>∃z i c,x=.str z/\y=.int i/\z.length<=sizeLine/\atI z.cps.toList i=some c/\Q (.str ⟨#[c]⟩) H
theorem Qs0:IxR X (rIxL X.K):=by
 intro value slice pins s σ H x y v u Q I rx ry h hs
 obtain ⟨p,xs,i,z,rfl,rfl,hq,he,q⟩:=h
 cases rx
 obtain ⟨t,rfl⟩:=ry
 obtain ⟨its,r,pl,hz⟩:=I.list hq
 obtain ⟨j,h1,h2,h3,h4,h5⟩:=Qgw he
 obtain ⟨w,ew,rw'⟩:=r.get h2
 have hl:=r.length
 have hn:=Qcp
 have fin:EP X pins σ Q w s:=⟨z,H,I,rw',q⟩
 by_cases h0:0<=i
 ·have hj:i.toNat=j:=by
   rw [seqIndex_of h0 h5] at h1
   exact Option.some.inj h1
  exact item_listR pl.isList h0 (by omega) (by rw [hj];simpa using ew) fin hs
 ·have hj:(i+(its.toArray.size:Int)).toNat=j:=by
   rw [seqIndex_neg (by omega) h4] at h1
   rw [List.size_toArray,← hl]
   exact Option.some.inj h1
  exact subscriptTail_builtinR (x:=w) pl.isList.typeIs slot_list_getitem.lookup
   (wpAny_getItem_list_neg (Q:=λr s'=>r=w/\EP X pins σ Q r s') pl.isList (by omega) (by rw [List.size_toArray] <;> omega) (by omega) (by rw [hj];simpa using ew) ⟨rfl,fin⟩) hs
theorem Qx3:IxR X (rIxT X.K):=by
 intro value slice pins s σ H x y v u Q I rx ry h hs
 obtain ⟨p,xs,i,z,rfl,rfl,hq,he,q⟩:=h
 cases rx
 obtain ⟨t,rfl⟩:=ry
 obtain ⟨its,r,pl,hz⟩:=I.tuple hq
 obtain ⟨j,h1,h2,h3,h4,h5⟩:=Qgw he
 obtain ⟨w,ew,rw'⟩:=r.get h2
 have hl:=r.length
 have hn:=Qcp
 have fin:EP X pins σ Q w s:=⟨z,H,I,rw',q⟩
 exact subscriptTail_builtinR (x:=w) pl.typeIs slot_tuple_getitem.lookup
  (getItem_tuple (j:=j) (Q:=λr s'=>r=w/\EP X pins σ Q r s') pl (by omega) (by omega) (by rw [List.size_toArray,← hl];exact h1) (by simpa using ew) ⟨rfl,fin⟩) hs
theorem Qx4:IxR X rIxS:=by
 intro value slice pins s σ H x y v u Q I rx ry h hs
 obtain ⟨z,i,c,rfl,rfl,hz,he,q⟩:=h
 obtain ⟨t,rfl⟩:=rx
 obtain ⟨t',rfl⟩:=ry
 obtain ⟨j,h1,h2,h3,h4,h5⟩:=Qgw he
 have hl:z.cps.toList.length=z.length:=by simp [Str.length]
 rw [hl] at h1 h4 h5
 have hn:=Qcp
 exact tail_any (typeIs_str s z t) slot_str_getitem.lookup (getItem_str (c:=c) (by
  have e1:decide (i < -(2 ^ 63:Int))=false:=decide_eq_false (by omega)
  have e2:decide (i ≥ 2 ^ 63)=false:=decide_eq_false (by omega)
  rw [e1,e2,Bool.or_false]) (by rw [h1];simpa using h2) ⟨.str ⟨#[c]⟩,H,I.tok _,⟨_,rfl⟩,q⟩) hs
def rIx (K:Frag):R2:=λx y H Q=>rIxL K x y H Q\/rIxT K x y H Q\/rIxS x y H Q
theorem Qx5:IxR X (rIx X.K):=Qs0.or (Qx3.or Qx4)
theorem Qig (its:List Value) (n j:Nat) (u:Value):Obj.mapSeq (·.setIfInBounds j u) { cls:=.type "list",data:=.seq its.toArray n }={ cls:=.type "list",data:=.seq (its.set j u).toArray n }:=by
 simp [Obj.mapSeq]
theorem Inv.lst {pins:List (Addr × Obj)} {σ:St} {H:Hp} {s:Shared} {p:Addr} {xs:List V} (I:Inv X pins σ H s) (h:H p=some (.lst xs)) :
  ∃(its:List Value) (n:Nat),Vals xs its/\s.heap.get? p=some { cls:=.type "list",data:=.seq its.toArray n }/\xs.length<=sizeLine:=by
 obtain ⟨z,its,n,r,e⟩:=I.hok p _ h
 exact ⟨its,n,r,e,z⟩
theorem Inv.lstUpd {p:Addr} {xs:List V} {its':List Value} {n':Nat} {f:Obj->Obj} (I:Inv X pins σ H s) (h:H p=some (.lst xs))
  (ho:s.heap.get? p=some { cls:=.type "list",data:=.seq its.toArray n }) (hf:f { cls:=.type "list",data:=.seq its.toArray n }={ cls:=.type "list",data:=.seq its'.toArray n' }) (r:Vals ys its') (hz:ys.length<=sizeLine) (t:Nat) :
  Inv X pins σ (upd H p (.lst ys)) { s with heap:=s.heap.update p f,toks:=t }:=by
 have e:(s.heap.update p f).get? p=some { cls:=.type "list",data:=.seq its'.toArray n' }:=by
  rw [Heap.get?_update_self f ho (by rw [hf] <;> rfl),hf]
 refine I.write (x:=p) (e:=p) (by rw [h];trivial) (.inl rfl) (λb u hb q=>(Heap.get?_update_other _ _ (Ne.symm hb)).trans q) ⟨_,e⟩ ?_
 exact ⟨hz,its',n',r,e⟩
def Q0u:V->V->V->Hp->(Hp->Prop)->Prop:=λo i v H Q=>∃p xs k j,o=.ref p/\i=.int k/\H p=some (.lst xs)/\ixN xs.length k=some j/\Q (upd H p (.lst (xs.set j v)))
theorem Qmz:PSet X Q0u:=by
 intro pins s σ H o i v ov iv u Q I ro ri rv h
 obtain ⟨p,xs,k,j,rfl,rfl,hp,hj,q⟩:=h
 cases ro
 obtain ⟨t,rfl⟩:=ri
 obtain ⟨its,n,r,ho,hz⟩:=I.lst hp
 obtain ⟨h1,h2,h3,h4⟩:=Qdp hj
 have hl:=r.length
 have hn:=Qcp
 have I':Inv X pins σ (upd H p (.lst (xs.set j v))) { s with heap:=s.heap.update p (Obj.mapSeq (·.setIfInBounds j u)) } :=
  I.lstUpd hp ho (Qig its n j u) (r.set rv j) (by rw [List.length_set];exact hz) s.toks
 by_cases h0:0<=k
 ·have hk:k.toNat=j:=by
   rw [seqIndex_of h0 h4] at h1
   exact Option.some.inj h1
  exact PySem.W.ki_setAt ho h0 (by omega) (by rw [List.size_toArray,← hl];exact h4) (by rw [hk];exact ⟨_,I',q⟩)
 ·have hk:(k+(its.toArray.size:Int)).toNat=j:=by
   rw [seqIndex_neg (by omega) h3] at h1
   rw [List.size_toArray,← hl]
   exact Option.some.inj h1
  exact PySem.W.ki_setBack ho (by omega) (by rw [List.size_toArray,← hl];exact h3) (by omega) (by rw [hk];exact ⟨_,I',q⟩)
theorem Qea (lo hi:Option Int) (n:Nat):(sliceBounds lo hi none n).1=((HT.sIx n 0 lo:Nat):Int)/\(sliceBounds lo hi none n).2.1=((HT.sIx n n hi:Nat):Int)/\(sliceBounds lo hi none n).2.2=1:=by
 refine ⟨?_,?_,rfl⟩
 ·cases lo with
  | none=>simp [sliceBounds,HT.sIx]
  | some i =>
   simp only [sliceBounds,HT.sIx,Option.getD_none,show (1:Int) > 0 by decide,if_true]
   by_cases h:i<0
   ·simp only [h,if_true] <;> omega
   ·simp only [h,if_false] <;> omega
 ·cases hi with
  | none=>simp [sliceBounds,HT.sIx]
  | some i =>
   simp only [sliceBounds,HT.sIx,Option.getD_none,show (1:Int) > 0 by decide,if_true]
   by_cases h:i<0
   ·simp only [h,if_true] <;> omega
   ·simp only [h,if_false] <;> omega
theorem Qc4 (its:List Value) (lo hi:Option Int):slicePick its.toArray lo hi none=((its.drop (HT.sIx its.length 0 lo)).take (HT.sIx its.length its.length hi-HT.sIx its.length 0 lo)).toArray:=by
 obtain ⟨h1,h2,h3⟩:=Qea lo hi its.toArray.size
 unfold slicePick
 rw [h1,h2,h3]
 simp only [sliceRange_one,pick_run,List.size_toArray] <;> rfl
def rSlL (K:Frag):V->Option Int->Option Int->Hp->VK->Prop:=λx lo hi H Q=>∃a xs,x=.ref a/\SqL K H a xs/\∀p,H p=none->Q (.ref p) (upd H p (.lst (cutV xs lo hi)))
theorem Qqt:SlR X (rSlL X.K):=by
 intro pins s σ H x v vl vu lo hi sl Q I rx hs pl pu h
 obtain ⟨a,xs,rfl,hx,q⟩:=h
 cases rx
 obtain ⟨its,r,ht,hz⟩:=I.list hx
 have hlen:=r.length
 refine ⟨"list",_,slot_list_getitem.lookup,ht.isList.typeIs,?_⟩
 refine wpAny_getItem_list_slice ht.isList hs pl pu .none (by simp) ?_ (by rw [List.size_toArray] <;> omega)
 rw [Qc4,← hlen]
 refine ⟨.ref s.heap.objs.size,_,I.laid (t':=s.toks) (o:=.lst (cutV xs lo hi)) (λb ob q=>Heap.get?_push_of_some _ q) (Nat.le_refl _) ?_,rfl,q _ (I.hok.fresh (Nat.le_refl _))⟩
 exact ⟨Nat.le_trans (Qbk xs lo hi) hz,_,0,(r.drop (HT.sIx xs.length 0 lo)).take (HT.sIx xs.length xs.length hi-HT.sIx xs.length 0 lo),Heap.get?_push_size _ rfl⟩
def Qb3:V->Bool
 | .non=>true
 | .bl _=>true
 | .int _=>true
 | .str _=>true
 | _=>false
def eqV:V->V->Bool
 | .non,.non=>true
 | .bl a,.bl b=>a == b
 | .bl a,.int b=>(if a then 1 else 0) == b
 | .int a,.bl b=>a == (if b then 1 else 0)
 | .int a,.int b=>a == b
 | .str a,.str b=>a == b
 | _,_=>false
theorem Qyq {x:V} {v:Value} (ry:RelV y u) (rx:RelV x v) (fy:Qb3 y=true) (fx:Qb3 x=true):SeqAt.EqAt A s u v (eqV y x):=by
 cases y with
 | non =>
  cases ry
  cases x with
  | non=>cases rx;exact SeqAt.EqAt.same _
  | bl b=>cases rx;exact SeqAt.EqAt.none_bool b
  | int b=>obtain ⟨t,rfl⟩:=rx;exact SeqAt.EqAt.none_int b t
  | str b=>obtain ⟨t,rfl⟩:=rx;exact SeqAt.EqAt.none_str b t
  | _=>exact absurd (show false=true from fx) Bool.false_ne_true
 | bl a =>
  cases ry
  cases x with
  | non=>cases rx;exact SeqAt.EqAt.bool_none a
  | bl b=>cases rx;exact SeqAt.EqAt.bool_bool a b
  | int b=>obtain ⟨t,rfl⟩:=rx;exact SeqAt.EqAt.bool_int a b t
  | str b=>obtain ⟨t,rfl⟩:=rx;exact SeqAt.EqAt.bool_str a b t
  | _=>exact absurd (show false=true from fx) Bool.false_ne_true
 | int a =>
  obtain ⟨t',rfl⟩:=ry
  cases x with
  | non=>cases rx;exact SeqAt.EqAt.int_none a t'
  | bl b=>cases rx;exact SeqAt.EqAt.int_bool a t' b
  | int b=>obtain ⟨t,rfl⟩:=rx;exact SeqAt.EqAt.int_int a t' b t
  | str b=>obtain ⟨t,rfl⟩:=rx;exact SeqAt.EqAt.int_str a t' b t
  | _=>exact absurd (show false=true from fx) Bool.false_ne_true
 | str a =>
  obtain ⟨t',rfl⟩:=ry
  cases x with
  | non=>cases rx;exact SeqAt.EqAt.str_none a t'
  | bl b=>cases rx;exact SeqAt.EqAt.str_bool a t' b
  | int b=>obtain ⟨t,rfl⟩:=rx;exact SeqAt.EqAt.str_int a t' b t
  | str b=>obtain ⟨t,rfl⟩:=rx;exact SeqAt.EqAt.str_str a t' b t
  | _=>exact absurd (show false=true from fx) Bool.false_ne_true
 | _=>exact absurd (show false=true from fy) Bool.false_ne_true
def eqU (x:V) (u:Value):Bool:=match u with
 | .none=>eqV .non x
 | .bool b=>eqV (.bl b) x
 | .int i _=>eqV (.int i) x
 | .str z _=>eqV (.str z) x
 | _=>false
theorem Qp2 {x:V} (r:RelV y u) (f:Qb3 y=true):eqU x u=eqV y x:=by
 cases y with
 | non=>cases r;rfl
 | bl b=>cases r;rfl
 | int i=>obtain ⟨t,rfl⟩:=r;rfl
 | str z=>obtain ⟨t,rfl⟩:=r;rfl
 | _=>exact absurd (show false=true from f) Bool.false_ne_true
theorem Qbr {x:V}:∀{xs:List V} {us:List Value},Vals xs us->xs.all Qb3=true->us.any (eqU x)=xs.any λy=>eqV y x
 | _,_,.nil,_=>rfl
 | y::xs,u::us,.cons r t,f=>by
  rw [List.all_cons,Bool.and_eq_true] at f
  rw [List.any_cons,List.any_cons,Qp2 r f.1,Qbr t f.2]
theorem Gk {A:Around} {s:Shared} {x:V} {v:Value} (rx:RelV x v) (fx:Qb3 x=true):∀{xs:List V} {us:List Value},Vals xs us->xs.all Qb3=true->∀u∈us,SeqAt.EqAt A s u v (eqU x u)
 | _,_,.nil,_=>λu hu=>by cases hu
 | y::xs,u::us,.cons r t,f=>λu' hu=>by
  rw [List.all_cons,Bool.and_eq_true] at f
  rcases List.mem_cons.mp hu with rfl | hu
  ·rw [Qp2 r f.1];exact Qyq r rx f.1 fx
  ·exact Gk rx fx t f.2 u' hu
def inV (x:V) (xs:List V):Bool:=xs.any λy=>eqV y x
def rIn (K:Frag) (neg:Bool):R2:=λx y H Q=>∃p xs,y=.ref p/\(SqL K H p xs\/SqT K H p xs)/\Qb3 x=true/\xs.all Qb3=true/\Q (.bl (if neg then !inV x xs else inV x xs)) H
theorem Qj9:OpR X (compareOp .In) (rIn X.K false):=by
 intro pins s σ H x y v u Q I rx ry h
 obtain ⟨p,xs,rfl,hq,fx,fs,q⟩:=h
 cases ry
 rcases hq with hq | hq
 ·obtain ⟨its,r,pl,hz⟩:=I.list hq
  refine SeqAt.in_listAt (eqU x) pl.isList (λw hw=>Gk rx fx r fs w (by simpa using hw)) ⟨.bl _,H,I,rfl,?_⟩
  rw [show its.toArray.any (eqU x)=its.any (eqU x) by simp,Qbr r fs]
  exact q
 ·obtain ⟨its,r,pl,hz⟩:=I.tuple hq
  refine SeqAt.in_tupleAt (eqU x) pl (λw hw=>Gk rx fx r fs w (by simpa using hw)) ⟨.bl _,H,I,rfl,?_⟩
  rw [show its.toArray.any (eqU x)=its.any (eqU x) by simp,Qbr r fs]
  exact q
theorem Qep:OpR X (compareOp .NotIn) (rIn X.K true):=by
 intro pins s σ H x y v u Q I rx ry h
 obtain ⟨p,xs,rfl,hq,fx,fs,q⟩:=h
 cases ry
 rcases hq with hq | hq
 ·obtain ⟨its,r,pl,hz⟩:=I.list hq
  refine SeqAt.notIn_listAt (eqU x) pl.isList (λw hw=>Gk rx fx r fs w (by simpa using hw)) ⟨.bl _,H,I,rfl,?_⟩
  rw [show its.toArray.any (eqU x)=its.any (eqU x) by simp,Qbr r fs]
  exact q
 ·obtain ⟨its,r,pl,hz⟩:=I.tuple hq
  refine SeqAt.notIn_tupleAt (eqU x) pl (λw hw=>Gk rx fx r fs w (by simpa using hw)) ⟨.bl _,H,I,rfl,?_⟩
  rw [show its.toArray.any (eqU x)=its.any (eqU x) by simp,Qbr r fs]
  exact q
theorem Qeo:OpR X (compareOp .NotIn) (λx y H Q=>∃i j,x=.str i/\y=.str j/\Q (.bl (!(!(Builtin.Str.occurrences j i 0 j.length 1).isEmpty))) H):=by
 intro pins s σ H x y v u Q I rx ry h
 obtain ⟨i,j,rfl,rfl,q⟩:=h
 obtain ⟨t,rfl⟩:=rx
 obtain ⟨t',rfl⟩:=ry
 exact notIn_str ⟨.bl _,H,I,rfl,q⟩
theorem Vf.or {f:Value} {r r':List V->Hp->VK->Prop} (h:Vf X f r) (h':Vf X f r'):Vf X f (λxs H Q=>r xs H Q\/r' xs H Q):=by
 intro pins s σ H xs us Q I rs q
 rcases q with q | q
 ·exact h pins s σ H xs us Q I rs q
 ·exact h' pins s σ H xs us Q I rs q
theorem Qdt:Vf X (.type "tuple") (λxs H Q=>∃p ys,xs=[.ref p]/\((SqL X.K H p ys/\∀l,H l=none->Q (.ref l) (upd H l (.tup ys)))\/(SqT X.K H p ys/\Q (.ref p) H))):=by
 intro pins s σ H xs us Q I r h
 obtain ⟨p,ys,rfl,h⟩:=h
 obtain ⟨u,rfl,rx⟩:=Qbw r
 cases rx
 rcases h with ⟨hq,q⟩ | ⟨hq,q⟩
 ·obtain ⟨its,r',pl,hz⟩:=I.list hq
  have hlen:=r'.length
  refine call_tuple_list pl.isList (λh' kp=>?_) (by simp only [List.size_toArray] <;> omega)
  have I1:Inv X pins σ H { s with heap:=h' }:=I.kept (t':=s.toks) kp
  have I2:Inv X pins σ (upd H h'.objs.size (.tup ys)) { s with heap:=h'.push { cls:=.type "tuple",data:=.seq its.toArray } } :=
   I1.laid (t':=s.toks) (λb o e=>Heap.get?_push_of_some _ e) (Nat.le_refl _) (show Ye X.prog X.w _ _ _ (.tup ys) from ⟨hz,its,r',IsTup.new _ _⟩)
  exact ⟨.ref h'.objs.size,_,I2,rfl,q _ (I1.hok.fresh (Nat.le_refl _))⟩
 ·obtain ⟨its,r',pl,hz⟩:=I.tuple hq
  exact call_tuple_same pl ⟨.ref p,H,I,rfl,q⟩
def tyV (K:Frag) (T:String) (x:V) (H:Hp):Prop:=match x with
 | .str _=>T = "str"
 | .int _=>T = "int"
 | .ref p=>(T = "list" /\ ∃xs,SqL K H p xs)\/(T = "tuple" /\ ∃o,K.lookup p=some o/\o.cls=.type "tuple" /\ o.dict=none) \/
   (T = "dict" /\ ((∃kvs,H p=some (.dK kvs))\/∃kvs,H p=some (.dT kvs)))\/(T = "set" /\ ∃S n,H p=some (.set S n))\/∃φ,H p=some (.ext φ)/\∀h,φ h->∃o,h.get? p=some o/\o.cls=.type T/\o.dict=none
 | _=>False
theorem Qup {x:V} {v:Value} (I:Inv X pins σ H s) (r:RelV x v) (ty:tyV X.K T x H) :
  s.TypeIs v T/\∀a,v=.ref a->∃ob,s.heap.get? a=some ob/\ob.dict=none:=by
 cases x with
 | str z =>
  obtain ⟨t,rfl⟩:=r
  cases (show T = "str" from ty)
  exact ⟨typeIs_str s z t,λ_ e=>nomatch e⟩
 | int i =>
  obtain ⟨t,rfl⟩:=r
  cases (show T = "int" from ty)
  exact ⟨typeIs_int s i t,λ_ e=>nomatch e⟩
 | ref p =>
  cases r
  rcases ty with ⟨rfl,xs,hq⟩ | ⟨rfl,o,hk,hc,hd⟩ | ⟨rfl,hk⟩ | ⟨rfl,S,n,hk⟩ | ⟨φ,hk,hf⟩
  ·obtain ⟨its,_,pl,_⟩:=I.list hq
   refine ⟨pl.isList.typeIs,λa e=>?_⟩
   cases e
   obtain ⟨o,n,e,c,hd,_⟩:=pl
   exact ⟨o,e,hd⟩
  ·refine ⟨⟨o,I.kIn p o hk,hc⟩,λa e=>?_⟩
   cases e
   exact ⟨o,I.kIn _ o hk,hd⟩
  ·have z:∃o,s.heap.get? p=some o/\o.ExactDict:=by
    rcases hk with ⟨kvs,hk⟩ | ⟨kvs,hk⟩
    ·obtain ⟨_,_,_,_,o,_,_,e,ex,_⟩:=I.hok p _ hk
     exact ⟨o,e,ex⟩
    ·obtain ⟨_,_,_,_,o,_,_,e,ex,_⟩:=I.hok p _ hk
     exact ⟨o,e,ex⟩
   obtain ⟨o,e,ex⟩:=z
   refine ⟨⟨o,e,ex.1⟩,λa e2=>?_⟩
   cases e2
   exact ⟨o,e,ex.2.1⟩
  ·obtain ⟨o,_,_,_,e,ex,_⟩:=I.hok p _ hk
   refine ⟨⟨o,e,ex.1⟩,λa e2=>?_⟩
   cases e2
   exact ⟨o,e,ex.2.1⟩
  ·obtain ⟨h1,_⟩:=I.hok p _ hk
   obtain ⟨o,e,c,d⟩:=hf _ h1
   refine ⟨⟨o,e,c⟩,λa e2=>?_⟩
   cases e2
   exact ⟨o,e,d⟩
 | _=>exact False.elim ty
def tBM (K:Frag) (T:String) (r:V->List V->Hp->VK->Prop) (to:TE) (t:TA):TE:=λσ H Q=>to σ H λx H1=>tyV K T x H1/\t σ H1 λxs H2=>r x xs H2 Q
end
section
variable {o:Expr} {t:TA} {id:String}
theorem Qw4 (pa:PlainAttrs T) (slot:Slot T name id) (hty:typeOf (.builtin id)=pure (.type "method_descriptor")) (hm:MtR X id r) (ho:PE X o to) (ha:PA X (e::es) t)
  (hbase:attributeBase o name X.env (eval o X.env)=eval o X.env:=by rfl)
  (hfew:((backTo cpos (starEach (e::es) X.env)).all (λx=>!x.1) && (backToKw cpos (keywordEach [] X.env)).all (λx=>x.1.isSome)
   && decide ((e::es).length+([]:List Keyword).length+(if ([]:List Keyword).isEmpty then 0 else 1)<30))=true:=by rfl)
  (hline:(apos.endLine == cpos.line)=true:=by rfl) (hs:starEach (e::es) X.env=(false,eval e X.env)::starEach es X.env:=by rfl) (hplain:(backTo cpos (starEach es X.env)).any (·.1)=false:=by rfl) :
  PE X (.Call (.Attribute o name apos) (e::es) [] cpos) (tBM X.K T r to t):=by
 intro pins s σ H Q I h
 refine wpAny_Call_method_late hbase hfew hline rfl (thn (ho pins s σ H _ I h) λv s1 ⟨x,H1,I1,r1,ty,q1⟩=>?_)
 obtain ⟨h1,h2⟩:=Qup I1 r1 ty
 refine ⟨T,id,pa,slot,hty,h1,h2,?_⟩
 have hA:=ha cpos pins s1 σ H1 _ I1 q1
 rw [hs] at hA ⊢
 refine Calls.callWith_builtin (by show (false || (backTo cpos (starEach es X.env)).any (·.1))=false;rw [hplain] <;> rfl) (Calls.evalArgs_plain ?_)
 exact thn hA λus s2 ⟨vs,H2,I2,r2,q2⟩=>hm pins s2 σ H2 x vs v us Q I2 r1 r2 q2
end
def MtM (X:Cx) (id:String) (r:V->List V->Hp->VK->Prop):Prop :=
 ∀(pins:List (Addr × Obj)) (s:Shared) (σ:St) (H:Hp) (x:V) (xs:List V) (v:Value) (us:List Value) (Q:VK),Inv X pins σ H s->RelV x v->Vals xs us->r x xs H Q ->
  wpAny (model X.prog X.w) X.A (call (.builtin id) (v::us)) (EP X pins σ Q) X.xe s
theorem Vals.one:∀{x:V} {us:List Value},Vals [x] us->∃u,us=[u]/\RelV x u
 | _,_,.cons r .nil=>⟨_,rfl,r⟩
theorem Vals.rep {xs:List V} {us:List Value} (h:Vals xs us):∀k:Nat,Vals (List.replicate k xs).flatten (List.replicate k us).flatten
 | 0=>.nil
 | k+1=>by
  rw [List.replicate_succ,List.replicate_succ,List.flatten_cons,List.flatten_cons]
  exact Vals.append h (Vals.rep h k)
theorem Qe1 (its:List Value):∀(k:Nat) (acc:List Value),
  List.foldl (λx1 x2=>x1++x2) acc.toArray (List.replicate k its.toArray)=(acc++(List.replicate k its).flatten).toArray
 | 0,acc=>by simp
 | k+1,acc=>by
  have e:acc.toArray++its.toArray=(acc++its).toArray:=by simp
  have e2:(acc++its)++(List.replicate k its).flatten=acc++(List.replicate (k+1) its).flatten:=by
   rw [List.replicate_succ,List.flatten_cons,List.append_assoc]
  rw [← e2,← Qe1 its k (acc++its),← e,List.replicate_succ,List.foldl_cons]
section
variable {l:Addr} {xs:List V}
theorem Inv.lset {its':List Value} {f:Array Value->Array Value} (I:Inv X pins σ H s) (hH:H l=some (.lst xs))
  (e:s.heap.get? l=some { cls:=.type "list",data:=.seq its.toArray n }) (hf:f its.toArray=its'.toArray) (hv:Vals ys its') (hz:ys.length<=sizeLine) :
  Inv X pins σ (upd H l (.lst ys)) { s with heap:=s.heap.update l (Obj.mapSeq f),toks:=t' }:=by
 have q:=PySem.IsL.update e f
 rw [hf] at q
 refine I.write (x:=l) (e:=l) (by rw [hH];exact trivial) (.inl rfl) (λb' u hb hu=>(Heap.get?_update_other s.heap (Obj.mapSeq f) (Ne.symm hb)).trans hu) ⟨_,q⟩ ?_
 exact ⟨hz,its',_,hv,q⟩
theorem Inv.lnew (I:Inv X pins σ H s) (hv:Vals ys its) (hz:ys.length<=sizeLine) :
  Inv X pins σ (upd H s.heap.objs.size (.lst ys)) { s with heap:=s.heap.push { cls:=.type "list",data:=.seq its.toArray },toks:=t' } :=
 I.laid (λ_ _ q=>Heap.get?_push_of_some _ q) (Nat.le_refl _) ⟨hz,its,0,hv,Heap.get?_push_size _ rfl⟩
theorem Inv.fresh (I:Inv X pins σ H s):H s.heap.objs.size=none:=I.hok.fresh (Nat.le_refl _)
theorem Inv.lstM (I:Inv X pins σ H s) (hH:H l=some (.lst xs)):xs.length<=sizeLine/\∃(its:List Value) (n:Nat),Vals xs its/\xs.length=its.length/\s.heap.get? l=some { cls:=.type "list",data:=.seq its.toArray n }:=by
 obtain ⟨z,its,n,r,e⟩:=I.hok l _ hH
 exact ⟨z,its,n,r,r.length,e⟩
theorem Qhg (h:n<=sizeLine):Builtin.List.listTooLong n=false:=by
 unfold Builtin.List.listTooLong
 exact decide_eq_false (by omega)
end
def Qrm:V->List V->Hp->VK->Prop:=λx vs H Q=>∃l xs y,x=.ref l/\vs=[y]/\H l=some (.lst xs)/\xs.length<sizeLine/\Q .non (upd H l (.lst (xs++[y])))
theorem Qkk:MtM X "list.append" Qrm:=by
 intro pins s σ H x vs v us Q I rx rv h
 obtain ⟨l,xs,y,rfl,rfl,hH,hz,q⟩:=h
 cases rx
 obtain ⟨u,rfl,ru⟩:=rv.one
 obtain ⟨z,its,n,r,hl,e⟩:=I.lstM hH
 refine call_meets F.slot_list_append ⟨_,e,rfl⟩ F.entry_list_append (F.args_list_append_2 _ _) (PySem.list_append l its.toArray n u (by rw [List.size_toArray];omega)) ⟨e,?_⟩
 refine ⟨.non,_,I.lset (its':=its++[u]) hH e (by simp) (r.append (.cons ru .nil)) ?_,rfl,q⟩
 rw [List.length_append,List.length_singleton]
 omega
def Qrl:V->List V->Hp->VK->Prop:=λx vs H Q=>∃l b xs zs,x=.ref l/\vs=[.ref b]/\H l=some (.lst xs)/\H b=some (.lst zs)/\xs.length+zs.length<=sizeLine/\Q .non (upd H l (.lst (xs++zs)))
theorem Qkj:MtM X "list.extend" Qrl:=by
 intro pins s σ H x vs v us Q I rx rv h
 obtain ⟨l,b,xs,zs,rfl,rfl,hH,hB,hz,q⟩:=h
 cases rx
 obtain ⟨u,rfl,ru⟩:=rv.one
 cases ru
 obtain ⟨z,its,n,r,hl,e⟩:=I.lstM hH
 obtain ⟨z2,its2,n2,r2,hl2,e2⟩:=I.lstM hB
 have hsz:its.toArray.size+its2.toArray.size<=sizeLine:=by rw [List.size_toArray,List.size_toArray];omega
 have hlong:¬(!its.toArray.isEmpty && Builtin.List.listTooLong (its.toArray.size+its2.toArray.size))=true:=by
  rw [Qhg hsz,Bool.and_false]
  exact Bool.false_ne_true
 refine call_meets F.slot_list_extend ⟨_,e,rfl⟩ F.entry_list_extend (F.args_list_extend_2 _ _)
  (AutoSeq1.list_extend_list_list_0 l its.toArray n b its2.toArray n2 hlong (by rw [List.size_toArray];omega) (by omega)) ⟨e,e2,?_⟩
 refine ⟨.non,_,I.lset (its':=its++its2) hH e (by simp) (r.append r2) ?_,rfl,q⟩
 rw [List.length_append]
 omega
def rCat:R2:=λx y H Q=>∃l b xs zs,x=.ref l/\y=.ref b/\H l=some (.lst xs)/\H b=some (.lst zs)/\xs.length+zs.length<=sizeLine/\∀p,H p=none->Q (.ref p) (upd H p (.lst (xs++zs)))
theorem Qxe:OpR X (binaryOp .Add) rCat:=by
 intro pins s σ H x y v u Q I rx ry h
 obtain ⟨l,b,xs,zs,rfl,rfl,hH,hB,hz,q⟩:=h
 cases rx
 cases ry
 obtain ⟨z,its,n,r,hl,e⟩:=I.lstM hH
 obtain ⟨z2,its2,n2,r2,hl2,e2⟩:=I.lstM hB
 refine PySem.P.add_list e e2 ?_ (by rw [List.size_toArray,List.size_toArray];omega)
 have ea:its.toArray++its2.toArray=(its++its2).toArray:=by simp
 rw [ea]
 exact ⟨.ref _,_,I.lnew (t':=s.toks) (r.append r2) (by rw [List.length_append];omega),rfl,q _ I.fresh⟩
def rRep:R2:=λx y H Q=>∃l k xs,x=.ref l/\y=.int k/\H l=some (.lst xs) /\ -(2 ^ 63)<=k/\k<2 ^ 63/\xs.length*k.toNat<=sizeLine /\
 ∀p,H p=none->Q (.ref p) (upd H p (.lst (List.replicate k.toNat xs).flatten))
theorem Qsw {α:Type} (xs:List α) (k:Nat):(List.replicate k xs).flatten.length=k*xs.length:=by
 induction k with
 | zero=>simp
 | succ k ih=>rw [List.replicate_succ,List.flatten_cons,List.length_append,ih,Nat.succ_mul,Nat.add_comm]
theorem Qw7:OpR X (binaryOp .Mult) rRep:=by
 intro pins s σ H x y v u Q I rx ry h
 obtain ⟨l,k,xs,rfl,rfl,hH,h1,h2,hz,q⟩:=h
 cases rx
 obtain ⟨t,rfl⟩:=ry
 obtain ⟨z,its,n,r,hl,e⟩:=I.lstM hH
 have hlen:its.toArray.size*k.toNat<=sizeLine:=by rw [List.size_toArray,← hl];exact hz
 have hcap:¬its.toArray.size*k.toNat > (2 ^ 63-1) / 8:=by
  have:(sizeLine:Nat)<=(2 ^ 63-1) / 8:=by decide
  omega
 have hfit:¬(!Builtin.List.listFitsIndex k)=true:=by
  rw [fitsIndex_both h1 h2]
  exact Bool.false_ne_true
 have hlong:¬Builtin.List.listTooLong (its.toArray.size*k.toNat)=true:=by
  rw [Qhg hlen]
  exact Bool.false_ne_true
 have hnew:List.foldl (λx1 x2=>x1++x2) #[] (List.replicate (if its.toArray.isEmpty=true then 0 else k.toNat) its.toArray)=(List.replicate k.toNat its).flatten.toArray:=by
  have f0:∀m:Nat,List.foldl (λx1 x2=>x1++x2) #[] (List.replicate m its.toArray)=(List.replicate m its).flatten.toArray:=λm=>by
   have:=Qe1 its m []
   rw [List.nil_append] at this
   exact this
  rw [f0]
  cases its with
  | nil=>simp
  | cons a r'=>rw [if_neg (by simp)]
 refine wpAny_binaryOp_repeat_ref (T:="list") (U:="int") (by decide) ⟨_,e,rfl⟩ (λs'=>typeIs_int s' k t) noFill_list_mul F.fills_int_mul F.slot_int_rmul repeat_list F.slot_int_index.lookup
  (call_meets F.slot_int_rmul (typeIs_int s k t) F.entry_int_rmul (F.args_int_rmul_2 _ _) (int___rmul___int_list k t l its.toArray n)
   ⟨e,rfl,⟨_,e,rfl⟩,call_meets F.slot_list_mul ⟨_,e,rfl⟩ F.entry_list_mul (F.args_list_mul_2 _ _) (AutoListH.list___mul___list_int_3 l its.toArray n k t hfit hcap hlong) ⟨e,?_⟩⟩)
 rw [hnew]
 exact ⟨.ref _,_,I.lnew (t':=s.toks) (r.rep k.toNat) (by rw [Qsw,Nat.mul_comm];exact hz),rfl,q _ I.fresh⟩
section
variable {κ:Type} [DecidableEq κ]
def valV (kvs:List (κ × V)) (k:κ):Option V:=(kvs.find? λkv=>decide (kv.1=k)).map (·.2)
def putK (kvs:List (κ × V)) (k:κ) (v:V):List (κ × V) :=
 if (kvs.any λkv=>decide (kv.1=k))=true then kvs.map (λkv=>if kv.1=k then (kv.1,v) else kv) else kvs++[(k,v)]
theorem U0 {p:κ × V} {r:List (κ × V)} {k:κ} (e:p.1=k):valV (p::r) k=some p.2:=by simp [valV,List.find?_cons,e]
theorem U1 {p:κ × V} {r:List (κ × V)} {k:κ} (e:¬p.1=k):valV (p::r) k=valV r k:=by simp [valV,List.find?_cons,e]
theorem Qg3 (k:κ):∀kvs:List (κ × V),(kvs.any λkv=>decide (kv.1=k))=(valV kvs k).isSome
 | []=>rfl
 | p::r=>by
  rw [List.any_cons]
  by_cases e:p.1=k
  ·simp only [U0 e,decide_eq_true e,Bool.true_or,Option.isSome_some]
  ·rw [U1 e,decide_eq_false e,Bool.false_or];exact Qg3 k r
theorem Qba (kvs:List (κ × V)) (k:κ) (v:V):(putK kvs k v).length<=kvs.length+1:=by
 unfold putK
 split
 ·rw [List.length_map];omega
 ·rw [List.length_append,List.length_cons,List.length_nil];omega
theorem RelO.isSome_eq {u:Option Value} (r:RelO o u):o.isSome=u.isSome:=by
 cases o with
 | none=>cases u with
  | none=>rfl
  | some _=>exact (show False from r).elim
 | some _=>cases u with
  | none=>exact (show False from r).elim
  | some _=>rfl
theorem KV.val {kvs:List (κ × V)} {vs:List (κ × Value)} (r:KV kvs vs) (k:κ):RelO (valV kvs k) (valueAt vs k):=by
 unfold KV at r
 induction r with
 | nil=>exact True.intro
 | @cons p q ps qs h t ih =>
  obtain ⟨h1,h2⟩:=h
  by_cases e:p.1=k
  ·have e':q.1=k:=h1.symm.trans e
   have b:valueAt (q::qs) k=some q.2:=by simp [valueAt,List.find?_cons,e']
   rw [U0 e,b];exact h2
  ·have e':¬q.1=k:=λz=>e (h1.trans z)
   have b:valueAt (q::qs) k=valueAt qs k:=by simp [valueAt,List.find?_cons,e']
   rw [U1 e,b];exact ih
theorem KV.any {kvs:List (κ × V)} {vs:List (κ × Value)} (r:KV kvs vs) (k:κ):(kvs.any λkv=>decide (kv.1=k))=vs.any λkv=>decide (kv.1=k):=by
 unfold KV at r
 induction r with
 | nil=>rfl
 | cons h t ih=>rw [List.any_cons,List.any_cons,ih,h.1]
theorem KV.repl {kvs:List (κ × V)} {vs:List (κ × Value)} (r:KV kvs vs) (k:κ) (ry:RelV y u) :
  KV (kvs.map λkv=>if kv.1=k then (kv.1,y) else kv) (vs.map λkv=>if kv.1=k then (kv.1,u) else kv):=by
 unfold KV at r ⊢
 induction r with
 | nil=>exact .nil
 | @cons p q ps qs h t ih =>
  rw [List.map_cons,List.map_cons]
  refine .cons ?_ ih
  obtain ⟨h1,h2⟩:=h
  by_cases e:p.1=k
  ·rw [if_pos e,if_pos (h1.symm.trans e)];exact ⟨h1,ry⟩
  ·rw [if_neg e,if_neg (λz=>e (h1.trans z))];exact ⟨h1,h2⟩
theorem KV.put {kvs:List (κ × V)} {vs:List (κ × Value)} (r:KV kvs vs) (k:κ) (ry:RelV y u):KV (putK kvs k y) (stored vs k u):=by
 unfold putK stored
 rw [r.any k]
 by_cases e:(vs.any λkv=>decide (kv.1=k))=true
 ·rw [if_pos e,if_pos e];exact r.repl k ry
 ·rw [if_neg e,if_neg e];exact Paired.snoc r ⟨rfl,ry⟩
theorem KV.length {kvs:List (κ × V)} {vs:List (κ × Value)} (r:KV kvs vs):kvs.length=vs.length:=Paired.length r
end
theorem Qkv {k:Key} (r:RelV (kV k) u):(Yz P w).is k u=true:=by
 cases k with
 | inl i=>obtain ⟨t,e⟩:=(show ∃t,u=Value.int i t from r);subst e;exact Qgd P w i t
 | inr x=>obtain ⟨t,e⟩:=(show ∃t,u=Value.str x t from r);subst e;exact Qgc P w x t
theorem Qez {P:Program} {w:World}:∀{ks:List Key} {us:List Value},Vals (ks.map kV) us->ItemsAre (Yz P w) ks us
 | [],_,r=>by rw [List.map_nil] at r;cases r;exact .nil
 | k::ks,_,r=>by
  rw [List.map_cons] at r
  cases r with
  | cons h t=>exact .cons (Qkv h) (Qez t)
abbrev KT (H:Hp):List (List Key × V)->List (List Key × Addr × Value)->Prop:=Paired λp q=>p.1=q.1/\H q.2.1=some (.tup (p.1.map kV))/\RelV p.2 q.2.2
theorem KT.val (r:KT H kvs xs) (k:List Key):RelO (valV kvs k) ((atKey xs k).map (·.2)):=by
 induction r with
 | nil=>exact True.intro
 | @cons p q ps qs h t ih =>
  obtain ⟨h1,_,h2⟩:=h
  by_cases e:p.1=k
  ·have e':q.1=k:=h1.symm.trans e
   have b:atKey (q::qs) k=some q.2:=by simp [atKey,List.find?_cons,e']
   rw [U0 e,b];exact h2
  ·have e':¬q.1=k:=λz=>e (h1.trans z)
   have b:atKey (q::qs) k=atKey qs k:=by simp [atKey,List.find?_cons,e']
   rw [U1 e,b];exact ih
theorem KT.repl (r:KT H kvs xs) (k:List Key) (ry:RelV y u) :
  KT H (kvs.map λkv=>if kv.1=k then (kv.1,y) else kv) (xs.map (putAt k u)):=by
 induction r with
 | nil=>exact .nil
 | @cons p q ps qs h t ih =>
  rw [List.map_cons,List.map_cons]
  refine .cons ?_ ih
  obtain ⟨h1,h2,h3⟩:=h
  unfold putAt
  by_cases e:p.1=k
  ·rw [if_pos e,if_pos (h1.symm.trans e)];exact ⟨h1,h2,ry⟩
  ·rw [if_neg e,if_neg (λz=>e (h1.trans z))];exact ⟨h1,h2,h3⟩
theorem KT.put (r:KT H kvs xs) (k:List Key) (hb:H b=some (.tup (k.map kV))) (ry:RelV y u) :
  KT H (putK kvs k y) (storedH xs k b u):=by
 have e:(kvs.any λkv=>decide (kv.1=k))=(atKey xs k).isSome:=by
  rw [Qg3,(r.val k).isSome_eq,Option.isSome_map]
 unfold putK storedH
 rw [e]
 by_cases q:(atKey xs k).isSome=true
 ·rw [if_pos q,if_pos q];exact r.repl k ry
 ·rw [if_neg q,if_neg q];exact Paired.snoc r ⟨rfl,hb,ry⟩
theorem KT.keeps (r:KT H kvs xs) (ht:∀b ys,H b=some (.tup ys)->H' b=some (.tup ys)):KT H' kvs xs :=
 Paired.mapP r λ_ _ z=>⟨z.1,ht _ _ z.2.1,z.2.2⟩
theorem Qu7 {u:HO} (ok:HOk P w H h) (e:Rd H a u):Ye P w H h a u:=e.ok ok
theorem Qiq {kvs:List (Key × V)} (ok:HOk P w H h) (e:Rd H a (.dK kvs)):kvs.length<=sizeLine/\(a == sysModules)=false/\∃vs,KV kvs vs/\h.DictOf (Yz P w) a vs :=
 show Ye P w H h a (.dK kvs) from Qu7 ok e
theorem Q1y {kvs:List (Key × V)} (ok:HOk P w H h) (e:H a=some (.dK kvs)):kvs.length<=sizeLine/\(a == sysModules)=false/\∃vs,KV kvs vs/\h.DictOf (Yz P w) a vs:=Qiq ok (.inl e)
theorem Qey {ks:List Key} (ok:HOk P w H h) (e:H a=some (.tup (ks.map kV))):(tupleKind (Yz P w)).is h ks a:=by
 obtain ⟨_,its,r,o,h1,h2,n,h3⟩:=(show Ye P w H h a (.tup (ks.map kV)) from ok a _ e)
 exact ⟨o,its.toArray,n,h1,h2,h3,by simpa using Qez r⟩
theorem Qlp (ok:HOk P w H h) (e:Rd H a (.dT kvs)):kvs.length<=sizeLine/\(a == sysModules)=false /\
  ∃xs,KT H kvs xs/\h.DictOfH (tupleKind (Yz P w)) a xs:=by
 obtain ⟨z,y,xs,r,o,es,ep,h1,h2,h3,h4,h5⟩:=(show Ye P w H h a (.dT kvs) from Qu7 ok e)
 refine ⟨z,y,xs,r,o,es,ep,h1,h2,h3,h4,λx hx=>?_,h5⟩
 have all:∀{l:List (List Key × V)} {m:List (List Key × Addr × Value)},KT H l m->∀x∈m,(tupleKind (Yz P w)).is h x.1 x.2.1:=by
  intro l m q
  induction q with
  | nil=>intro x hx;exact nomatch hx
  | @cons p q ps qs hq t ih =>
   intro x hx
   rcases List.mem_cons.mp hx with e | hx
   ·subst e
    exact Qey ok (by rw [← hq.1];exact hq.2.1)
   ·exact ih x hx
 exact all r x hx
theorem Q1x (ok:HOk P w H h) (e:H a=some (.dT kvs)):kvs.length<=sizeLine/\(a == sysModules)=false /\
  ∃xs,KT H kvs xs/\h.DictOfH (tupleKind (Yz P w)) a xs:=Qlp ok (.inl e)
def DGet (H:Hp) (a:Addr) (y:V) (r:Option V):Prop :=
 (∃kvs k,Rd H a (.dK kvs)/\y=kV k/\r=valV kvs k)\/∃kvs k b,Rd H a (.dT kvs)/\y=.ref b/\H b=some (.tup (k.map kV))/\r=valV kvs k
def DPut (H:Hp) (a:Addr) (y v:V) (H':Hp):Prop :=
 (∃kvs k,H a=some (.dK kvs)/\y=kV k/\kvs.length<sizeLine/\H'=upd H a (.dK (putK kvs k v))) \/
 ∃kvs k b,H a=some (.dT kvs)/\y=.ref b/\H b=some (.tup (k.map kV))/\kvs.length<sizeLine/\H'=upd H a (.dT (putK kvs k v))
theorem DGet.k {H:Hp} {a:Addr} {kvs:List (Key × V)} {k:Key} (e:H a=some (.dK kvs)):DGet H a (kV k) (valV kvs k):=.inl ⟨kvs,k,.inl e,rfl,rfl⟩
theorem DGet.t {k:List Key} (e:H a=some (.dT kvs)) (eb:H b=some (.tup (k.map kV))):DGet H a (.ref b) (valV kvs k):=.inr ⟨kvs,k,b,.inl e,rfl,eb,rfl⟩
theorem DPut.k {H:Hp} {a:Addr} {kvs:List (Key × V)} {k:Key} {v:V} (e:H a=some (.dK kvs)) (hl:kvs.length<sizeLine):DPut H a (kV k) v (upd H a (.dK (putK kvs k v))):=.inl ⟨kvs,k,e,rfl,hl,rfl⟩
theorem DPut.t {k:List Key} (e:H a=some (.dT kvs)) (eb:H b=some (.tup (k.map kV))) (hl:kvs.length<sizeLine) :
  DPut H a (.ref b) v (upd H a (.dT (putK kvs k v))):=.inr ⟨kvs,k,b,e,rfl,eb,hl,rfl⟩
section
variable {r:Value}
theorem Inv.big (I:Inv X pins σ H s):sysModules<s.heap.objs.size:=by
 have h:mainGlobals<s.heap.objs.size:=(I.mod.glob.keeps I.bk).lt
 exact Nat.lt_trans (by decide) h
theorem Qlx (hu:A.units+1<cLine) (I:Inv X pins σ H s) (g:DGet H a y (some v)) (ry:RelV y u) (h:∀w' s',Inv X pins σ H s'->RelV v w'->Q w' s') :
  wpAny (model X.prog X.w) A (getItem (.ref a) u) Q E s:=by
 rcases g with ⟨kvs,k,e,ey,l⟩ | ⟨kvs,k,b,e,ey,eb,l⟩
 ·subst ey
  obtain ⟨z,hd,vs,rel,dd⟩:=Qiq I.hok e
  obtain ⟨w',hw,rw'⟩:=RelO.some_of (v:=v) (o:=valueAt vs k) (by rw [l];exact rel.val k)
  exact wpAny_getItem_of (Qkv ry) dd.mapOf hw (h w' _ (I.tok _) rw')
 ·subst ey
  cases (show u=Value.ref b from ry)
  obtain ⟨z,hd,xs,rel,dd⟩:=Qlp I.hok e
  obtain ⟨w',hw,rw'⟩:=RelO.some_of (v:=v) (o:=(atKey xs k).map (·.2)) (by rw [l];exact rel.val k)
  obtain ⟨p,hp,hp2⟩:=Option.map_eq_some_iff.mp hw
  refine wpAny_getItem_heap (tupleKind_room_in1 hu) (Qey I.hok eb) dd hp ?_
  rw [hp2]
  exact h w' _ (I.tok _) rw'
theorem d_in (hu:A.units+1<cLine) (I:Inv X pins σ H s) (g:DGet H a y o) (ry:RelV y u) (h:∀s',Inv X pins σ H s'->Q (.bool o.isSome) s') :
  wpAny (model X.prog X.w) A (compareOp .In u (.ref a)) Q E s:=by
 rcases g with ⟨kvs,k,e,ey,l⟩ | ⟨kvs,k,b,e,ey,eb,l⟩
 ·subst ey
  obtain ⟨z,hd,vs,rel,dd⟩:=Qiq I.hok e
  refine wpAny_in_of (Qkv ry) hd dd.mapOf ?_
  rw [← (rel.val k).isSome_eq,← l]
  exact h _ (I.tok _)
 ·subst ey
  cases (show u=Value.ref b from ry)
  obtain ⟨z,hd,xs,rel,dd⟩:=Qlp I.hok e
  refine wpAny_in_heap (tupleKind_room_in1 hu) (Qey I.hok eb) hd dd ?_
  have q:=(rel.val k).isSome_eq
  rw [Option.isSome_map] at q
  rw [← q,← l]
  exact h _ (I.tok _)
theorem Qtn (hu:A.units+1<cLine) (I:Inv X pins σ H s) (g:DGet H a y o) (ry:RelV y u) (h:∀s',Inv X pins σ H s'->Q (.bool (!o.isSome)) s') :
  wpAny (model X.prog X.w) A (compareOp .NotIn u (.ref a)) Q E s:=by
 rcases g with ⟨kvs,k,e,ey,l⟩ | ⟨kvs,k,b,e,ey,eb,l⟩
 ·subst ey
  obtain ⟨z,hd,vs,rel,dd⟩:=Qiq I.hok e
  refine wpAny_notIn_of (Qkv ry) hd dd.mapOf ?_
  rw [← (rel.val k).isSome_eq,← l]
  exact h _ (I.tok _)
 ·subst ey
  cases (show u=Value.ref b from ry)
  obtain ⟨z,hd,xs,rel,dd⟩:=Qlp I.hok e
  refine wpAny_notIn_heap (tupleKind_room_in1 hu) (Qey I.hok eb) hd dd ?_
  have q:=(rel.val k).isSome_eq
  rw [Option.isSome_map] at q
  rw [← q,← l]
  exact h _ (I.tok _)
theorem Qlv (I:Inv X pins σ H s) (mu:Mut (H a)) (hs:Heap.SameBut a s.heap h') (he:∃q,h'.get? a=some q) (new:Ye X.prog X.w (upd H a ob) h' a ob) :
  Inv X pins σ (upd H a ob) { s with heap:=h',toks:=t' } :=
 I.write (x:=a) (e:=a) mu (.inl rfl) (λb q hb z=>(hs.2 b hb).trans z) he new
theorem Qyt {kvs:List (Key × V)} {vs:List (Key × Value)} (z:kvs.length<=sizeLine) (hd:(a == sysModules)=false) (rel:KV kvs vs) (dd:h'.DictOf (Yz P w) a vs) :
  Ye P w H' h' a (.dK kvs):=⟨z,hd,vs,rel,dd⟩
theorem Qlw {Q:Unit->Shared->Prop} (hu:A.units+1<cLine) (I:Inv X pins σ H s) (g:DPut H a y v H') (ry:RelV y u) (rv:RelV v r) (h:∀s',Inv X pins σ H' s'->Q () s') :
  wpAny (model X.prog X.w) A (setItem (.ref a) u r) Q E s:=by
 rcases g with ⟨kvs,k,e,ey,l,eH⟩ | ⟨kvs,k,b,e,ey,eb,l,eH⟩
 ·subst ey eH
  obtain ⟨z,hd,vs,rel,dd⟩:=Q1y I.hok e
  have hz:vs.length<=sizeLine:=by rw [← rel.length];exact z
  have hl:(putK kvs k v).length<=sizeLine:=by have:=Qba kvs k v;omega
  refine wpAny_setItem_pairs (hsz:=hz) (Qkv ry) dd λh' dd' hs=>h _ ?_
  have he:∃q,h'.get? a=some q:=let ⟨q,_,_,hq,_⟩:=dd';⟨q,hq⟩
  exact Qlv I (by rw [e];exact True.intro) hs he (Qyt hl hd (rel.put k rv) dd')
 ·subst ey eH
  cases (show u=Value.ref b from ry)
  obtain ⟨z,hd,xs,rel,dd⟩:=Q1x I.hok e
  have hz:xs.length<=sizeLine:=by rw [← Paired.length rel];exact z
  have hl:(putK kvs k v).length<=sizeLine:=by have:=Qba kvs k v;omega
  refine wpAny_setItem_heap (hsz:=hz) (tupleKind_room_in1 hu) (Qey I.hok eb) dd λh' dd' hs=>h _ ?_
  obtain ⟨q,es,ep,hq,h2,h3,h4,_,h5⟩:=dd'
  refine Qlv I (by rw [e];exact True.intro) hs ⟨q,hq⟩ ⟨hl,hd,_,(rel.put k eb rv).keeps λc ys ec=>?_,q,es,ep,hq,h2,h3,h4,h5⟩
  rw [Qk (Q1h ec e (λz=>nomatch z))]
  exact ec
end
section
variable {kvs:List (Key × V)}
theorem Q1z (I:Inv X pins σ H s) (e:Rd H a (.dK kvs)) (h:∀t s',Inv X pins σ H s'->Q (.int kvs.length t) s'):wpAny (model X.prog X.w) A (call (.builtin "len") [.ref a]) Q E s:=by
 obtain ⟨z,hd,vs,rel,dd⟩:=Qiq I.hok e
 refine call_len_dict hd dd (by rw [← rel.length];rw [sizeLine_eq] at z;omega) ?_
 rw [← rel.length]
 exact h _ _ (I.tok _)
end
theorem Qgm (I:Inv X pins σ H s) (g:DGet H a y o):s.TypeIs (.ref a) "dict":=by
 rcases g with ⟨kvs,k,e,_,_⟩ | ⟨kvs,k,b,e,_,_,_⟩
 ·obtain ⟨_,_,vs,_,dd⟩:=Qiq I.hok e
  exact dd.typeIs
 ·obtain ⟨_,_,xs,_,dd⟩:=Qlp I.hok e
  exact dd.typeIs
theorem Qog (h:Heap) (hb:sysModules<h.objs.size):Ye P w H (h.push { cls:=.type "dict",data:=.dict #[] }) h.objs.size (.dK []) :=
 ⟨Nat.zero_le _,beq_eq_false_iff_ne.mpr (Ne.symm (Nat.ne_of_lt hb)),[],.nil,Heap.DictOf.new h⟩
end L2
variable {q:PySem.Program} {loose:List PySem.Str} {XP:(PySem.Str->Option PySem.Value)->PySem.Heap->Prop} {YP:PySem.World->PySem.Heap->Prop} {d:PySem.DefRec}
namespace Att
open PySem PySem.W PySem.Calls PyProof.Rows
theorem Qbe {P:Params}:∀(ns:List Int) (vs:List Value),WellAll P h vs (ns.map WData.int)->IntsAre vs ns:=by
 intro ns
 induction ns with
 | nil =>
  intro vs w
  rw [List.map_nil] at w
  cases w
  exact .nil
 | cons n ns ih =>
  intro vs w
  rw [List.map_cons] at w
  cases w with
  | cons a b =>
   cases a
   exact .cons _ _ (ih _ b)
theorem Qjk (hn:l.most=some n) {P:Params} {args:List WData} {vals:List Value}
  (hpre:l.row.toRowW.claim.pre args=true) (hwl:WellAll P h vals args) :
  ∃a vs ns,vals=[Value.ref a]/\args=[WData.list (ns.map WData.int)]/\h.get? a=some { cls:=.type "list",data:=.seq vs.toArray }/\IntsAre vs ns/\ns.length<=n:=by
 have hsh:WShape.hasAll [] args [.list .int]=true:=(pre_splitW hpre).1
 have hc:l.pre.holds [] { args:=args }=true:=(pre_splitW hpre).2
 obtain ⟨d,r,rfl,h1,h2⟩:=hasAllW_cons hsh
 obtain rfl:=hasAllW_nil h2
 obtain ⟨xs,rfl,h3⟩:=hasW_list h1
 obtain ⟨ns,rfl⟩:=items_int h3
 have hlen:ns.length<=n:=by
  unfold OpenLaw.pre at hc
  have h4:(WTm.not (.lt (.lit (.int (n:Int))) (.len (.arg 0)))).holds [] { args:=[.list (ns.map .int)] }=true:=by
   have h4:=(holds_andW hc).1
   rw [hn] at h4
   exact h4
  have h5:=condW_of h4 (w_not (w_lt w_lit (w_len_list (w_arg rfl))))
  rw [List.length_map] at h5
  refine Nat.le_of_not_lt λq=>?_
  have q':(n:Int)<((ns.length:Nat):Int):=by omega
  first
   | (rw [decide_eq_true q'] at h5;exact absurd h5 (by decide))
   | (simp at h5;omega)
 cases hwl with
 | cons w1 w2 =>
  cases w2
  cases w1 with
  | list ho hall=>exact ⟨_,_,ns,rfl,rfl,ho,Qbe ns _ hall,hlen⟩
theorem Qj3 (l:OpenLaw) (args:List WData):l.row.toRowW.claim.post args (.bool true) args=true :=
 postW_of (r:=l.row.toRowW) (X:=(true == true))
  (show WShape.has [] (.bool true) .bool=true by first | rfl | decide | simp [WShape.has,WShape.arms,WShape.armsAll])
  (show (WTm.eq .res (.lit (.bool true))).value [] { args:=args,res:=some (.bool true),after:=args }=some (.bool (true == true)) from w_eq_bool (w_res rfl) w_lit) rfl
theorem Qgu
  (hn:l.most=some n) (hdf:d.params.defaults=[])
  (call:∀(w:World) (s₀ s₁:Shared) (mg mb:Str->Option Value) (fa:Addr) (o:Obj) (pm cd doc:Value) (a:Addr) (vs:List Value) (ns:List Int),
   Ground q loose [] XP w s₀ mg mb s₁.heap->YP w s₁.heap ->
   s₁.heap.get? fa=some o->o.data=.func (docDef d.name d.params d.body d.scope pm cd doc)->s₁.heap.CodeRec cd d.name->mg d.name=some (.ref fa) ->
   s₁.heap.get? a=some { cls:=.type "list",data:=.seq vs.toArray }->IntsAre vs ns->ns.length<=n->s₁.gens = #[] ->
   codeAny (model l.prog w) callerA (.call (.ref fa) ⟨[.ref a],[]⟩) (λr s'=>r=.ok (.ret (.bool true))/\OldK s₁.heap s'.heap/\s'.os=s₁.os/\AllBare s'.gens) s₁) :
  WalkO q loose XP YP l.row.toRowW d [] (λf vs=>PySem.call f vs):=by
 intro w s₀ s₁ mg mb G Y fa o pm cd doc dV kV ho hd hcd hD hmg hg args vals as hpre hlay hrd hwl hlo
 obtain rfl:dV=.none:=Dflts.none hD hdf
 obtain rfl:kV=.none:=Dflts.noKw hD
 obtain ⟨a,vs,ns,rfl,rfl,hobj,hints,hlen⟩:=Qjk hn hpre hwl
 refine enter_call (codeAny_mono (call w s₀ s₁ mg mb fa o pm cd doc a vs ns G Y ho (fd_plain hd) hcd hmg hobj hints hlen hg) λr s' hq=>?_)
 obtain ⟨rfl,h2,h3,h4⟩:=hq
 exact ⟨.inl ⟨.bool true,.bool true,[],rfl,λ_=>rfl,.bool true,Qj3 l _,λ_=>⟨List.Pairwise.nil,λ_ hm=>(nomatch hm)⟩⟩,h2,h3,h4⟩
end Att
variable {o:L2.HO} {k:Nat} {fa:PySem.Addr} {ns:List Int} {cl:List (PySem.Str × PySem.Addr)} {elt:PySem.Expr} {ifs:List PySem.Expr} {ts:List PySem.Str} {gt:L2.TG} {tt:L2.TT} {ix:List Nat} {J:L2.It} {tn:Nat->PySem.Heap->Prop} {RR:PySem.Value->PySem.Addr->PySem.Result->PySem.Shared->Prop} {G:List L2.V->L2.Hp->Prop} {px:PySem.Pos}
namespace L2
open PySem PySem.Spec PyProof.Rows
theorem Qd3:∀{vs:List Value} {ns:List Int},IntsAre vs ns->Vals (ns.map V.int) vs
 | _,_,.nil=>.nil
 | _,_,.cons n t h=>.cons ⟨t,rfl⟩ (Qd3 h)
def Only (H:Hp):Prop:=∀b,H b=none\/∃o xs,H b=some (.frz o (.lst xs))
theorem Qnv {mb:Str->Option Value} {s₁:Shared} {vs:List Value}
  (KX:K.In s₁.heap) (hns:s₁.heap.Ns mainGlobals mg) (hb:s₁.heap.Ns builtinsNs mb) (hbb:∀x:Str,x ≠ "__name__" -> mb x=bootBuiltins x) (hlim:s₁.heap.NoLimit) (hg:s₁.gens = #[])
  (ha:s₁.heap.get? a=some { cls:=.type "list",data:=.seq vs.toArray }) (hi:IntsAre vs ns) (hl:ns.length<=sizeLine) (hr:Room k callerA)
  (F:∀base:Heap,K.In base->base.Ns mainGlobals mg->FnOk P w K mg base CX k fa fd [x] sp) (hbind:∀(s:Shared) (u:Value),BindsTo s fd ⟨[u],[]⟩ [(x,u)])
  (hsp:∀H:Hp,Only H->SqL K H a (ns.map V.int)->sp [.ref a] H (λv _=>v=.bl true) λ_ _ _=>False)
  (hCX:∀H e s',CX [] H s₁ (λ_ _ _=>False) e s'->False) :
  codeAny (model P w) callerA (.call (.ref fa) ⟨[.ref a],[]⟩) (λr s'=>r=.ok (.ret (.bool true))/\OldK s₁.heap s'.heap/\s'.os=s₁.os/\AllBare s'.gens) s₁:=by
 have rv:=Qd3 hi
 have lenV:=hi.length
 -- from an abstract heap in which nothing but the script may be tracked
 have core:∀H:Hp,Only H->SqL K H a (ns.map V.int)->HOk P w H s₁.heap->(∀b,H b≠none->b=a)->(H a≠none->K.lookup a=none) ->
   codeAny (model P w) callerA (.call (.ref fa) ⟨[.ref a],[]⟩) (λr s'=>r=.ok (.ret (.bool true))/\OldK s₁.heap s'.heap/\s'.os=s₁.os/\AllBare s'.gens) s₁:=by
  intro H hO hS hok hA hK
  have base_of:∀{b:Addr} {o:Obj},s₁.heap.get? b=some o->H b=none->(hidT s₁.heap H).get? b=some o:=λe n=>Qn5 e n
  have noA:∀{b:Addr} {o:Obj} {es:Array DictEntry} {ep:Nat},s₁.heap.get? b=some o->o.data=.dict es ep->H b=none:=λ{b o es ep} e d=>by
   cases q:H b with
   | none=>rfl
   | some u =>
    have e':b=a:=hA b (by rw [q];simp)
    subst e'
    rw [ha] at e;cases e
    have d':Data.seq vs.toArray _=Data.dict es ep:=d
    cases d'
  have nsK:∀{b:Addr} {m:Str->Option Value},s₁.heap.Ns b m->(hidT s₁.heap H).Ns b m:=λ{b m} ⟨o,es,ep,e,d,r⟩=>⟨o,es,ep,base_of e (noA e d),d,r⟩
  have hKb:K.In (hidT s₁.heap H):=λb o e=>base_of (KX b o e) (by
   cases q:H b with
   | none=>rfl
   | some u =>
    have e':b=a:=hA b (by rw [q];simp)
    subst e'
    rw [hK (by rw [q];simp)] at e;cases e)
  have hM:Mod K mg (hidT s₁.heap H):=⟨hKb,nsK hns,⟨mb,nsK hb,hbb⟩,let ⟨mc,h1,h2⟩:=hlim;⟨mc,nsK h1,h2⟩⟩
  have e0:Env0 P w K mg (hidT s₁.heap H) callerA [] s₁ H:=⟨rfl,hM,λb o e=>Qsn e,Nat.le_of_eq (Qk4 _ _),trivial,λb hb=>absurd (show b∈([]:List Addr) from hb) (by simp),hok,.of_eq hg⟩
  refine codeAny_mono ((F _ hKb (nsK hns)).run callerA [] s₁ H ⟨[.ref a],[]⟩ [.ref a] [.ref a] _ _ hr e0 (hbind s₁ (.ref a)) (.cons rfl .nil) (hsp H hO hS)) λr s' h=>?_
  cases r with
  | error e=>exact (hCX H e s' h).elim
  | ok fl =>
   cases fl with
   | next=>exact False.elim h
   | brk=>exact False.elim h
   | cont=>exact False.elim h
   | ret u =>
    obtain ⟨v,H',os,bare,un,hok',r',q⟩:=h
    have q':v=.bl true:=q
    subst q'
    obtain rfl:u=Value.bool true:=r'
    refine ⟨rfl,OldK.of_keep λb o e=>?_,os,bare⟩
    cases q:H b with
    | none=>exact un.keep b o e q (by intro z;exact absurd (show b∈([]:List Addr) from z) (by simp)) (by simp)
    | some u =>
     rcases hO b with z | ⟨ob,xs,z⟩
     ·rw [q] at z;cases z
     ·have z2:=un.frzs b ob _ z
      obtain ⟨e1,_⟩:=hok b _ z
      obtain ⟨e2,_⟩:=hok' b _ z2
      rw [e] at e1;cases e1
      exact e2
 cases hk:K.lookup a with
 | some o =>
  -- the script is one of the module's own objects
  have e:=KX a o hk
  rw [ha] at e
  cases e
  refine core (λ_=>none) (λ_=>.inl rfl) (.inr ⟨_,vs.toArray,_,hk,rfl,rfl,rfl,by rw [List.size_toArray,lenV];exact hl,by simpa using rv⟩) (λb u z=>by have z':(none:Option HO)=some u:=z;cases z') (λb z=>absurd rfl z) λz=>absurd rfl z
 | none =>
  refine core (λb=>if b=a then some (.frz { cls:=.type "list",data:=.seq vs.toArray } (.lst (ns.map V.int))) else none) (λb=>?_) (.inl (.inr ⟨{ cls:=.type "list",data:=.seq vs.toArray },if_pos rfl⟩)) (λb u z=>?_) (λb z=>?_) λ_=>hk
  ·by_cases hb:b=a
   ·exact .inr ⟨_,_,if_pos hb⟩
   ·exact .inl (if_neg hb)
  ·by_cases hb:b=a
   ·have z':=(if_pos hb).symm.trans z
    cases z'
    subst hb
    exact ⟨ha,by rw [List.length_map];exact hl,vs,_,rv,ha⟩
   ·have z':=(if_neg hb).symm.trans z
    cases z'
  ·by_cases hb:b=a
   ·exact hb
   ·exact absurd (if_neg hb) z
theorem Qqd {K:Params->Frag} {CX:World->CXT} {sp:World->Sp}
  (hn:l.most=some n) (hn2:n<=sizeLine) (hdf:d.params.defaults=[]) (hr:Room k callerA)
  (hY:∀(w:World) (h:Heap),YP w h->(K w.params).In h)
  (F:∀(w:World) (mg:Str->Option Value) (fa:Addr) (h:Heap),(K w.params).In h->h.Ns mainGlobals mg->mg d.name=some (.ref fa) ->
   ∃fd:FuncData,(∀(s:Shared) (u:Value),BindsTo s fd ⟨[u],[]⟩ [(x,u)]) /\
    ∀base:Heap,(K w.params).In base->base.Ns mainGlobals mg->FnOk l.prog w (K w.params) mg base (CX w) k fa fd [x] (sp w))
  (hsp:∀(w:World) (H:Hp) (a:Addr) (ns:List Int),ns.length<=n->Only H->SqL (K w.params) H a (ns.map V.int)->sp w [.ref a] H (λv _=>v=.bl true) λ_ _ _=>False)
  (hCX:∀(w:World) (H:Hp) (s:Shared) (e:Value) (s':Shared),CX w [] H s (λ_ _ _=>False) e s'->False) :
  PySem.W.WalkO q loose XP YP l.row.toRowW d [] (λf vs=>PySem.call f vs):=by
 refine Att.Qgu hn hdf λw s₀ s₁ mg mb fa o pm cd doc a vs ns G Y ho hd hcd hmg hobj hints hlen hg=>?_
 have KX:=hY w _ Y
 obtain ⟨fd,hb,hF⟩:=F w mg fa _ KX G.T.g hmg
 exact Qnv KX G.T.g G.T.b G.T.builtins G.T.nolimit hg hobj hints (Nat.le_trans hlen hn2) hr hF hb (λH hO hS=>hsp w H a ns hlen hO hS) λH e s'=>hCX w H s₁ e s'
def V4 (s:Stmt):Arguments:=match s with
 | .FunctionDef _ a _ _ _ _ _ _ _ _=>a
 | _=>{ posonlyargs:=[],args:=[],vararg:=none,kwonlyargs:=[],kw_defaults:=[],kwarg:=none,defaults:=[] }
def Qw (s:Stmt):List Stmt:=match s with
 | .FunctionDef _ _ b _ _ _ _ _ _ _=>b
 | _=>[]
def Qb (s:Stmt):Scope:=match s with
 | .FunctionDef _ _ _ _ _ _ sc _ _ _=>sc
 | _=>{ kind:=.function,names:=[],isGenerator:=false,isCoroutine:=false }
abbrev CX0:CXT:=λ_ _ _ _ _ _=>False
abbrev E0:XK:=λ_ _ _=>False
theorem Qsh:Qmi CX0 X E0:=λ_ _ _ _ _ _ _ h=>h.elim
structure Fun (K:Frag) (x qual:Str) (st:Stmt) (f:Addr) (fd:FuncData):Prop where
 ex:∃(oc:Value) (od:Option Addr) (kV doc pm:Value) (an:Option Addr) (cdv ct:Value) (osl:Array (Option Value)),
  fd=fnOf x qual (V4 st) (Qw st) (Qb st) .none kV doc pm an cdv ct/\K.lookup f=some ⟨oc,od,.func fd,osl⟩/\codeIn K cdv qual=true
 kp:keepIn K (.ref f)=true
theorem Fun.ok (F:Fun K x qual st f fd) (S:FnScope N ps (Qb st)) (len:∀vs H Q E,sp vs H Q E->vs.length=ps.length)
  (hbody:∀(cdv:Value) (A:Around) (outer:List Env) (s:Shared) (H:Hp) (vs:List V) (Q:VK) (E:XK),Room k (A.deeper (envOfC qual (Qb st) s.heap.objs.size f cdv))->sp vs H Q E ->
   ∃t,PSs (cxOf CX0 P w K mg base N qual (Qb st) f cdv A outer s H E).nox (Qw st) t/\t { nx:=λ_ H'=>Q .non H',rt:=Q } (start N vs) H):FnOk P w K mg base CX0 (k+1) f fd ps sp:=by
 obtain ⟨oc,od,kV,doc,pm,an,cdv,ct,osl,rfl,lk,hcd⟩:=F.ex
 refine Qyh lk hcd S len λA outer s H vs Q E hr hsp=>?_
 obtain ⟨t,h,q⟩:=hbody cdv A outer s H vs Q E hr hsp
 exact ⟨t,h.nox,q⟩
theorem Fun.binds (F:Fun K x qual st f fd)
  (h:∀(kV doc pm:Value) (an:Option Addr) (cdv ct:Value) (us:List Value),us.length=ps.length->bindArgs (fnOf x qual (V4 st) (Qw st) (Qb st) .none kV doc pm an cdv ct) ⟨us,[]⟩=pure (ps.zip us)):Xm K fd ps []:=by
 obtain ⟨oc,od,kV,doc,pm,an,cdv,ct,osl,rfl,lk,hcd⟩:=F.ex
 exact .all (h kV doc pm an cdv ct)
theorem Qhl {an:Option Addr} {kV doc pm cdv ct:Value} (l:K.lookup f=some ⟨oc,od,.func (fnOf x qual (V4 st) (Qw st) (Qb st) .none kV doc pm an cdv ct),osl⟩)
  (c:codeIn K cdv qual=true) (k:keepIn K (.ref f)=true):Fun K x qual st f (fnOf x qual (V4 st) (Qw st) (Qb st) .none kV doc pm an cdv ct):=⟨⟨oc,od,kV,doc,pm,an,cdv,ct,osl,rfl,l,c⟩,k⟩
theorem Jh (hr:Room k A):A.units+1<cLine:=Nat.lt_of_le_of_lt (Nat.add_le_add_left (by decide:1<=64) _) hr.units
theorem pv (i:Nat) (hN:X.N[i]? = some x:=by rfl) (hv:Vis X.env.scope x:=by first | exact Or.inl rfl | exact Or.inr (Or.inl rfl) | exact Or.inr (Or.inr rfl)) (hd:(x == ("__debug__" : Str))=false:=by decide)
  (hcd:(x == ("__classdict__" : Str))=false:=by decide):PE X (.Name x pos) (tVar i):=Xx hN hv hd hcd
theorem Ql9:Vf X (.builtin "len") (λxs H Q=>∃a kvs,xs=[V.ref a]/\H a=some (.dK kvs)/\Q (.int kvs.length) H):=by
 intro pins s σ H xs us Q I r h
 obtain ⟨a,kvs,rfl,ha,q⟩:=h
 obtain ⟨u,rfl,ru⟩:=Qbw r
 cases ru
 exact Q1z I (.inl ha) λt s' I'=>⟨.int kvs.length,H,I',⟨t,rfl⟩,q⟩
def Same (H H':Hp):Prop:=∀b o,H b=some o->H' b=some o
theorem Same.refl (H:Hp):Same H H:=λ_ _ h=>h
theorem Same.trans (a:Same H H1) (b:Same H1 H2):Same H H2:=λc o h=>b c o (a c o h)
theorem Same.free (e:Same H H') {l:Addr} (h:H' l=Option.none):H l=Option.none:=by
 cases q:H l with
 | none=>rfl
 | some o =>
  rw [e l o q] at h
  cases h
theorem Ut {env:Env}:∀(names:List (Str × NameKind)) (acc:List (Str × Addr)),
  (∀x∈names,x.2=.free->∃c,env.cells.lookup x.1=some c)->(∀y c,acc.lookup y=some c->env.cells.lookup y=some c) ->
  ∃cl:List (Str × Addr),(forIn names acc (λ(x:Str × NameKind) (cs:List (Str × Addr)) =>
    if (x.2 == NameKind.free)=true then do
     let c ← cellOf env x.1
     pure (ForInStep.yield ((x.1,c)::cs))
    else pure (ForInStep.yield cs)):Sem (List (Str × Addr)))=pure cl /\
   (∀y c,cl.lookup y=some c->env.cells.lookup y=some c)/\(∀y,(acc.lookup y).isSome=true->(cl.lookup y).isSome=true) /\
   ∀x∈names,x.2=.free->(cl.lookup x.1).isSome=true
 | [],acc,_,ha=>⟨acc,by rw [List.forIn_nil],ha,λ_ h=>h,λ_ h=>nomatch h⟩
 | (n,k)::r,acc,hn,ha=>by
  rw [List.forIn_cons]
  by_cases hk:k=.free
  ·subst hk
   obtain ⟨c,hc⟩:=hn (n,.free) List.mem_cons_self rfl
   have hc':env.cells.lookup n=some c:=hc
   obtain ⟨cl,e,h1,h2,h3⟩:=Ut r ((n,c)::acc) (λx hx=>hn x (List.mem_cons_of_mem _ hx)) (λy c' h=>by
    rw [List.lookup_cons] at h
    cases q:y == n with
    | true=>rw [q] at h;cases h;rw [beq_iff_eq.mp q];exact hc'
    | false=>rw [q] at h;exact ha y c' h)
   refine ⟨cl,?_,h1,λy hy=>h2 y ?_,λx hx hf=>?_⟩
   ·have e0:cellOf env n=pure c:=by unfold cellOf;rw [hc']
    show ((if ((NameKind.free == NameKind.free)=true) then (cellOf env n >>= λc=>pure (ForInStep.yield ((n,c)::acc))) else pure (ForInStep.yield acc)) >>= _)=_
    rw [if_pos (by decide),e0]
    exact e
   ·rw [List.lookup_cons]
    cases q:y == n with
    | true=>rfl
    | false=>exact hy
   ·rcases List.mem_cons.mp hx with rfl | hx
    ·exact h2 n (by simp [List.lookup_cons])
    ·exact h3 x hx hf
  ·obtain ⟨cl,e,h1,h2,h3⟩:=Ut r acc (λx hx=>hn x (List.mem_cons_of_mem _ hx)) ha
   refine ⟨cl,?_,h1,h2,λx hx hf=>?_⟩
   ·show ((if ((k == NameKind.free)=true) then (cellOf env n >>= λc=>pure (ForInStep.yield ((n,c)::acc))) else pure (ForInStep.yield acc)) >>= _)=_
    rw [if_neg (by simpa using hk)]
    exact e
   ·rcases List.mem_cons.mp hx with rfl | hx
    ·exact absurd hf hk
    ·exact h3 x hx hf
theorem Uu (h:∀x∈scope.names,x.2=.free->∃c,env.cells.lookup x.1=some c) :
  ∃cl,closureFor scope env=pure cl/\(∀y c,cl.lookup y=some c->env.cells.lookup y=some c)/\∀x∈scope.names,x.2=.free->∃c,cl.lookup x.1=some c:=by
 obtain ⟨cl,e,h1,_,h3⟩:=Ut scope.names [] h (λy c q=>by simp at q)
 refine ⟨cl,?_,h1,λx hx hf=>Option.isSome_iff_exists.mp (h3 x hx hf)⟩
 simp only [closureFor]
 show (forIn scope.names [] _ >>= λr=>pure r)=_
 rw [e]
 rfl
theorem Zs {env:Env} {x:Str}:∀{names:List (Str × NameKind)},names.lookup x=some .free ->
  (names.map λ(n,k)=>if (k == NameKind.free && env.scope.kind == .function && env.kindOf n == some .cell) then (n,NameKind.cell) else (n,k)).lookup x=some .cell \/
  (names.map λ(n,k)=>if (k == NameKind.free && env.scope.kind == .function && env.kindOf n == some .cell) then (n,NameKind.cell) else (n,k)).lookup x=some .free
 | [],h=>by simp at h
 | (n,k)::r,h=>by
  have ih:=@Zs env x r
  show List.lookup x ((if (k == NameKind.free && env.scope.kind == .function && env.kindOf n == some .cell)=true then (n,NameKind.cell) else (n,k))::_)=_\/List.lookup x ((if (k == NameKind.free && env.scope.kind == .function && env.kindOf n == some .cell)=true then (n,NameKind.cell) else (n,k))::_)=_
  cases hx:x == n with
  | true =>
   simp only [List.lookup_cons,hx] at h
   cases h
   by_cases hc:(NameKind.free == NameKind.free && env.scope.kind == .function && env.kindOf n == some .cell)=true
   ·rw [if_pos hc];left;simp only [List.lookup_cons,hx]
   ·rw [if_neg hc];right;simp only [List.lookup_cons,hx]
  | false =>
   simp only [List.lookup_cons,hx] at h
   by_cases hc:(k == NameKind.free && env.scope.kind == .function && env.kindOf n == some .cell)=true
   ·rw [if_pos hc];simp only [List.lookup_cons,hx];exact ih h
   ·rw [if_neg hc];simp only [List.lookup_cons,hx];exact ih h
theorem Z4 {env:Env} {x:Str} {q:NameKind}:∀{names:List (Str × NameKind)},(∀y∈names,y.2 ≠ .cell)->q=.cell\/q=.free ->
  (names.map λ(n,k)=>if (k == NameKind.free && env.scope.kind == .function && env.kindOf n == some .cell) then (n,NameKind.cell) else (n,k)).lookup x=some q->(x,NameKind.free)∈names
 | [],_,_,h=>by simp at h
 | (n,k)::r,hn,hq,h=>by
  have h:List.lookup x ((if (k == NameKind.free && env.scope.kind == .function && env.kindOf n == some .cell)=true then (n,NameKind.cell) else (n,k))::(r.map λ(n,k)=>if (k == NameKind.free && env.scope.kind == .function && env.kindOf n == some .cell) then (n,NameKind.cell) else (n,k)))=some q:=h
  by_cases hc:(k == NameKind.free && env.scope.kind == .function && env.kindOf n == some .cell)=true
  ·rw [if_pos hc] at h
   cases hx:x == n with
   | true =>
    have hk:k=.free:=by
     cases k <;> first | rfl | (simp at hc)
    rw [beq_iff_eq.mp hx,hk]
    exact List.mem_cons_self
   | false =>
    simp only [List.lookup_cons,hx] at h
    exact List.mem_cons_of_mem _ (Z4 (λy hy=>hn y (List.mem_cons_of_mem _ hy)) hq h)
  ·rw [if_neg hc] at h
   cases hx:x == n with
   | true =>
    simp only [List.lookup_cons,hx] at h
    have hk:k=q:=Option.some.inj h
    have hk2:k=.free:=by
     rcases hq with rfl | rfl
     ·exact absurd hk (hn (n,k) List.mem_cons_self)
     ·exact hk
    rw [beq_iff_eq.mp hx,hk2]
    exact List.mem_cons_self
   | false =>
    simp only [List.lookup_cons,hx] at h
    exact List.mem_cons_of_mem _ (Z4 (λy hy=>hn y (List.mem_cons_of_mem _ hy)) hq h)
def J7 (X:Cx) (scope:Scope) (cl:List (Str × Addr)) (C:Addr) (N:List Str) (s₀:Shared) (H₀:Hp) (fp:List Addr):Cx :=
 { X with N:=N,s₀:=s₀,H₀:=H₀,env:=compEnvC scope cl C X.env,outer:=X.stack,stack:=X.stack,ex:=fp,fn:=λ_=>false,pn:=[],xe:=λ_ _=>False }
structure BlkScope (env:Env) (scope:Scope) (x:Str):Prop where
 kind:scope.kind=.function
 cells:∀y∈scope.names,y.2 ≠ .cell
 names:∀y∈scope.names,y.2=.local->scope.names.lookup y.1=some .local
 lx:scope.names.lookup x=some .local
 free:∀y∈scope.names,y.2=.free->env.kindOf y.1=some .cell\/env.kindOf y.1=some .free
def bN (N:List Str) (x:Str) (ix:List Nat):List Str:=x::ix.map λi=>N.getD i Str.empty
def bS (σ:St) (o:Option V) (ix:List Nat):St:=o::ix.map λi=>(σ[i]?).getD none
def PIfs (X:Cx) (ifs:List Expr) (tt:TT):Prop :=
 ∀(pins:List (Addr × Obj)) (s:Shared) (σ:St) (H:Hp) (Q:Bool->Hp->Prop),Inv X pins σ H s->tt σ H Q ->
  wpAny (model X.prog X.w) X.A (forIn ifs true λc r=>if r=true then do let ok ← isTrue c X.env (eval c X.env);pure (ForInStep.yield ok) else pure (ForInStep.yield r)) (TP X pins σ Q) X.xe s
def tAll:TT:=λ_ H Q=>Q true H
theorem Qha:PIfs X [] tAll:=by
 intro pins s σ H Q I h
 rw [List.forIn_nil]
 exact wpAny_pure ⟨H,I,h⟩
theorem Qy5 (I:Inv X pins σ H s) (B:BlkScope X.env scope x)
  (h1:∀y c,cl.lookup y=some c->X.env.cells.lookup y=some c) (h3:∀y∈scope.names,y.2=.free->∃c,cl.lookup y.1=some c) (hC:s.heap.objs.size<=C) (hf:∀b∈fp,FpOk X pins H b) (hl:∀b∈fp,b<s.heap.objs.size) :
  (J7 X scope cl C N s H fp).Ok where
 mod:=I.ok.mod
 kind:=by show (relabel scope X.env).kind=_;exact B.kind
 glob:=I.ok.glob
 blt:=I.ok.blt
 above:=hC
 inj:=λy z c q r=>I.ok.inj y z c (h1 y c q) (h1 z c r)
 has:=λy hy=>by
  have hy:(relabel scope X.env).names.lookup y=some .cell\/(relabel scope X.env).names.lookup y=some .free:=hy
  have m:(y,NameKind.free)∈scope.names:=by
   rcases hy with q | q
   ·exact Z4 B.cells (.inl rfl) q
   ·exact Z4 B.cells (.inr rfl) q
  exact h3 _ m rfl
 cab:=λy c q=>by cases (show false=true from q)
 hd:=I.ok.hd
 frames:=I.ok.frames
 stk:=.inl rfl
 exf:=λb hb=>⟨Nat.ne_of_lt (Nat.lt_of_lt_of_le (hl b hb) hC),λy c q=>(hf b hb).2.2.2.2.1 y c (h1 y c q)⟩
 bs:=I.bs
 bsz:=Nat.le_trans I.ok.bsz I.sz
 noex:=λb o e hb=>by
  rcases (hf b hb).2.2.2.1 with z | z
  ·exact I.ok.noex b o e z
  ·exact absurd (Nat.lt_of_lt_of_le (Heap.lt_size e) (Nat.le_trans I.ok.bsz z)) (Nat.lt_irrefl _)
 exfs:=λb hb z=>by
  have z':=I.stkSub b z
  rcases List.mem_cons.mp z' with q | q
  ·exact (hf b hb).2.1 q
  ·exact (hf b hb).2.2.1 q
 funs:=I.stack
 frf:=I.stkFree
theorem HOk.add (x:HOk P w H h) (hn:H a=none) (new:Ye P w (upd H a o) h a o):HOk P w (upd H a o) h:=λb u e=>by
 by_cases hb:b=a
 ·subst hb;rw [Ql] at e;cases e;exact new
 ·rw [Qk hb] at e
  exact (x b u e).stay (λc v _ q=>q) (λc q=>by rw [Qk (Jn q hn)];exact q) (λc xs q=>by rw [Qk (Jn q hn)];exact q) λc _ _ _ q _=>by rw [Qk (Jn q hn)];exact q
theorem Un.add {fs ex:List Addr} (u:Un fs ex H H' h h') (hn:h.get? a=none) (hH:H a=none):Un fs ex H (upd H' a o) h h' where
 keep:=u.keep
 slot:=u.slot
 free:=λb ob e n hx=>by
  have:b≠a:=λz=>by rw [z,hn] at e;cases e
  rw [Qk this];exact u.free b ob e n hx
 there:=u.there
 tups:=λb xs e=>by rw [Qk (Jn e hH)];exact u.tups b xs e
 frzs:=λb ob w e=>by rw [Qk (Jn e hH)];exact u.frzs b ob w e
 tbls:=λb ps e=>by rw [Qk (Jn e hH)];exact u.tbls b ps e
theorem Qb5 {target:Expr} {it acc:Value} (I:Nat->Shared->Prop)
  (turn:∀n s,I n s->wpAny (model prog w) A (pyNext it) (λr s₁=>match r with
   | none=>R (.ok .next) s₁
   | some v=>wpAny (model prog w) A (letOwnedTupleGo target it v) (λ_ s₀=>wpAny (model prog w) A (assign target env v) (λ_ s₂ =>
     wpAny (model prog w) A (forIn ifs true λc r=>if r=true then do let ok ← isTrue c env (eval c env);pure (ForInStep.yield ok) else pure (ForInStep.yield r)) (λok s₃ =>
      if ok=true then wpAny (model prog w) A (eval elt env) (λx s₄ =>
       wpAny (model prog w) A (call (.builtin "list.append") [acc,x]) (λ_ s₅=>∃m,m<n/\I m s₅) (notedBy (model prog w) A env λe s'=>R (.error e) s') s₄) (notedBy (model prog w) A env λe s'=>R (.error e) s') s₃
      else ∃m,m<n/\I m s₃) (notedBy (model prog w) A env λe s'=>R (.error e) s') s₂) (notedBy (model prog w) A env λe s'=>R (.error e) s') s₀) (notedBy (model prog w) A env λe s'=>R (.error e) s') s₁) (notedBy (model prog w) A env λe s'=>R (.error e) s') s)
  (n:Nat) (h:I n s):codeAny (model prog w) A (.compLoop (.ListComp elt [⟨target,iter,ifs,0⟩] scope pos) 0 it acc env) R s:=by
 refine codeAny_loop rfl I (λn s hI=>?_) n h
 show wpAny _ A ((compTurn (.ListComp elt [⟨target,iter,ifs,0⟩] scope pos) 0 it acc env).onRaise (λx=>do noteFrame x env;theTreesLotGoes x)) _ _ s
 refine wpAny_noted ?_
 rw [compTurn_list]
 refine wpAny_bind (wpAny_standAt (wpAny_bind (wpAny_mono (turn n s hI) (λr s₁ h₁=>?_) λ_ _ h'=>h')))
 cases r with
 | none=>exact wpAny_pure h₁
 | some v =>
  refine wpAny_bind (wpAny_mono h₁ (λ_ s₀ h₀=>?_) λ_ _ h'=>h')
  refine wpAny_bind (wpAny_mono h₀ (λ_ s₂ h₂=>wpAny_bind (wpAny_mono h₂ (λok s₃ h₃=>?_) λ_ _ h'=>h')) λ_ _ h'=>h')
  cases ok with
  | false=>exact wpAny_pure ⟨rfl,h₃⟩
  | true =>
   exact wpAny_bind (wpAny_bind (wpAny_mono h₃ (λx s₄ h₄=>wpAny_bind (wpAny_mono h₄ (λ_ s₅ h₅=>wpAny_pure (wpAny_pure ⟨rfl,h₅⟩)) λ_ _ h'=>h')) λ_ _ h'=>h'))
def bN2 (N:List Str) (ts:List Str) (ix:List Nat):List Str:=ts++ix.map λi=>N.getD i Str.empty
def bS2 (σ:St) (o:List (Option V)) (ix:List Nat):St:=o++ix.map λi=>(σ[i]?).getD none
theorem Qe7 {RR:Value->PySem.Env->Result->Shared->Prop} {Px:Hp->Shared->Value->Shared->Prop}
  (I:Inv X pins σ H s) (hc:X.calm=true) (B:BlkScope X.env scope x) (h1:∀y c,cl.lookup y=some c->X.env.cells.lookup y=some c) (h3:∀y∈scope.names,y.2=.free->∃c,cl.lookup y.1=some c)
  (hix:∀i∈ix,∃y,X.N[i]? = some y/\scope.names.lookup y=some .free) (hN:(bN2 X.N ts ix).Nodup)
  (T:Turn X.prog X.w X.K tg J fp it tn) (st:tn 0 s.heap) (hf:∀b∈fp,FpOk X pins H b)
  (hg:∀cl C s₀ H₀ fp,PG (J7 X scope cl C (bN2 X.N ts ix) s₀ H₀ fp) tg gt)
  (he:∀cl C s₀ H₀ fp xe,(∀pins σ' H s e s',Inv (J7 X scope cl C (bN2 X.N ts ix) s₀ H₀ fp) pins σ' H s->Px H s e s'->xe e s')->PE ((J7 X scope cl C (bN2 X.N ts ix) s₀ H₀ fp).wish xe) elt te)
  (hi:∀cl C s₀ H₀ fp,PIfs (J7 X scope cl C (bN2 X.N ts ix) s₀ H₀ fp) ifs tt)
  (W:Nat->Nat->List V->Hp->Prop) (m₀:Nat) (w0:W 0 m₀ [] H)
  (turn:∀i m ys H,W i m ys H->(J.stop i H/\ys.length<=sizeLine/\G ys H)\/(J.go i H/\ys.length<sizeLine/\∀v H',J.yld i H v H'->∀o:List (Option V),o.length=ts.length->gt v (bS2 σ o ix) H' λσ2 H2=>∃o2:List (Option V),σ2=bS2 σ o2 ix/\o2.length=ts.length /\
    tt σ2 H2 λb H1=>if b=true then te σ2 H1 λy H2=>∃m',m' < m/\W (i+1) m' (ys++[y]) H2 else ∃m',m' < m/\W (i+1) m' ys H1))
  (hRR:∀D C cenv s' ys H',cenv.locals=C->Inv X pins σ (upd H' D (.lst ys)) s'->H' D=none->H' C=none->(∃m,s'.heap.Ns C m)->s.heap.objs.size<=C->D≠C->G ys H'->RR (.ref D) cenv (.ok .next) s')
  (hXX:∀D C cenv s' H' e s'',cenv.locals=C->cenv.frame=X.env.frame->Inv X pins σ H' s'->H' C=none->(∃m,s'.heap.Ns C m)->s.heap.objs.size<=C->C∉frs X.stack->Px H' s' e s''->notedBy (model X.prog X.w) X.A (compEnvC scope cl C X.env) (λe s'=>RR (.ref D) cenv (.error e) s') e s'') :
  wpAny (model X.prog X.w) X.A (newList []) (λacc s₃=>wpAny (model X.prog X.w) X.A (newFunctionEnv scope X.env.globals cl [] X.env.qual none .none (some X.env)) (λcenv s₄ =>
   codeAny (model X.prog X.w) X.A (.compStart (.ListComp elt [⟨tg,iter,ifs,0⟩] scope pos) 0 (.ref it) acc { cenv with scope:=relabel scope X.env }) (RR acc { cenv with scope:=relabel scope X.env }) s₄) E s₃) E s:=by
 have hl:∀b∈fp,b<s.heap.objs.size:=λb hb=>by obtain ⟨o,e,_⟩:=T.obj 0 _ st b hb;exact Heap.lt_size e
 refine wpAny_newObj_type (wpAny_newFunctionEnv B.cells (by intro y hy;simp at hy) (λh₁ hns₁ hsb₁=>?_) B.kind)
 dsimp only at hns₁ hsb₁ ⊢
 generalize hH2:s.heap.push { cls:=.type "list",dict:=none,data:=.seq ([]:List Value).toArray }=H2 at hns₁ hsb₁ ⊢
 have hC:H2.objs.size=s.heap.objs.size+1:=by rw [← hH2,Heap.size_push]
 generalize hD:s.heap.objs.size=D at hC hl hRR hXX ⊢
 generalize hCC:H2.objs.size=C at hC hns₁ hsb₁ ⊢
 have hDC:D≠C:=by omega
 have old:∀b o,s.heap.get? b=some o->h₁.get? b=some o:=λb o e=>hsb₁.extBut b o (Nat.ne_of_lt (by have z:=Heap.lt_size e;rw [hD] at z;exact Nat.lt_of_lt_of_le z (by rw [hC];exact Nat.le_succ _))) (Heap.get?_push_of_some _ (hH2 ▸ Heap.get?_push_of_some _ e))
 have hacc:h₁.get? D=some { cls:=.type "list",data:=.seq ([]:List Value).toArray 0 }:=hsb₁.extBut _ _ hDC (Heap.get?_push_of_some _ (hH2 ▸ (by rw [← hD];exact Heap.get?_push_size _ rfl)))
 have hfr:∀a,D<=a->s.heap.get? a=none:=λa ha=>by
  cases e:s.heap.get? a with
  | none=>rfl
  | some o=>exact absurd (Heap.lt_size e) (by rw [hD];exact Nat.not_lt.mpr ha)
 have hHn:∀a,D<=a->H a=none:=λa ha=>I.hok.fresh (by omega)
 have ok:(J7 X scope cl C (bN2 X.N ts ix) s H fp).Ok:=Qy5 I B h1 h3 (by omega) hf (by rw [hD];exact hl)
 generalize hK:J7 X scope cl C (bN2 X.N ts ix) s H fp=K at ok
 have kp:K.prog=X.prog:=by rw [← hK];rfl
 have kw:K.w=X.w:=by rw [← hK];rfl
 have kK:K.K=X.K:=by rw [← hK];rfl
 have kA:K.A=X.A:=by rw [← hK];rfl
 have kc:K.calm=true:=by rw [← hK];exact hc
 have kN:K.N=bN2 X.N ts ix:=by rw [← hK];rfl
 have kenv:K.env=compEnvC scope cl C X.env:=by rw [← hK];rfl
 have kloc:K.env.locals=C:=by rw [← hK];rfl
 have kfs:K.fs=frs X.stack:=by rw [← hK];rfl
 have kex:K.ex=fp:=by rw [← hK];rfl
 have kpn:K.pn=[]:=by rw [← hK];rfl
 have ks:K.s₀=s:=by rw [← hK];rfl
 have kH:K.H₀=H:=by rw [← hK];rfl
 have kx:K.xe=λ_ _=>False:=by rw [← hK];rfl
 have kcl:K.env.cells=cl:=by rw [← hK];rfl
 have cellLt:∀y c,cl.lookup y=some c->c<D:=λy c q=>by obtain ⟨v,z⟩:=I.cell y c (h1 y c q);rw [← hD];exact z.lt
 have stkLt:∀b∈frs X.stack,b<D:=λb hb=>by
  rcases List.mem_cons.mp (I.stkSub b hb) with q | q
  ·rw [q,← hD];exact I.lt
  ·rcases Nat.lt_or_ge b D with z | z
   ·exact z
   ·exact absurd q (I.nofs (by omega))
 -- the state at the block's begin
 have I0:∀tk,Inv K [(D,{ cls:=.type "list",data:=.seq ([]:List Value).toArray 0 })] (bS2 σ (ts.map λ_=>none) ix) H { s with heap:=h₁,toks:=tk }:=λtk=>by
  refine ⟨ok,by rw [ks],I.bare,by rw [ks,kH];exact Un.kept old,?_,?_,?_,?_,?_,by rw [kp,kw];exact I.hok.kept old,?_⟩
  ·refine ⟨_,by rw [kloc];exact hns₁,λi y v e1 e2 e3=>?_⟩
   rw [kN] at e1
   by_cases hlt:i<ts.length
   ·unfold bS2 at e2
    rw [List.getElem?_append_left (by simpa using hlt),List.getElem?_map] at e2
    cases hts:ts[i]? with
    | none=>rw [hts] at e2;cases e2
    | some y'=>rw [hts] at e2;have e2:(some (none:Option V))=some (some v):=e2;cases e2
   ·obtain ⟨i,rfl⟩:∃i',i=ts.length+i':=⟨i-ts.length,by omega⟩
    have e1':(ix.map λi=>X.N.getD i Str.empty)[i]? = some y:=by
     unfold bN2 at e1
     rw [List.getElem?_append_right (by omega),show ts.length+i-ts.length=i by omega] at e1
     exact e1
    have e2':(ix.map λi=>(σ[i]?).getD none)[i]? = some (some v):=by
     unfold bS2 at e2
     rw [List.getElem?_append_right (by rw [List.length_map];omega),List.length_map,show ts.length+i-ts.length=i by omega] at e2
     exact e2
    rw [List.getElem?_map] at e1' e2'
    cases q:ix[i]? with
    | none=>rw [q] at e1';cases e1'
    | some j =>
     rw [q] at e1' e2'
     obtain ⟨y',a1,a2⟩:=hix j (List.mem_of_getElem? q)
     have a3:X.N.getD j Str.empty=y':=by simp [List.getD,a1]
     have ey:y'=y:=by rw [← a3];exact Option.some.inj e1'
     subst ey
     have es:σ[j]? = some (some v):=by
      have z:(σ[j]?).getD none=some v:=Option.some.inj e2'
      cases w:σ[j]? with
      | none=>rw [w] at z;cases z
      | some o=>rw [w] at z;have z':o=some v:=z;rw [z']
     obtain ⟨m,hn,hlk⟩:=I.loc
     have hk:=B.free (y',.free) (PySem.mem_of_lookup a2) rfl
     have hk:X.env.kindOf y'=some .cell\/X.env.kindOf y'=some .free:=hk
     have vis:Vis X.env.scope y':=hk.elim (λz=>.inr (.inl z)) λz=>.inr (.inr z)
     obtain ⟨u,ru,lk⟩:=hlk j y' v a1 es vis
     refine ⟨u,ru,?_⟩
     rcases lk with ⟨k,_⟩ | ⟨_,c,ec,ce⟩
     ·rcases hk with z | z <;> (rw [k] at z;cases z)
     ·obtain ⟨c',ec'⟩:=h3 (y',.free) (PySem.mem_of_lookup a2) rfl
      have ec':cl.lookup y'=some c':=ec'
      have:c'=c:=Option.some.inj ((h1 y' c' ec').symm.trans ec)
      subst this
      refine .inr ⟨?_,c',by rw [kcl];exact ec',?_⟩
      ·show K.env.scope.names.lookup y'=_\/K.env.scope.names.lookup y'=_
       rw [kenv]
       exact Zs a2
      ·obtain ⟨oc,hoc,r⟩:=ce
       exact ⟨oc,old _ _ hoc,r⟩
  ·intro y c q
   rw [kcl] at q
   obtain ⟨v,oc,hoc,r⟩:=I.cell y c (h1 y c q)
   exact ⟨v,oc,old _ _ hoc,r⟩
  ·rw [kloc];exact hHn _ (by omega)
  ·intro y c q
   rw [kcl] at q
   exact I.freeC y c (h1 y c q)
  ·intro p hp
   rw [kpn] at hp
   have e:p=(D,{ cls:=.type "list",data:=.seq ([]:List Value).toArray 0 }):=by simpa using hp
   subst e
   refine ⟨hacc,hHn _ (Nat.le_refl _),by rw [kloc];exact hDC,?_,λv z=>?_⟩
   ·rw [kfs];intro z;exact absurd (stkLt D z) (Nat.lt_irrefl _)
   ·have z':Data.seq _ _=Data.cell v:=z
    cases z'
  ·rw [kN];simp [bS2,bN2]
 have stat:∀{H':Hp} {ob:Obj},(∀b∈fp,H' b=none)->∀b∈fp,FpOk K [(D,ob)] H' b:=λ{H' ob} hn b hb=>by
  refine ⟨hn b hb,?_,?_,.inl (by rw [kex];exact hb),?_,?_⟩
  ·rw [kloc];exact Nat.ne_of_lt (Nat.lt_of_lt_of_le (hl b hb) (by rw [hC];exact Nat.le_succ _))
  ·rw [kfs];intro z
   rcases List.mem_cons.mp (I.stkSub b z) with q | q
   ·exact (hf b hb).2.1 q
   ·exact (hf b hb).2.2.1 q
  ·intro y c q;rw [kcl] at q;exact (hf b hb).2.2.2.2.1 y c (h1 y c q)
  ·intro p hp;rw [kpn] at hp
   have e:p=(D,ob):=by simpa using hp
   subst e
   exact Nat.ne_of_gt (hl b hb)
 have st₁:tn 0 h₁:=T.keep _ _ _ st λb hb o e=>old b o e
 have loop:∀tk,codeAny (model X.prog X.w) X.A (.compLoop (.ListComp elt [⟨tg,iter,ifs,0⟩] scope pos) 0 (.ref it) (.ref D) (compEnvC scope cl C X.env)) (RR (.ref D) (compEnvC scope cl C X.env)) { s with heap:=h₁,toks:=tk }:=by
  intro tk
  refine Qb5 (λn s'=>∃i o H' ys its c,o.length=ts.length/\Inv K [(D,{ cls:=.type "list",data:=.seq (its:List Value).toArray c })] (bS2 σ o ix) H' s'/\Vals ys its/\tn i s'.heap/\(∀b∈fp,H' b=none)/\W i n ys H') ?_ m₀
   ⟨0,ts.map (λ_=>none),H,[],[],0,by simp,I0 tk,.nil,st₁,λb hb=>(hf b hb).1,w0⟩
  rintro n s1 ⟨i,o,H1,ys,its,c,ol,I1,rv,t1,f1,w1⟩
  rcases turn i n ys H1 w1 with ⟨stop,hz,g⟩ | ⟨go,hz,step⟩
  ·have dn:=T.done K kp kw kK kc i _ s1 _ H1 (notedBy (model X.prog X.w) X.A (compEnvC scope cl C X.env) λe s'=>RR (.ref D) (compEnvC scope cl C X.env) (.error e) s') I1 (stat f1) t1 stop
   rw [kA] at dn
   refine thn dn λr s2 ⟨hr,I2⟩=>?_
   subst hr
   obtain ⟨p1,p2,p3,p4,p5⟩:=I2.pin (D,{ cls:=.type "list",data:=.seq its.toArray c }) (List.mem_append_right _ (List.mem_singleton.mpr rfl))
   have u2:=I2.base
   rw [kfs,kex,kH,ks] at u2
   refine hRR D C (compEnvC scope cl C X.env) s2 ys H1 rfl ?_ p2 (by rw [← kloc];exact I2.free) (by obtain ⟨m,hm,_⟩:=I2.loc;rw [kloc] at hm;exact ⟨m,hm⟩) (by omega) hDC g
   have hk2:HOk X.prog X.w H1 s2.heap:=by have:=I2.hok;rw [kp,kw] at this;exact this
   refine I.call' (ch:=fp) (by have:=I2.os;rw [ks] at this;exact this) (u2.add (hfr D (Nat.le_refl _)) (hHn D (Nat.le_refl _))) (hk2.add p2 ⟨hz,its,c,rv,p1⟩) I2.bare λb hb=>?_
   exact ⟨(hf b hb).2.2.2.1,(hf b hb).2.1,(hf b hb).2.2.2.2.1,(hf b hb).2.2.2.2.2⟩
  ·have im:=T.item K kp kw kK kc i _ s1 _ H1 (notedBy (model X.prog X.w) X.A (compEnvC scope cl C X.env) λe s'=>RR (.ref D) (compEnvC scope cl C X.env) (.error e) s') I1 (stat f1) t1 go
   rw [kA] at im
   refine thn im λr s2 ⟨u,hr,h2⟩=>?_
   subst hr
   refine thn h2 λ_ s3 ⟨v,H3,I3,r3,y3,t3,f3⟩=>?_
   have q3:=step v H3 y3 o ol
   have I3':=I3.pinned (stat f3) (T.obj _ _ t3)
   have hg':=hg cl C s H fp
   rw [hK] at hg'
   have hgv:=hg' _ s3 _ H3 v u _ I3' r3 q3
   rw [kx,kp,kw,kA,kenv] at hgv
   refine wpAny_mono hgv (λ_ s4 ⟨σ4,H4,I4,o4,e4,l4,q4⟩=>?_) λ_ _ z=>z.elim
   subst e4
   have hi':=hi cl C s H fp
   rw [hK] at hi'
   have hiv:=hi' _ s4 _ H4 _ I4 q4
   rw [kx,kp,kw,kA,kenv] at hiv
   refine wpAny_mono hiv (λok s5 ⟨H5,I5,q5⟩=>?_) λ_ _ z=>z.elim
   have back:∀{H7:Hp} {s7:Shared} {o7:List (Option V)},Inv K ([(D,{ cls:=.type "list",data:=.seq its.toArray c })]++Qem fp s3.heap) (bS2 σ o7 ix) H7 s7->tn (i+1) s7.heap/\∀b∈fp,H7 b=none:=λ{H7 s7 o7} I7=>by
    refine ⟨T.keep _ _ _ t3 λb hb o e=>(I7.pin (b,o) (List.mem_append_right _ (List.mem_append_right _ (V7 hb e)))).1,λb hb=>?_⟩
    obtain ⟨ob,e,d⟩:=T.obj _ _ t3 b hb
    exact (I7.pin (b,ob) (List.mem_append_right _ (List.mem_append_right _ (V7 hb e)))).2.1
   cases ok with
   | false =>
    rw [if_neg Bool.false_ne_true]
    have q5:∃m',m' < n/\W (i+1) m' ys H5:=q5
    obtain ⟨m',hm,w5⟩:=q5
    obtain ⟨b1,b2⟩:=back I5
    exact ⟨m',hm,i+1,o4,H5,ys,its,c,l4,I5.unpinned,rv,b1,b2,w5⟩
   | true =>
    rw [if_pos rfl]
    have q5:te (bS2 σ o4 ix) H5 λy H2=>∃m',m' < n/\W (i+1) m' (ys++[y]) H2:=q5
    have hxe:∀pins' σ' H5 s5 e s',Inv K pins' σ' H5 s5->Px H5 s5 e s'->notedBy (model X.prog X.w) X.A (compEnvC scope cl C X.env) (λe s'=>RR (.ref D) (compEnvC scope cl C X.env) (.error e) s') e s':=by
     intro pins' σ' H5 s5 e s' J5 q
     have u5:=J5.base
     rw [kfs,kex,kH,ks] at u5
     refine hXX D C _ s5 H5 e s' rfl rfl ?_ (by rw [← kloc];exact J5.free) (by obtain ⟨m,hm,_⟩:=J5.loc;rw [kloc] at hm;exact ⟨m,hm⟩) (by omega) (λz=>Nat.lt_irrefl C (Nat.lt_trans (stkLt C z) (by omega))) q
     exact I.call' (ch:=fp) (by have:=J5.os;rw [ks] at this;exact this) u5 (by have:=J5.hok;rw [kp,kw] at this;exact this) J5.bare λb hb=>⟨(hf b hb).2.2.2.1,(hf b hb).2.1,(hf b hb).2.2.2.2.1,(hf b hb).2.2.2.2.2⟩
    have he':=he cl C s H fp _ (hK ▸ hxe)
    rw [hK] at he'
    have hev:=he' _ s5 _ H5 _ (I5.wish _) q5
    change wpAny (model K.prog K.w) K.A (eval elt K.env) _ _ s5 at hev
    rw [kp,kw,kA,kenv] at hev
    refine wpAny_mono hev (λy s6 ⟨yv,H6,I6,r6,m',hm,w6⟩=>?_) λ_ _ z=>z
    have I6:=I6.unwish
    obtain ⟨b1,b2⟩:=back I6
    have I6':=I6.unpinned
    obtain ⟨p1,p2,p3,p4,p5⟩:=I6'.pin (D,{ cls:=.type "list",data:=.seq its.toArray c }) (List.mem_append_right _ (List.mem_singleton.mpr rfl))
    have hlen:=rv.length
    refine call_meets F.slot_list_append ⟨_,p1,rfl⟩ F.entry_list_append (F.args_list_append_2 _ _) (PySem.list_append D its.toArray c y (by rw [List.size_toArray];omega)) ⟨p1,?_⟩
    have ea:its.toArray.push y=(its++[y]).toArray:=by simp
    obtain ⟨c',q⟩:∃c',(s6.heap.update D (Obj.mapSeq (·.push y))).get? D=some { cls:=.type "list",data:=.seq (its++[y]).toArray c' }:=⟨_,by rw [← ea];exact PySem.IsL.update p1 (·.push y)⟩
    refine ⟨m',hm,i+1,o4,H6,ys++[yv],its++[y],c',l4,?_,rv.append (.cons r6 .nil),T.keep _ _ _ b1 λb hb o e=>?_,b2,w6⟩
    ·have Id:Inv K [] (bS2 σ o4 ix) H6 s6:=I6'.pins_of λp hp=>by simp at hp
     have It:Inv K [] (bS2 σ o4 ix) H6 { s6 with heap:=s6.heap.update D (Obj.mapSeq (·.push y)) }:=Id.turned (t':=s6.toks) (it:=D) (λb o hb e=>(Heap.get?_update_other _ _ (Ne.symm hb)).trans e) p2 p3
      (.inr (by rw [ks];omega)) (λy' c' e=>by rw [kcl] at e;exact Nat.ne_of_lt (cellLt y' c' e)) (λp hp=>by rw [kpn] at hp;simp at hp)
     refine It.pins_of λp hp=>?_
     obtain rfl:p=(D,{ cls:=.type "list",data:=.seq (its++[y]).toArray c' }):=by simpa using hp
     refine ⟨q,p2,p3,p4,λv z=>?_⟩
     have z':Data.seq _ _=Data.cell v:=z
     cases z'
    ·exact (Heap.get?_update_other _ _ (Nat.ne_of_gt (hl b hb))).trans e
 have selfs:wpAny (model X.prog X.w) X.A (pyIter (.ref it)) (λit' s'=>codeAny (model X.prog X.w) X.A (.compLoop (.ListComp elt [⟨tg,iter,ifs,0⟩] scope pos) 0 it' (.ref D) (compEnvC scope cl C X.env)) (RR (.ref D) (compEnvC scope cl C X.env)) s')
   (notedBy (model X.prog X.w) X.A (compEnvC scope cl C X.env) λe s'=>RR (.ref D) (compEnvC scope cl C X.env) (.error e) s') { s with heap:=h₁,toks:=s.toks+([]:List (Str × Value)).length }:=T.self X.A 0 _ _ _ st₁ (loop _)
 exact codeAny_compStart_list (loop _) selfs
theorem Qe8
  (I:Inv X pins σ H s) (hc:X.calm=true) (B:BlkScope X.env scope x) (h1:∀y c,cl.lookup y=some c->X.env.cells.lookup y=some c) (h3:∀y∈scope.names,y.2=.free->∃c,cl.lookup y.1=some c)
  (hix:∀i∈ix,∃y,X.N[i]? = some y/\scope.names.lookup y=some .free) (hN:(bN2 X.N ts ix).Nodup)
  (T:Turn X.prog X.w X.K tg J fp it tn) (st:tn 0 s.heap) (hf:∀b∈fp,FpOk X pins H b)
  (hg:∀cl C s₀ H₀ fp,PG (J7 X scope cl C (bN2 X.N ts ix) s₀ H₀ fp) tg gt)
  (he:∀cl C s₀ H₀ fp,PE (J7 X scope cl C (bN2 X.N ts ix) s₀ H₀ fp) elt te)
  (hi:∀cl C s₀ H₀ fp,PIfs (J7 X scope cl C (bN2 X.N ts ix) s₀ H₀ fp) ifs tt)
  (W:Nat->Nat->List V->Hp->Prop) (m₀:Nat) (w0:W 0 m₀ [] H)
  (turn:∀i m ys H,W i m ys H->(J.stop i H/\ys.length<=sizeLine/\G ys H)\/(J.go i H/\ys.length<sizeLine/\∀v H',J.yld i H v H'->∀o:List (Option V),o.length=ts.length->gt v (bS2 σ o ix) H' λσ2 H2=>∃o2:List (Option V),σ2=bS2 σ o2 ix/\o2.length=ts.length /\
    tt σ2 H2 λb H1=>if b=true then te σ2 H1 λy H2=>∃m',m' < m/\W (i+1) m' (ys++[y]) H2 else ∃m',m' < m/\W (i+1) m' ys H1))
  (hRR:∀D C s' ys H',Inv X pins σ (upd H' D (.lst ys)) s'->H' D=none->H' C=none->(∃m,s'.heap.Ns C m)->s.heap.objs.size<=C->D≠C->G ys H'->RR (.ref D) C (.ok .next) s') :
  wpAny (model X.prog X.w) X.A (newList []) (λacc s₃=>wpAny (model X.prog X.w) X.A (newFunctionEnv scope X.env.globals cl [] X.env.qual none .none (some X.env)) (λcenv s₄ =>
   codeAny (model X.prog X.w) X.A (.compStart (.ListComp elt [⟨tg,iter,ifs,0⟩] scope pos) 0 (.ref it) acc { cenv with scope:=relabel scope X.env }) (RR acc cenv.locals) s₄) E s₃) E s :=
 Qe7 (RR:=λacc cenv r s=>RR acc cenv.locals r s) (Px:=λ_ _ _ _=>False) I hc B h1 h3 hix hN T st hf hg (λcl C s₀ H₀ fp xe _=>PE.nox (he cl C s₀ H₀ fp)) hi W m₀ w0 turn (λD C cenv s' ys H' e=>by subst e;exact hRR _ _ _ _ _) λ_ _ _ _ _ _ _ _ _ _ _ _ _ _ z=>z.elim
theorem Qok
  (I:Inv X pins σ H s) (hc:X.calm=true) (B:BlkScope X.env scope x) (h1:∀y c,cl.lookup y=some c->X.env.cells.lookup y=some c) (h3:∀y∈scope.names,y.2=.free->∃c,cl.lookup y.1=some c)
  (hix:∀i∈ix,∃y,X.N[i]? = some y/\scope.names.lookup y=some .free) (hN:(bN X.N x ix).Nodup)
  (T:Turn X.prog X.w X.K (.Name x px) J fp it tn) (st:tn 0 s.heap) (hf:∀b∈fp,FpOk X pins H b)
  (he:∀cl C s₀ H₀ fp,PE (J7 X scope cl C (bN X.N x ix) s₀ H₀ fp) elt te)
  (hi:∀cl C s₀ H₀ fp,PIfs (J7 X scope cl C (bN X.N x ix) s₀ H₀ fp) ifs tt)
  (W:Nat->Nat->List V->Hp->Prop) (m₀:Nat) (w0:W 0 m₀ [] H)
  (turn:∀i m ys H,W i m ys H->(J.stop i H/\ys.length<=sizeLine/\G ys H)\/(J.go i H/\ys.length<sizeLine/\∀v H',J.yld i H v H' ->
    tt (bS σ (some v) ix) H' λb H1=>if b=true then te (bS σ (some v) ix) H1 λy H2=>∃m',m' < m/\W (i+1) m' (ys++[y]) H2 else ∃m',m' < m/\W (i+1) m' ys H1))
  (hRR:∀D C s' ys H',Inv X pins σ (upd H' D (.lst ys)) s'->H' D=none->H' C=none->(∃m,s'.heap.Ns C m)->s.heap.objs.size<=C->D≠C->G ys H'->RR (.ref D) C (.ok .next) s') :
  wpAny (model X.prog X.w) X.A (newList []) (λacc s₃=>wpAny (model X.prog X.w) X.A (newFunctionEnv scope X.env.globals cl [] X.env.qual none .none (some X.env)) (λcenv s₄ =>
   codeAny (model X.prog X.w) X.A (.compStart (.ListComp elt [⟨.Name x px,iter,ifs,0⟩] scope pos) 0 (.ref it) acc { cenv with scope:=relabel scope X.env }) (RR acc cenv.locals) s₄) E s₃) E s :=
 Qe8 (ts:=[x]) (gt:=Qk9 0) I hc B h1 h3 hix hN T st hf (λcl C s₀ H₀ fp=>Qdd hN rfl (.inl (lookup_relabel_local B.lx)) (.inr (lookup_relabel_local B.lx))) he hi W m₀ w0 (λi m ys H hw=>(turn i m ys H hw).imp id λ⟨a,b,c⟩=>⟨a,b,λv H' hy o ho=>by
  match o,ho with
  | [o],_=>exact ⟨[some v],rfl,rfl,c v H' hy⟩⟩) hRR
def Quv (wi:TI) (tt:TT) (te:TE) (ix:List Nat):TE:=λσ H Q=>wi σ H λJ H1=>∃(W:Nat->Nat->List V->Hp->Prop) (m₀:Nat),W 0 m₀ [] H1 /\
 ∀i m ys H,W i m ys H->(J.stop i H/\ys.length<=sizeLine/\∀l,H l=none->Q (.ref l) (upd H l (.lst ys)))\/(J.go i H/\ys.length<sizeLine/\∀v H',J.yld i H v H' ->
  tt (bS σ (some v) ix) H' λb H1=>if b=true then te (bS σ (some v) ix) H1 λy H2=>∃m',m' < m/\W (i+1) m' (ys++[y]) H2 else ∃m',m' < m/\W (i+1) m' ys H1)
theorem Qdu (I:Inv X pins σ H s) (B:BlkScope X.env scope x):∀y∈scope.names,y.2=.free->∃c,X.env.cells.lookup y.1=some c :=
 λy hy hf=>I.ok.has y.1 (B.free y hy hf)
theorem Inv.blkGone {s₀:Shared} {H₀:Hp} {σ₀:St} (I₀:Inv X pins σ₀ H₀ s₀) (I:Inv X pins σ H s) (hC:s₀.heap.objs.size<=C) (hn:H C=none) (hs:Heap.SameBut C s.heap h'):Inv X pins σ H { s with heap:=h' } :=
 I.turned (t':=s.toks) (it:=C) (λb o hb e=>(hs.2 b hb).trans e) hn (Nat.ne_of_gt (Nat.lt_of_lt_of_le I₀.lt hC)) (.inr (Nat.le_trans I₀.sz hC))
  (λx c e=>by obtain ⟨v,z⟩:=I₀.cell x c e;exact Nat.ne_of_lt (Nat.lt_of_lt_of_le z.lt hC)) (λp hp=>Nat.ne_of_lt (Nat.lt_of_lt_of_le (Heap.lt_size (I₀.pin p hp).1) hC))
theorem Qsf (ix:List Nat) (hc:X.calm=true) (B:BlkScope X.env scope x)
  (hix:∀i∈ix,∃y,X.N[i]? = some y/\scope.names.lookup y=some .free) (hN:(bN X.N x ix).Nodup) (hi:PI X (.Name x px) iter wi)
  (ht:∀cl C s₀ H₀ fp,PIfs (J7 X scope cl C (bN X.N x ix) s₀ H₀ fp) ifs tt)
  (he:∀cl C s₀ H₀ fp,PE (J7 X scope cl C (bN X.N x ix) s₀ H₀ fp) elt te)
  (hs:∀x,foldedSetIterable iter X.env x=pure x:=by intro _;rfl) :
  PE X (.ListComp elt [⟨.Name x px,iter,ifs,0⟩] scope pos) (Quv wi tt te ix):=by
 intro pins s σ H Q I h
 obtain ⟨cl,hcl,h1,h3⟩:=Uu (Qdu I B)
 rw [eval_ListComp]
 refine wpAny_comprehension_free (use:=none) rfl hs hcl B.kind B.names (thn (hi pins s σ H _ I h) λv s1 h1'=>thn h1' λitv s2 h2=>?_)
 obtain ⟨it,fp,tn,J,H2,e,I2,T,st2,f2,W,m0,w0,turn⟩:=h2
 subst e
 refine Qok (G:=λys H'=>∀l,H' l=none->Q (.ref l) (upd H' l (.lst ys))) I2 hc B h1 h3 hix hN T st2 f2 he ht W m0 w0 turn λD C s' ys H' I' hD hC hm hCs hDC g=>?_
 obtain ⟨m,hm⟩:=hm
 refine ⟨m,hm,λh' hsb=>⟨.ref D,upd H' D (.lst ys),I2.blkGone I' hCs (by rw [Qk (Ne.symm hDC)];exact hC) hsb,rfl,g D hD⟩⟩
theorem Inv.turnNew {T:Addr} (I:Inv X pins σ H s) (hT:s.heap.objs.size<=T)
  (k:∀b u,b∉ch->s.heap.get? b=some u->h'.get? b=some u) (hch:∀b∈ch,FpOk X pins H b) (new:Ye X.prog X.w (upd H T o) h' T o):Inv X pins σ (upd H T o) { s with heap:=h',toks:=t' }:=by
 have hn:H T=none:=I.hok.fresh hT
 have hg:s.heap.get? T=none:=by
  cases e:s.heap.get? T with
  | none=>rfl
  | some u=>exact absurd (Heap.lt_size e) (Nat.not_lt.mpr hT)
 have u:Un (frs X.stack) ch H H s.heap h':=⟨λb q e _ _ hx=>k b q hx e,λb q e _ _ hx=>⟨q.slots,k b q hx e⟩,λb q e n _=>n,λb q e hx=>⟨q,k b q hx e⟩,λ_ _ e=>e,λ_ _ _ e=>e,λb ps e=>⟨#[],by rw [Array.append_empty];exact e⟩⟩
 have hok:HOk X.prog X.w H h':=λb q e=>(I.hok b q e).stay (λc v hc z=>k c v (λm=>by
  have q1:=(hch c m).1
  rcases hc with rfl | hc
  ·rw [q1] at e;cases e
  ·rw [q1] at hc;cases hc) z) (λ_ z=>z) λ_ _ z=>z
 exact I.call' (s':={ s with heap:=h',toks:=t' }) rfl (u.add hg hn) (hok.add hn new) I.bare λb hb=>⟨(hch b hb).2.2.2.1,(hch b hb).2.1,(hch b hb).2.2.2.2.1,(hch b hb).2.2.2.2.2⟩
theorem Inv.turnAll (I:Inv X pins σ H s)
  (k:∀b u,b∉ch->s.heap.get? b=some u->h'.get? b=some u) (hch:∀b∈ch,FpOk X pins H b):Inv X pins σ H { s with heap:=h',toks:=t' }:=by
 have u:Un (frs X.stack) ch H H s.heap h':=⟨λb q e _ _ hx=>k b q hx e,λb q e _ _ hx=>⟨q.slots,k b q hx e⟩,λb q e n _=>n,λb q e hx=>⟨q,k b q hx e⟩,λ_ _ e=>e,λ_ _ _ e=>e,λb ps e=>⟨#[],by rw [Array.append_empty];exact e⟩⟩
 have hok:HOk X.prog X.w H h':=λb q e=>(I.hok b q e).stay (λc v hc z=>k c v (λm=>by
  have q1:=(hch c m).1
  rcases hc with rfl | hc
  ·rw [q1] at e;cases e
  ·rw [q1] at hc;cases hc) z) (λ_ z=>z) λ_ _ z=>z
 exact I.call' (s':={ s with heap:=h',toks:=t' }) rfl u hok I.bare λb hb=>⟨(hch b hb).2.2.2.1,(hch b hb).2.1,(hch b hb).2.2.2.2.1,(hch b hb).2.2.2.2.2⟩
end L2
variable {d:Nat}
namespace L2
open PySem PySem.Spec PyProof.Rows
open PySem.W (Dat kqdP kqdPs kqdOk)
mutual
inductive DV (H:Hp):V->Dat->Prop
 | non:DV H .non .none
 | int (i:Int):DV H (.int i) (.int i)
 | str (x:Str):DV H (.str x) (.str x)
 | tup {a:Addr} {xs:List V} {ds:List Dat} (e:H a=some (.tup xs)) (r:DVs H xs ds):DV H (.ref a) (.tuple ds)
 | lst {a:Addr} {xs:List V} {ds:List Dat} (e:H a=some (.lst xs)) (r:DVs H xs ds):DV H (.ref a) (.list ds)
inductive DVs (H:Hp):List V->List Dat->Prop
 | nil:DVs H [] []
 | cons {x:V} {d:Dat} {xs:List V} {ds:List Dat} (h:DV H x d) (r:DVs H xs ds):DVs H (x::xs) (d::ds)
end
mutual
theorem DV.reads {P:Program} {w:World} {H:Hp} {h:Heap} (ok:HOk P w H h):∀{x:V} {d:Dat} {u:Value},DV H x d->RelV x u->∃as,Reads h u (kqdP d) as
 | _,_,_,.non,r=>by cases r;exact ⟨_,by rw [kqdP];exact Reads.none⟩
 | _,_,_,.int i,r=>by obtain ⟨t,rfl⟩:=r;exact ⟨_,by rw [kqdP];exact Reads.int i t⟩
 | _,_,_,.str x,r=>by obtain ⟨t,rfl⟩:=r;exact ⟨_,by rw [kqdP];exact Reads.str x t⟩
 | _,_,_,.tup (a:=a) e q,r=>by
  cases r
  obtain ⟨_,its,rv,o,h1,h2,n,h3⟩:=ok a _ e
  obtain ⟨as,z⟩:=DVs.reads ok q rv
  rw [kqdP]
  exact ⟨as,reads_tuple_at h1 h2 h3 (by simpa using z)⟩
 | _,_,_,.lst (a:=a) e q,r=>by
  cases r
  obtain ⟨_,its,n,rv,h1⟩:=ok a _ e
  obtain ⟨as,z⟩:=DVs.reads ok q rv
  rw [kqdP]
  exact ⟨_,reads_list_at h1 rfl rfl (by simpa using z)⟩
theorem DVs.reads {P:Program} {w:World} {H:Hp} {h:Heap} (ok:HOk P w H h):∀{xs:List V} {ds:List Dat} {us:List Value},DVs H xs ds->Vals xs us->∃as,ReadsAll h us (kqdPs ds) as
 | _,_,_,.nil,r=>by cases r;exact ⟨_,by rw [kqdPs];exact ReadsAll.nil⟩
 | _,_,_,.cons p q,r=>by
  cases r with
  | cons r1 r2 =>
   obtain ⟨as,z⟩:=DV.reads ok p r1
   obtain ⟨bs,y⟩:=DVs.reads ok q r2
   rw [kqdPs]
   exact ⟨_,ReadsAll.cons z y⟩
end
theorem V8 {d:Dat} (h:kqdOk n d=true) (hn:n<=9):SeqAt.shaped (kqdP d)=true:=by
 have l:=PySem.W.kqd_lay n d h
 unfold SeqAt.shaped
 rw [l.1,Bool.true_and]
 exact decide_eq_true (Nat.le_trans l.2 (Nat.le_trans hn (by decide)))
open Classical in
theorem Qlu {d e:Dat} (h:kqdOk n d=true) (h':kqdOk k e=true):PyData.eqv (kqdP d) (kqdP e)=decide (d=e):=by
 have q:=PySem.W.kqd_eqv n d e k h h'
 by_cases hq:d=e
 ·rw [decide_eq_true hq];exact q.mpr hq
 ·rw [decide_eq_false hq];exact Bool.eq_false_iff.mpr λx=>hq (q.mp x)
def rDat (neg:Bool):R2:=λx y H Q=>∃d e n,DV H x d/\DV H y e/\kqdOk n d=true/\kqdOk n e=true/\n<=9/\((d=e->Q (.bl (!neg)) H)/\(d≠e->Q (.bl neg) H))
theorem Qxd (hu:X.A.units+64<cLine):OpR X (compareOp .Eq) (rDat false):=by
 classical
 intro pins s σ H x y v u Q I rx ry h
 obtain ⟨d,e,n,dx,dy,hd,he,hn,q1,q2⟩:=h
 obtain ⟨as,ra⟩:=dx.reads I.hok rx
 obtain ⟨bs,rb⟩:=dy.reads I.hok ry
 refine eq_dataH ra rb (V8 hd hn) (V8 he hn) hu ?_
 rw [Qlu hd he]
 by_cases hq:d=e
 ·rw [decide_eq_true hq];exact ⟨.bl true,H,I,rfl,q1 hq⟩
 ·rw [decide_eq_false hq];exact ⟨.bl false,H,I,rfl,q2 hq⟩
theorem Qw9 (hu:X.A.units+64<cLine):OpR X (compareOp .NotEq) (rDat true):=by
 classical
 intro pins s σ H x y v u Q I rx ry h
 obtain ⟨d,e,n,dx,dy,hd,he,hn,q1,q2⟩:=h
 obtain ⟨as,ra⟩:=dx.reads I.hok rx
 obtain ⟨bs,rb⟩:=dy.reads I.hok ry
 refine ne_dataH ra rb (V8 hd hn) (V8 he hn) hu ?_
 rw [Qlu hd he]
 by_cases hq:d=e
 ·rw [decide_eq_true hq];exact ⟨.bl false,H,I,rfl,q1 hq⟩
 ·rw [decide_eq_false hq];exact ⟨.bl true,H,I,rfl,q2 hq⟩
theorem Qgp:Vf X (.builtin "isinstance") (λxs H Q=>∃x T t b,xs=[x,.ty T]/\TyOf X.K H x (.type t)/\kitOne X.K (.type t) (.type T)=some b/\Q (.bl b) H):=by
 intro pins s σ H xs us Q I r h
 obtain ⟨x,T,t,b,rfl,ty,e,q⟩:=h
 obtain ⟨u,c,rfl,ru,rc⟩:=Qhy r
 cases (show c=Value.type T from rc)
 exact Qky I ru ty e λtk=>⟨.bl b,H,I.tok _,rfl,q⟩
end L2
namespace SortT
open PySem PySem.W PyProof.Rows
structure Ord (f:Nat->Nat->Bool):Prop where
 asym:∀i j,f i j=true->f j i=false
 tr:∀i j k,f j i=false->f k j=false->f k i=false
section
variable {f:Nat->Nat->Bool} (O:Ord f)
def Le (f:Nat->Nat->Bool) (i j:Nat):Prop:=f j i=false
include O in
abbrev at_ (p:Array Nat) (i:Nat):Nat:=p.getD i 0
def Up (f:Nat->Nat->Bool) (p:Array Nat) (k:Nat):Prop:=∀a b,a<=b->b<k->Le f (at_ p a) (at_ p b)
end
end SortT
namespace L2
open PySem PySem.Spec PyProof.Rows
theorem Ye.there (x:Ye P w H h a o):∃ob,h.get? a=some ob:=by
 cases o with
 | lst xs=>obtain ⟨_,_,_,_,e⟩:=x;exact ⟨_,e⟩
 | tup xs=>obtain ⟨_,_,_,o,e,_⟩:=x;exact ⟨_,e⟩
 | dK kvs=>obtain ⟨_,_,_,_,o,_,_,e,_⟩:=x;exact ⟨_,e⟩
 | dT kvs=>obtain ⟨_,_,_,_,o,_,_,e,_⟩:=x;exact ⟨_,e⟩
 | set S n=>obtain ⟨o,_,_,_,e,_⟩:=x;exact ⟨_,e⟩
 | ins C dx fs=>obtain ⟨_,_,_,e,_⟩:=x;exact ⟨_,e⟩
 | own y=>exact x
 | xd fs=>obtain ⟨_,⟨_,_,_,e,_⟩,_⟩:=x;exact ⟨_,e⟩
 | rng lo hi=>obtain ⟨_,_,_,e⟩:=x;exact ⟨_,e⟩
 | frz ob u=>obtain ⟨e,_⟩:=x;exact ⟨_,e⟩
 | tbl ps=>obtain ⟨_,e,_⟩:=x;exact ⟨_,e⟩
 | met f y=>exact ⟨_,(show h.get? a=some _ from x)⟩
 | ext φ=>obtain ⟨_,e,_⟩:=x;exact e
end L2
variable {t:PySem.Addr}
namespace HT
open PySem PySem.Spec PyProof.Rows L2
theorem Qon {ws:List Value} (ht:IsTup s.heap t ([]:List Value).toArray) (hb:IsTup s.heap b ws.toArray) (h1:Q (.ref b) s):wpAny (model prog w) A (binaryOp .Add (.ref t) (.ref b)) Q E s:=by
 obtain ⟨⟨cls,dd,data,sl⟩,ho,hc,n,hd⟩:=id ht
 obtain ⟨⟨cls2,dd2,data2,sl2⟩,ho2,hc2,n2,hd2⟩:=id hb
 simp only at hc hd hc2 hd2
 subst hc hd hc2 hd2
 exact concat_meets ⟨_,ho,rfl⟩ ⟨_,ho2,rfl⟩ noFill_tuple_add seq_tuple_add PySem.F.slot_tuple_add PySem.F.entry_tuple_add (PySem.F.args_tuple_add_2 _ _)
   (tuple_addW0 t b ([]:List Value).toArray ws.toArray n n2 dd dd2 sl sl2 rfl) ⟨ho,ho2,h1⟩
theorem Ur {lo:Option Int} (ht:IsTup s.heap t items) (hs:s.heap.IsSliceOf sl vl vu .none) (pl:IsPart vl lo) (pu:IsPart vu hi)
  (hw:sIx items.size 0 lo=0/\sIx items.size items.size hi=items.size)
  (h:Q (.ref t) s):wpAny (model prog w) A (getItem (.ref t) (.ref sl)) Q E s:=by
 obtain ⟨os,hos,hcs,hds⟩:=id hs
 have hTs:s.TypeIs (.ref sl) "slice":=⟨os,hos,hcs⟩
 unfold getItem
 try with_reducible refine wpAny_holding ?_
 first | refine wpAny_bind (wpAny_pure ?_) | skip
 refine wpAny_bind (wpAny_sequenceKey ht.typeIs (by decide) ?_)
 refine wpAny_bind (wpAny_callSpecial?_slot (name:=Str.ofString "__getitem__") ht.typeIs PyProof.Rows.slot_tuple_getitem
  (wpAny_call_entry PyProof.Rows.slot_tuple_getitem ht.typeIs entry_tuple_getitem ?_ (args_tuple_getitem _ _)))
 show wpAny _ _ (Builtin.Tuple.tupleItemsOf (.ref t) >>= _) _ _ s
 refine wpAny_bind (tupleItemsOf_ ht ?_)
 refine wpAny_bind (wpAny_typeOf hTs ?_)
 rw [if_pos (by decide)]
 refine wpAny_bind (Vn hs pl pu ?_)
 have hyes:(((sIx items.size 0 lo:Nat):Int) == 0 && (1:Int) == 1 && (sIx items.size items.size hi-sIx items.size 0 lo) == items.size)=true:=by
  rw [hw.1,hw.2];simp
 show wpAny _ _ (if (((sIx items.size 0 lo:Nat):Int) == 0 && (1:Int) == 1 && (sIx items.size items.size hi-sIx items.size 0 lo) == items.size)=true then _ else _) _ _ s
 rw [if_pos hyes]
 refine wpAny_bind (wpAny_bind (wpAny_typeOf ht.typeIs (wpAny_pure ?_)))
 rw [if_pos (by decide)]
 refine wpAny_bind (wpAny_rule ?_)
 first
  | exact wpAny_bind (wpAny_pure (wpAny_pure ⟨_,rfl,wpAny_pure h⟩))
  | exact wpAny_pure ⟨_,rfl,wpAny_pure h⟩
  | exact wpAny_bind (wpAny_pure ⟨_,rfl,wpAny_pure h⟩)
end HT
variable {o:PySem.Obj}
namespace L2
open PySem PySem.Spec PyProof.Rows
def Q0z (K:Frag):R2:=λx y H Q=>∃a b ys,x=.ref a/\y=.ref b/\SqT K H a []/\SqT K H b ys/\Q (.ref b) H
theorem Qsm:OpR X (binaryOp .Add) (Q0z X.K):=by
 intro pins s σ H x y v u Q I rx ry h
 obtain ⟨a,b,ys,rfl,rfl,ha,hb,q⟩:=h
 cases rx
 cases ry
 obtain ⟨its,r1,p1,_⟩:=I.tuple ha
 obtain ⟨its2,r2,p2,_⟩:=I.tuple hb
 have:its=[]:=by cases r1;rfl
 subst this
 exact HT.Qon p1 p2 ⟨.ref b,H,I,rfl,q⟩
def rSlW (K:Frag):V->Option Int->Option Int->Hp->VK->Prop:=λx lo hi H Q=>∃a xs,x=.ref a/\SqT K H a xs /\
 (HT.sIx xs.length 0 lo=0/\HT.sIx xs.length xs.length hi=xs.length)/\Q (.ref a) H
theorem Qqr:SlR X (rSlW X.K):=by
 intro pins s σ H x v vl vu lo hi sl Q I rx hs pl pu h
 obtain ⟨a,xs,rfl,hx,hw,q⟩:=h
 cases rx
 obtain ⟨its,r,ht,hz⟩:=I.tuple hx
 have hlen:its.toArray.size=xs.length:=by rw [List.size_toArray];exact r.length.symm
 refine ⟨"tuple",_,PyProof.Rows.slot_tuple_getitem.lookup,ht.typeIs,?_⟩
 exact HT.Ur ht hs pl pu (by rw [hlen];exact hw) ⟨.ref a,H,I,rfl,q⟩
theorem Qhv:bootBuiltins "zip" = some (.type "zip"):=by decide +kernel
def isN (n:Int):Value->Bool
 | .int m _=>m == n
 | _=>false
def Qje (ts:List Str) (wi:TI) (gt:TG) (tt:TT) (te:TE) (ix:List Nat):TE:=λσ H Q=>wi σ H λJ H1=>∃(W:Nat->Nat->List V->Hp->Prop) (m₀:Nat),W 0 m₀ [] H1 /\
 ∀i m ys H,W i m ys H->(J.stop i H/\ys.length<=sizeLine/\∀l,H l=none->Q (.ref l) (upd H l (.lst ys)))\/(J.go i H/\ys.length<sizeLine/\∀v H',J.yld i H v H'->∀o:List (Option V),o.length=ts.length->gt v (bS2 σ o ix) H' λσ2 H2=>∃o2:List (Option V),σ2=bS2 σ o2 ix/\o2.length=ts.length /\
  tt σ2 H2 λb H1=>if b=true then te σ2 H1 λy H2=>∃m',m' < m/\W (i+1) m' (ys++[y]) H2 else ∃m',m' < m/\W (i+1) m' ys H1)
theorem Qnm (ix:List Nat) (hc:X.calm=true) (B:BlkScope X.env scope x)
  (hix:∀i∈ix,∃y,X.N[i]? = some y/\scope.names.lookup y=some .free) (hN:(bN2 X.N ts ix).Nodup) (hi:PI X tg iter wi)
  (hg:∀cl C s₀ H₀ fp,PG (J7 X scope cl C (bN2 X.N ts ix) s₀ H₀ fp) tg gt)
  (ht:∀cl C s₀ H₀ fp,PIfs (J7 X scope cl C (bN2 X.N ts ix) s₀ H₀ fp) ifs tt)
  (he:∀cl C s₀ H₀ fp,PE (J7 X scope cl C (bN2 X.N ts ix) s₀ H₀ fp) elt te)
  (hs:∀x,foldedSetIterable iter X.env x=pure x:=by intro _;rfl) :
  PE X (.ListComp elt [⟨tg,iter,ifs,0⟩] scope pos) (Qje ts wi gt tt te ix):=by
 intro pins s σ H Q I h
 obtain ⟨cl,hcl,h1,h3⟩:=Uu (Qdu I B)
 rw [eval_ListComp]
 refine wpAny_comprehension_free (use:=none) rfl hs hcl B.kind B.names (thn (hi pins s σ H _ I h) λv s1 h1'=>thn h1' λitv s2 h2=>?_)
 obtain ⟨it,fp,tn,J,H2,e,I2,T,st2,f2,W,m0,w0,turn⟩:=h2
 subst e
 refine Qe8 (G:=λys H'=>∀l,H' l=none->Q (.ref l) (upd H' l (.lst ys))) I2 hc B h1 h3 hix hN T st2 f2 hg he ht W m0 w0 turn λD C s' ys H' I' hD hC hm hCs hDC g=>?_
 obtain ⟨m,hm⟩:=hm
 refine ⟨m,hm,λh' hsb=>⟨.ref D,upd H' D (.lst ys),I2.blkGone I' hCs (by rw [Qk (Ne.symm hDC)];exact hC) hsb,rfl,g D hD⟩⟩
end L2
variable {xs ys:Array PySem.Value} {i l:Nat} {y:PySem.Str}
namespace HT
open PySem PySem.Spec PyProof.Rows L2
theorem Qcs (x:h.IsTupleIter a t i) (k:∀o,h.get? a=some o->h'.get? a=some o):h'.IsTupleIter a t i:=let ⟨o,ho,r⟩:=x;⟨o,k o ho,r⟩
theorem Xd {x:Value} (hit:s.heap.IsTupleIter it t i)
  (hl:s.heap.IsTuple t items) (hx:items[i]? = some x)
  (hQ:∀h',h'.IsTupleIter it t (i+1)->Heap.SameBut it s.heap h'->Q x { s with heap:=h' }) :
  wpAny (model prog w) A (Builtin.SmallTypes.nextOf (.ref it)) Q E s:=by
 obtain ⟨o,ho,hc,hd⟩:=id hit
 obtain ⟨ol,hol,_,nl,hdl⟩:=hl
 unfold Builtin.SmallTypes.nextOf
 refine wpAny_bind (wpAny_callSpecial?_slot (name:=Str.ofString "__next__") hit.typeIs F.slot_tuple_iterator_next
  (wpAny_call_entry F.slot_tuple_iterator_next hit.typeIs F.entry_tuple_iterator_next ?_ (F.args_tuple_iterator_next_1 _)))
 show wpAny _ _ (field (.ref it) 0 >>= _) _ _ s
 refine wpAny_bind (wpAny_field ho hd (x:=.ref t) rfl ?_)
 show wpAny _ _ (if (Value.ref t == Value.none)=true then _ else _) _ _ s
 rw [if_neg (show ¬((Value.ref t == Value.none)=true) from Bool.false_ne_true)]
 show wpAny _ _ (field (.ref it) 1 >>= _) _ _ s
 refine wpAny_bind (wpAny_field ho hd (x:=.int i 0) rfl ?_)
 show wpAny _ _ (seqItems? (.ref t) >>= _) _ _ s
 refine wpAny_bind (wpAny_seqItems hol hdl ?_)
 simp only [Int.toNat_natCast,hx]
 refine wpAny_bind (wpAny_setField ho hd (by simp) (wpAny_pure ⟨x,rfl,wpAny_pure (hQ _ ?_ (Heap.SameBut.update ..))⟩))
 exact ⟨_,Heap.get?_update_self _ ho (Obj.isFreed_of_fields (Obj.data_mapFields hd _)),(Obj.cls_mapFields ..).trans hc,by
  rw [Obj.data_mapFields hd];simp [rawInt]⟩
theorem Gj (hh:A.handled=none)
  (hit:s.heap.IsTupleIter it t i) (hl:s.heap.IsTuple t items) (hx:items[i]? = none)
  (hE:∀h' e,Heap.ExtBut it s.heap h'->(∃o,h'.get? e=some o/\o.cls=.type "StopIteration")->E (.ref e) { s with heap:=h' }) :
  wpAny (model prog w) A (Builtin.SmallTypes.nextOf (.ref it)) Q E s:=by
 obtain ⟨o,ho,hc,hd⟩:=id hit
 obtain ⟨ol,hol,_,nl,hdl⟩:=hl
 unfold Builtin.SmallTypes.nextOf
 refine wpAny_bind (wpAny_callSpecial?_slot (name:=Str.ofString "__next__") hit.typeIs F.slot_tuple_iterator_next
  (wpAny_call_entry F.slot_tuple_iterator_next hit.typeIs F.entry_tuple_iterator_next ?_ (F.args_tuple_iterator_next_1 _)))
 show wpAny _ _ (field (.ref it) 0 >>= _) _ _ s
 refine wpAny_bind (wpAny_field ho hd (x:=.ref t) rfl ?_)
 show wpAny _ _ (if (Value.ref t == Value.none)=true then _ else _) _ _ s
 rw [if_neg (show ¬((Value.ref t == Value.none)=true) from Bool.false_ne_true)]
 show wpAny _ _ (field (.ref it) 1 >>= _) _ _ s
 refine wpAny_bind (wpAny_field ho hd (x:=.int i 0) rfl ?_)
 show wpAny _ _ (seqItems? (.ref t) >>= _) _ _ s
 refine wpAny_bind (wpAny_seqItems hol hdl ?_)
 simp only [Int.toNat_natCast,hx]
 refine wpAny_bind (wpAny_rule (wpAny_bind (wpAny_setField ho hd (by simp) ?_)))
 show wpAny _ _ (newExc (.type "StopIteration") [] >>= _) _ _ _
 refine wpAny_bind ?_
 simp only [newExc,newTuple]
 refine wpAny_bind (wpAny_newObj_type ?_ (by size_fits))
 refine wpAny_bind (m:=firstArgMember _ _) (wpAny_of_eq (a:=Value.none) (by first | rfl | (simp only [firstArgMember];rfl)) ?_)
 refine wpAny_newObj_type ?_ (by size_fits)
 simp only [raiseNew]
 refine wpAny_bind (wpAny_handled ?_)
 first | rw [show A.in1.handled=none from hh] | rw [hh]
 refine wpAny_bind (wpAny_pure (wpAny_throw ?_))
 exact hE _ _ (((Heap.SameBut.update ..).extBut.push _).push _) ⟨_,Heap.get?_push_size _ rfl,rfl⟩
structure ZipT (h:Heap) (n d l:Nat) (i:Nat):Prop where
 z:IsZip h (n+4) (n+2) (n+3) .none
 ti:IsPair h (n+2) (.ref n) (.ref (n+1))
 to:∃a b,IsPair h (n+3) a b
 k:h.IsTupleIter n d i
 l:h.IsTupleIter (n+1) l i
theorem Qiu {x y:Value} (hd:d<n) (hl:l<n)
  (Z:ZipT s.heap n d l i) (hm:s.heap.IsTuple d xs) (hl2:s.heap.IsTuple l ys) (hx:xs[i]? = some x) (hy:ys[i]? = some y)
  (hQ:∀h',IsZip h' (n+4) (n+2) (n+3) (rawInt s.heap.objs.size)->IsPair h' (n+3) x y->h'.IsTupleIter n d (i+1)->h'.IsTupleIter (n+1) l (i+1)->IsPair h' s.heap.objs.size x y ->
   (∀c o,c≠n+4->c≠n+3->c≠n->c≠n+1->s.heap.get? c=some o->h'.get? c=some o)->Q (.ref s.heap.objs.size) { s with heap:=h' }) :
  wpAny (model prog w) A (Builtin.«zip.__next__» ⟨[.ref (n+4)],[]⟩) (λfin s'=>∃v,fin=.done (.ret v)/\Q v s') E s:=by
 obtain ⟨hz,hTI,⟨a,b,hTO⟩,h1,h2⟩:=Z
 show wpAny _ _ (field (.ref (n+4)) 2 >>= _) _ _ _
 refine wpAny_bind (wpAny_field hz rfl (x:=.bool false) rfl ?_)
 show wpAny _ _ (field (.ref (n+4)) 3 >>= _) _ _ _
 refine wpAny_bind (wpAny_field hz rfl (x:=.ref (n+2)) rfl ?_)
 refine wpAny_bind (wpAny_seqItems hTI rfl ?_)
 show wpAny _ _ (Builtin.SmallTypes.ownedTupleIsFree (.ref (n+4)) >>= _) _ _ _
 refine wpAny_bind ?_
 unfold Builtin.SmallTypes.ownedTupleIsFree
 refine wpAny_bind (wpAny_field hz rfl (x:=.none) rfl (wpAny_pure ?_))
 simp only [if_true]
 refine wpAny_bind (wpAny_rule ?_)
 refine wpAny_bind (wpAny_field hz rfl (x:=.ref (n+3)) rfl ?_)
 refine wpAny_bind (wpAny_setField_rec hz (by simp) λh₁ hz₁ hs₁=>?_)
 replace hz₁:IsZip h₁ (n+4) (n+2) (n+3) .ellipsis:=hz₁
 refine wpAny_bind ?_
 simp only [List.zipIdx_cons,List.zipIdx_nil,List.forIn_cons,List.forIn_nil]
 refine wpAny_bind (wpAny_bind (wpAny_onRaise ?_))
 show wpAny _ _ (Builtin.SmallTypes.nextOf (.ref n) >>= _) _ _ _
 refine wpAny_bind (Xd (h1.extBut hs₁.extBut (by show @Ne Nat _ _;omega)) (hm.extBut hs₁.extBut (by show @Ne Nat _ _;omega)) hx λh₂ h1₂ hs₂=>wpAny_pure ?_)
 have hTO₂:IsPair h₂ (n+3) a b:=hs₂.extBut _ _ (by show @Ne Nat _ _;omega) (hs₁.extBut _ _ (by show @Ne Nat _ _;omega) hTO)
 refine wpAny_bind (wpAny_seqItems hTO₂ rfl ?_)
 refine wpAny_bind (wpAny_updateSeq_pair hTO₂ λh₃ hTO₃ hs₃=>?_)
 replace hTO₃:IsPair h₃ (n+3) x b:=hTO₃
 refine wpAny_bind (wpAny_letGo (wpAny_pure ?_))
 refine wpAny_bind (wpAny_bind (wpAny_onRaise ?_))
 show wpAny _ _ (Builtin.SmallTypes.nextOf (.ref (n+1)) >>= _) _ _ _
 refine wpAny_bind (Xd (((h2.extBut hs₁.extBut (by show @Ne Nat _ _;omega)).extBut hs₂.extBut (by show @Ne Nat _ _;omega)).extBut hs₃.extBut (by show @Ne Nat _ _;omega))
  (((hl2.extBut hs₁.extBut (by show @Ne Nat _ _;omega)).extBut hs₂.extBut (by show @Ne Nat _ _;omega)).extBut hs₃.extBut (by show @Ne Nat _ _;omega)) hy λh₄ h2₄ hs₄=>wpAny_pure ?_)
 have hTO₄:IsPair h₄ (n+3) x b:=hs₄.extBut _ _ (by show @Ne Nat _ _;omega) hTO₃
 refine wpAny_bind (wpAny_seqItems hTO₄ rfl ?_)
 refine wpAny_bind (wpAny_updateSeq_pair hTO₄ λh₅ hTO₅ hs₅=>?_)
 replace hTO₅:IsPair h₅ (n+3) x y:=hTO₅
 refine wpAny_bind (wpAny_letGo (wpAny_pure (wpAny_pure ?_)))
 refine wpAny_bind (wpAny_seqItems hTO₅ rfl ?_)
 refine wpAny_bind (wpAny_newTuple ?_)
 have hsz:h₅.objs.size=s.heap.objs.size:=by rw [hs₅.1,hs₄.1,hs₃.1,hs₂.1,hs₁.1]
 have hz₅:IsZip h₅ (n+4) (n+2) (n+3) .ellipsis:=hs₅.extBut _ _ (by show @Ne Nat _ _;omega) (hs₄.extBut _ _ (by show @Ne Nat _ _;omega) (hs₃.extBut _ _ (by show @Ne Nat _ _;omega) (hs₂.extBut _ _ (by show @Ne Nat _ _;omega) hz₁)))
 have hk₅:∀c o,c≠n+4->c≠n+3->c≠n->c≠n+1->s.heap.get? c=some o->h₅.get? c=some o:=λc o c1 c2 c3 c4 e =>
  hs₅.extBut _ _ c2 (hs₄.extBut _ _ c4 (hs₃.extBut _ _ c2 (hs₂.extBut _ _ c3 (hs₁.extBut _ _ c1 e))))
 have h1₅:h₅.IsTupleIter n d (i+1):=((h1₂.extBut hs₃.extBut (by show @Ne Nat _ _;omega)).extBut hs₄.extBut (by show @Ne Nat _ _;omega)).extBut hs₅.extBut (by show @Ne Nat _ _;omega)
 have h2₅:h₅.IsTupleIter (n+1) l (i+1):=h2₄.extBut hs₅.extBut (by show @Ne Nat _ _;omega)
 have hzlt:n+4<h₅.objs.size:=Heap.lt_size hz₅
 show wpAny _ _ (Builtin.SmallTypes.ownedTupleHandOut (.ref (n+4)) (.ref h₅.objs.size) >>= _) _ _ _
 refine wpAny_bind ?_
 unfold Builtin.SmallTypes.ownedTupleHandOut
 have hz₆:IsZip (h₅.push { cls:=.type "tuple",data:=.seq #[x,y] }) (n+4) (n+2) (n+3) .ellipsis:=Heap.get?_push_of_some _ hz₅
 refine wpAny_bind (wpAny_setField_rec hz₆ (by simp) λh₇ hz₇ hs₇=>?_)
 replace hz₇:IsZip h₇ (n+4) (n+2) (n+3) (rawInt h₅.objs.size):=hz₇
 refine wpAny_setField_rec hz₇ (by simp) λh₈ hz₈ hs₈=>?_
 replace hz₈:IsZip h₈ (n+4) (n+2) (n+3) (rawInt h₅.objs.size):=hz₈
 have up:∀c o,c≠n+4->h₅.get? c=some o->h₈.get? c=some o:=λc o c1 e=>hs₈.extBut _ _ c1 (hs₇.extBut _ _ c1 (Heap.get?_push_of_some _ e))
 have hT₈:IsPair h₈ h₅.objs.size x y:=hs₈.extBut _ _ (Nat.ne_of_gt hzlt) (hs₇.extBut _ _ (Nat.ne_of_gt hzlt) (Heap.get?_push_size _ rfl))
 rw [hsz] at hz₈ hT₈
 refine wpAny_pure ⟨_,rfl,?_⟩
 show Q (.ref h₅.objs.size) _
 rw [hsz]
 exact hQ h₈ hz₈ (up _ _ (by show @Ne Nat _ _;omega) hTO₅) (Qcs h1₅ λo e=>up _ o (by show @Ne Nat _ _;omega) e) (Qcs h2₅ λo e=>up _ o (by show @Ne Nat _ _;omega) e) hT₈ λc o c1 c2 c3 c4 e=>up c o c1 (hk₅ c o c1 c2 c3 c4 e)
theorem Qmm {Q:Fin->Shared->Prop} (hh:A.handled=none) (hd:d<n) (hl:l<n)
  (Z:ZipT s.heap n d l i) (hm:s.heap.IsTuple d xs) (hl2:s.heap.IsTuple l ys) (hend:xs[i]? = none\/ys[i]? = none)
  (hE:∀h' e,(∀c o,c≠n+4->c≠n+3->c≠n->c≠n+1->s.heap.get? c=some o->h'.get? c=some o)->(∃o,h'.get? e=some o/\o.cls=.type "StopIteration")->E (.ref e) { s with heap:=h' }) :
  wpAny (model prog w) A (Builtin.«zip.__next__» ⟨[.ref (n+4)],[]⟩) Q E s:=by
 obtain ⟨hz,hTI,⟨a,b,hTO⟩,h1,h2⟩:=Z
 show wpAny _ _ (field (.ref (n+4)) 2 >>= _) _ _ _
 refine wpAny_bind (wpAny_field hz rfl (x:=.bool false) rfl ?_)
 show wpAny _ _ (field (.ref (n+4)) 3 >>= _) _ _ _
 refine wpAny_bind (wpAny_field hz rfl (x:=.ref (n+2)) rfl ?_)
 refine wpAny_bind (wpAny_seqItems hTI rfl ?_)
 show wpAny _ _ (Builtin.SmallTypes.ownedTupleIsFree (.ref (n+4)) >>= _) _ _ _
 refine wpAny_bind ?_
 unfold Builtin.SmallTypes.ownedTupleIsFree
 refine wpAny_bind (wpAny_field hz rfl (x:=.none) rfl (wpAny_pure ?_))
 simp only [if_true]
 refine wpAny_bind (wpAny_rule ?_)
 refine wpAny_bind (wpAny_field hz rfl (x:=.ref (n+3)) rfl ?_)
 refine wpAny_bind (wpAny_setField_rec hz (by simp) λh₁ hz₁ hs₁=>?_)
 replace hz₁:IsZip h₁ (n+4) (n+2) (n+3) .ellipsis:=hz₁
 refine wpAny_bind ?_
 simp only [List.zipIdx_cons,List.zipIdx_nil,List.forIn_cons,List.forIn_nil]
 refine wpAny_bind (wpAny_bind (wpAny_onRaise ?_))
 show wpAny _ _ (Builtin.SmallTypes.nextOf (.ref n) >>= _) _ _ _
 cases hx:xs[i]? with
 | none =>
  refine wpAny_bind (Gj hh (h1.extBut hs₁.extBut (by show @Ne Nat _ _;omega)) (hm.extBut hs₁.extBut (by show @Ne Nat _ _;omega)) hx λh₂ e hs₂ he=>?_)
  obtain ⟨oe,hoe,hce⟩:=he
  have hz₂:IsZip h₂ (n+4) (n+2) (n+3) .ellipsis:=hs₂ _ _ (by show @Ne Nat _ _;omega) hz₁
  have hez:e≠n+4:=λx=>by subst x;rw [hz₂] at hoe;cases hoe;simp at hce
  refine wpAny_setField_rec hz₂ (by simp) λh₃ _ hs₃=>hE h₃ e (λc o c1 _ c3 _ x=>hs₃.extBut _ _ c1 (hs₂ _ _ c3 (hs₁.extBut _ _ c1 x))) ⟨oe,hs₃.extBut _ _ hez hoe,hce⟩
 | some x =>
  have hy:ys[i]? = none:=by rcases hend with h | h;rw [hx] at h;cases h;exact h
  refine wpAny_bind (Xd (h1.extBut hs₁.extBut (by show @Ne Nat _ _;omega)) (hm.extBut hs₁.extBut (by show @Ne Nat _ _;omega)) hx λh₂ h1₂ hs₂=>wpAny_pure ?_)
  have hTO₂:IsPair h₂ (n+3) a b:=hs₂.extBut _ _ (by show @Ne Nat _ _;omega) (hs₁.extBut _ _ (by show @Ne Nat _ _;omega) hTO)
  refine wpAny_bind (wpAny_seqItems hTO₂ rfl ?_)
  refine wpAny_bind (wpAny_updateSeq_pair hTO₂ λh₃ hTO₃ hs₃=>?_)
  refine wpAny_bind (wpAny_letGo (wpAny_pure ?_))
  refine wpAny_bind (wpAny_bind (wpAny_onRaise ?_))
  show wpAny _ _ (Builtin.SmallTypes.nextOf (.ref (n+1)) >>= _) _ _ _
  refine wpAny_bind (Gj hh (((h2.extBut hs₁.extBut (by show @Ne Nat _ _;omega)).extBut hs₂.extBut (by show @Ne Nat _ _;omega)).extBut hs₃.extBut (by show @Ne Nat _ _;omega))
   (((hl2.extBut hs₁.extBut (by show @Ne Nat _ _;omega)).extBut hs₂.extBut (by show @Ne Nat _ _;omega)).extBut hs₃.extBut (by show @Ne Nat _ _;omega)) hy λh₄ e hs₄ he=>?_)
  obtain ⟨oe,hoe,hce⟩:=he
  have hz₄:IsZip h₄ (n+4) (n+2) (n+3) .ellipsis:=hs₄ _ _ (by show @Ne Nat _ _;omega) (hs₃.extBut _ _ (by show @Ne Nat _ _;omega) (hs₂.extBut _ _ (by show @Ne Nat _ _;omega) hz₁))
  have hez:e≠n+4:=λx=>by subst x;rw [hz₄] at hoe;cases hoe;simp at hce
  refine wpAny_setField_rec hz₄ (by simp) λh₅ _ hs₅=>hE h₅ e (λc o c1 c2 c3 c4 x=>hs₅.extBut _ _ c1 (hs₄ _ _ c4 (hs₃.extBut _ _ c2 (hs₂.extBut _ _ c3 (hs₁.extBut _ _ c1 x))))) ⟨oe,hs₅.extBut _ _ hez hoe,hce⟩
abbrev zt1 (h:Heap) (d:Nat):Heap:=h.push { cls:=.type "tuple_iterator",data:=.fields #[.ref d,.int 0 0] }
abbrev zt2 (h:Heap) (d l:Nat):Heap:=(zt1 h d).push { cls:=.type "tuple_iterator",data:=.fields #[.ref l,.int 0 0] }
abbrev zt3 (h:Heap) (d l:Nat):Heap:=(zt2 h d l).push { cls:=.type "tuple",data:=.seq #[.ref h.objs.size,.ref (zt1 h d).objs.size] }
abbrev zt4 (h:Heap) (d l:Nat):Heap:=(zt3 h d l).push { cls:=.type "tuple",data:=.seq #[.none,.none] }
abbrev zt5 (h:Heap) (d l:Nat):Heap:=(zt4 h d l).push { cls:=.type "zip",data:=.fields #[.none,.bool false,.bool false,.ref (zt2 h d l).objs.size,.ref (zt3 h d l).objs.size] }
theorem Qml :
  Meets (Builtin.«zip.__new__» ⟨[.type "zip",.ref d,.ref l],[]⟩) (λ_ R s=>s.heap.IsTuple d xs/\s.heap.IsTuple l ys /\
   R (.ok (.ret (.ref (zt4 s.heap d l).objs.size))) { s with heap:=zt5 s.heap d l }) :=
 .of_wp λprog w A R s h=>by
  obtain ⟨hp,g,dr,tk,os⟩:=s;obtain ⟨hm,hl2,h⟩:=h
  have hsub:=sub_zip
  have hL1:Heap.IsTuple (Shared.heap ⟨hp,g,dr,tk,os⟩) d xs:=hm
  have hL2:Heap.IsTuple (Shared.heap ⟨hp.push { cls:=.type "tuple_iterator",data:=.fields #[.ref d,.int 0 0] },g,dr,tk,os⟩) l ys:=Heap.IsTuple.push hl2 _
  wp_walk using wpAny_pyIter_tuple hL1,wpAny_pyIter_tuple hL2
  exact ⟨_,rfl,h⟩
theorem Ql7 (hm:s.heap.IsTuple d xs) (hl2:s.heap.IsTuple l ys)
  (h:∀h',ZipT h' s.heap.objs.size d l 0->(∀c o,s.heap.get? c=some o->h'.get? c=some o)->Q (.ref (s.heap.objs.size+4)) { s with heap:=h' }) :
  wpAny (model prog w) A (call (.type "zip") [.ref d,.ref l]) Q E s:=by
 refine callType_new F.called_zip (by decide) (F.typeCall_zip_2 _ _) (F.newCall_zip_2 _ _) (λobj=>F.args_object_init_3 obj _ _) F.entry_zip_new
  (Qml (xs:=xs) (ys:=ys)) ⟨hm,hl2,?_⟩
 have z1:(zt1 s.heap d).objs.size=s.heap.objs.size+1:=Heap.size_push ..
 have z2:(zt2 s.heap d l).objs.size=s.heap.objs.size+2:=by rw [Heap.size_push,z1]
 have z3:(zt3 s.heap d l).objs.size=s.heap.objs.size+3:=by rw [Heap.size_push,z2]
 have z4:(zt4 s.heap d l).objs.size=s.heap.objs.size+4:=by rw [Heap.size_push,z3]
 have g5:(zt5 s.heap d l).get? (zt4 s.heap d l).objs.size=some _:=Heap.get?_push_size _ rfl
 have g4:(zt5 s.heap d l).get? (zt3 s.heap d l).objs.size=some _:=Heap.get?_push_of_some _ (Heap.get?_push_size _ rfl)
 have g3:(zt5 s.heap d l).get? (zt2 s.heap d l).objs.size=some _:=Heap.get?_push_of_some _ (Heap.get?_push_of_some _ (Heap.get?_push_size _ rfl))
 have g2:(zt5 s.heap d l).get? (zt1 s.heap d).objs.size=some _:=Heap.get?_push_of_some _ (Heap.get?_push_of_some _ (Heap.get?_push_of_some _ (Heap.get?_push_size _ rfl)))
 have g1:(zt5 s.heap d l).get? s.heap.objs.size=some _:=Heap.get?_push_of_some _ (Heap.get?_push_of_some _ (Heap.get?_push_of_some _ (Heap.get?_push_of_some _ (Heap.get?_push_size _ rfl))))
 show _/\_
 rw [z2,z3,z4] at g5
 rw [z1,z2] at g3
 rw [z3] at g4
 rw [z1] at g2
 rw [z4]
 exact ⟨⟨_,g5,rfl⟩,h _ ⟨g5,g3,⟨_,_,g4⟩,⟨_,g1,rfl,rfl⟩,⟨_,g2,rfl,rfl⟩⟩ λc o x =>
  Heap.get?_push_of_some _ (Heap.get?_push_of_some _ (Heap.get?_push_of_some _ (Heap.get?_push_of_some _ (Heap.get?_push_of_some _ x))))⟩
end HT
variable {ta:L2.TA} {kt:Nat} {pt:PySem.Pos}
namespace L2
open PySem PySem.Spec PyProof.Rows
def Itzt (K:Frag) (d l:Addr):It :=
  ⟨λi H=>∃xs ys x y,SqT K H d xs/\SqT K H l ys/\xs[i]? = some x/\ys[i]? = some y,
   λi H v H'=>∀xs ys,SqT K H d xs->SqT K H l ys->∃x y p,xs[i]? = some x/\ys[i]? = some y/\v=.ref p/\H p=none/\H'=upd H p (.tup [x,y]),
   λi H=>∃xs ys,SqT K H d xs/\SqT K H l ys/\(xs.length<=i\/ys.length<=i)⟩
theorem Qi6 (n d l:Nat) (hdn:d<n) (hln:l<n) :
  Turn P w K (.Tuple es kt pt) (Itzt K d l) [n+4,n+2,n+3,n,n+1] (n+4) (λi h=>HT.ZipT h n d l i) where
 mem:=by simp
 obj:=λi h st b hb=>by
  obtain ⟨hz,hTI,⟨a,b',hTO⟩,⟨o1,e1,c1,d1⟩,⟨o2,e2,c2,d2⟩⟩:=st
  simp only [List.mem_cons,List.mem_nil_iff,or_false] at hb
  rcases hb with rfl | rfl | rfl | rfl | rfl
  ·exact ⟨_,hz,λv z=>by have z':Data.fields _=Data.cell v:=z;cases z'⟩
  ·exact ⟨_,hTI,λv z=>by have z':Data.seq _ _=Data.cell v:=z;cases z'⟩
  ·exact ⟨_,hTO,λv z=>by have z':Data.seq _ _=Data.cell v:=z;cases z'⟩
  ·exact ⟨o1,e1,λv z=>by rw [d1] at z;cases z⟩
  ·exact ⟨o2,e2,λv z=>by rw [d2] at z;cases z⟩
 keep:=λi h h' st k=>by
  obtain ⟨hz,hTI,⟨a,b,hTO⟩,h1,h2⟩:=st
  exact ⟨k _ (by simp) _ hz,k _ (by simp) _ hTI,⟨a,b,k _ (by simp) _ hTO⟩,HT.Qcs h1 λo e=>k _ (by simp) o e,HT.Qcs h2 λo e=>k _ (by simp) o e⟩
 item:=by
  intro X hP hw hK hc i pins s σ H E I hf st hg
  subst hP hw hK
  obtain ⟨xs,ys,x,y,hq1,hq2,hx,hy⟩:=hg
  obtain ⟨its,rv,p,hz⟩:=I.tuple hq1
  obtain ⟨its2,rv2,p2,hz2'⟩:=I.tuple hq2
  obtain ⟨u,hu,ru⟩:=rv.get hx
  obtain ⟨u',hu',ru'⟩:=rv2.get hy
  have hT:s.TypeIs (.ref (n+4)) "zip":=⟨_,st.z,rfl⟩
  have hlt4:n+4<s.heap.objs.size:=Heap.lt_size st.z
  unfold pyNext
  refine wpAny_bind (wpAny_attempt (wpAny_callSpecial?_slot (name:=Str.ofString "__next__") hT F.slot_zip_next
   (wpAny_call_entry F.slot_zip_next hT F.entry_zip_next (HT.Qiu hdn hln st (show s.heap.IsTuple d its.toArray from p) (show s.heap.IsTuple l its2.toArray from p2) (by simpa using hu) (by simpa using hu') λh' z1 z2 z3 z4 z5 z6=>wpAny_pure ?_) (F.args_zip_next_1 _))))
  refine ⟨_,rfl,wpAny_letOwnedTupleGo_zip z1 λh2 hz2 hs2=>?_⟩
  have hn:H s.heap.objs.size=none:=I.hok.fresh (Nat.le_refl _)
  have hT2:IsPair h2 s.heap.objs.size u u':=hs2.extBut _ _ (Nat.ne_of_gt hlt4) z5
  refine ⟨.ref s.heap.objs.size,upd H s.heap.objs.size (.tup [x,y]),I.turnNew (ch:=[n+4,n+2,n+3,n,n+1]) (t':=s.toks) (Nat.le_refl _) (λb o hb q=>?_) hf ?_,rfl,λxs2 ys2 hy1 hy2=>?_,⟨hz2,?_,⟨u,u',?_⟩,HT.Qcs z3 λo q=>?_,HT.Qcs z4 λo q=>?_⟩,λb hb=>?_⟩
  ·simp only [List.mem_cons,List.mem_nil_iff,or_false,not_or] at hb
   exact hs2.extBut _ _ hb.1 (z6 b o hb.1 hb.2.2.1 hb.2.2.2.1 hb.2.2.2.2 q)
  ·exact ⟨by show 2<=sizeLine;decide,[u,u'],.cons ru (.cons ru' .nil),⟨_,hT2,rfl,_,rfl⟩⟩
  ·rw [I.tuple_inj hy1 hq1,I.tuple_inj hy2 hq2]
   exact ⟨x,y,_,hx,hy,rfl,hn,rfl⟩
  ·exact hs2.extBut _ _ (by show @Ne Nat _ _;omega) (z6 _ _ (by show @Ne Nat _ _;omega) (by show @Ne Nat _ _;omega) (by show @Ne Nat _ _;omega) (by show @Ne Nat _ _;omega) st.ti)
  ·exact hs2.extBut _ _ (by show @Ne Nat _ _;omega) z2
  ·exact hs2.extBut _ _ (by show @Ne Nat _ _;omega) q
  ·exact hs2.extBut _ _ (by show @Ne Nat _ _;omega) q
  ·have hb':b<s.heap.objs.size:=by
    simp only [List.mem_cons,List.mem_nil_iff,or_false] at hb
    have:(b:Nat)<=n+4:=by
     rcases hb with h | h | h | h | h <;> (rw [h];show (_:Nat)<=n+4;omega)
    exact Nat.lt_of_le_of_lt this hlt4
   rw [Qk (Nat.ne_of_lt hb')]
   exact (hf b hb).1
 done:=by
  intro X hP hw hK hc i pins s σ H E I hf st hg
  subst hP hw hK
  obtain ⟨xs,ys,hq1,hq2,hx⟩:=hg
  obtain ⟨its,rv,p,hz⟩:=I.tuple hq1
  obtain ⟨its2,rv2,p2,hz2'⟩:=I.tuple hq2
  have hlen:=rv.length
  have hlen2:=rv2.length
  have hT:s.TypeIs (.ref (n+4)) "zip":=⟨_,st.z,rfl⟩
  unfold pyNext
  refine wpAny_bind (wpAny_attempt (wpAny_callSpecial?_slot (name:=Str.ofString "__next__") hT F.slot_zip_next
   (wpAny_call_entry F.slot_zip_next hT F.entry_zip_next (HT.Qmm (I.ok.hd hc) hdn hln st (show s.heap.IsTuple d its.toArray from p) (show s.heap.IsTuple l its2.toArray from p2) ?_ λh' e kp he=>?_) (F.args_zip_next_1 _))))
  ·rcases hx with h | h
   ·exact .inl (by simp;omega)
   ·exact .inr (by simp;omega)
  ·obtain ⟨o,ho,hc⟩:=he
   refine wpAny_bind (wpAny_isInstance (T:="StopIteration") (b:=true) ⟨o,ho,hc⟩ isSubtype_stop ?_)
   refine wpAny_pure ⟨rfl,I.turnAll (ch:=[n+4,n+2,n+3,n,n+1]) (t':=s.toks) (λb u hb q=>?_) hf⟩
   simp only [List.mem_cons,List.mem_nil_iff,or_false,not_or] at hb
   exact kp b u hb.1 hb.2.2.1 hb.2.2.2.1 hb.2.2.2.2 q
 self:=λ_ _ _ _ _ st h=>wpAny_pyIter_zip st.z h
def Q1n (K:Frag) (ta:TA):TI:=λσ H R=>ta σ H λvs H1=>∃d l xs ys,vs=[.ref d,.ref l]/\SqT K H1 d xs/\SqT K H1 l ys/\R (Itzt K d l) H1
theorem Qsb {a b:Expr} (hg:Gl X "zip") (hm:X.mg "zip" = none) (ha:PA X [a,b] ta) (hs:starEach [a,b] X.env=[(false,eval a X.env),(false,eval b X.env)]:=by rfl) (hs2:starEach [b] X.env=[(false,eval b X.env)]:=by rfl) :
  PI X (.Tuple es kt pt) (.Call (.Name "zip" p) [a,b] [] pos) (Q1n X.K ta):=by
 intro pins s σ H R I h
 refine Call_ (Qcq I hg hm Qhv (PyProof.Rows.callWith_type1 (thn (ha pos pins s σ H _ I h) λus s1 ⟨vs,H1,I1,r1,q1⟩=>?_) (by rw [hs,hs2]) (by rw [hs2];rfl)))
 obtain ⟨d,l,xs,ys,e,hd,hl,q⟩:=q1
 subst e
 obtain ⟨u,u2,rfl,ru,ru2⟩:=Qhy r1
 cases ru
 cases ru2
 obtain ⟨its,rv,pd,hz⟩:=I1.tuple hd
 obtain ⟨its2,rv2,pl,hz2⟩:=I1.tuple hl
 refine HT.Ql7 (show s1.heap.IsTuple d its.toArray from pd) (show s1.heap.IsTuple l its2.toArray from pl) λh' Z kp=>?_
 have I2:Inv X pins σ H1 { s1 with heap:=h' }:=I1.kept (t':=s1.toks) kp
 have hdlt:d<s1.heap.objs.size:=by obtain ⟨o,e,_⟩:=pd;exact Heap.lt_size e
 have hllt:l<s1.heap.objs.size:=by obtain ⟨o,e,_⟩:=pl;exact Heap.lt_size e
 refine wpAny_pyIter_zip Z.z ⟨s1.heap.objs.size+4,[s1.heap.objs.size+4,s1.heap.objs.size+2,s1.heap.objs.size+3,s1.heap.objs.size,s1.heap.objs.size+1],_,_,_,rfl,I2,Qi6 s1.heap.objs.size d l hdlt hllt,Z,λb hb=>?_,q⟩
 have hb':s1.heap.objs.size<=b:=by
  simp only [List.mem_cons,List.mem_nil_iff,or_false] at hb
  rcases hb with rfl | rfl | rfl | rfl | rfl
  ·exact Nat.le_add_right _ _
  ·exact Nat.le_add_right _ _
  ·exact Nat.le_add_right _ _
  ·exact Nat.le_refl _
  ·exact Nat.le_add_right _ _
 exact I1.fpOk hb' (I1.hok.fresh hb')
theorem Qcg:∀{bs:List Bool} {its:List Value},Vals (bs.map V.bl) its->its=bs.map Value.bool
 | [],_,r=>by rw [List.map_nil] at r;cases r;rfl
 | b::bs,_,r=>by
  rw [List.map_cons] at r
  cases r with
  | cons h t=>rw [Qcg t];cases h;rfl
def rAll:List V->Hp->VK->Prop:=λxs H Q=>∃(l:Addr) (bs:List Bool),xs=[.ref l]/\H l=some (.lst (bs.map V.bl))/\Q (.bl (bs.all id)) H
theorem Qoq (hc:X.calm=true):Vf X (.builtin "all") rAll:=by
 intro pins s σ H xs us Q I r h
 obtain ⟨l,bs,rfl,hl,q⟩:=h
 obtain ⟨u,rfl,ru⟩:=Qbw r
 cases ru
 obtain ⟨z,its,n,rv,e⟩:=I.hok l _ hl
 have eits:=Qcg rv
 subst eits
 have hlist:s.heap.IsList l (bs.map Value.bool).toArray:=⟨_,e,rfl,n,rfl⟩
 refine call_all_walk (wpAny_pyIter_list hlist ?_)
 have hlt:l<s.heap.objs.size:=Heap.lt_size e
 refine ⟨_,_,_,_,_,_,λi=>bs.getD i false,rfl,Walks.list (A:=X.A.in1) (I.ok.hd hc) _ l (Nat.ne_of_lt hlt) (bs.map Value.bool).toArray,⟨⟨_,Heap.get?_push_size _ rfl,rfl,rfl⟩,hlist.push _⟩,?_,λh' tk hk=>?_⟩
 ·intro i v A' s' Q' hP hQ
  have hv:(bs.map Value.bool)[i]? = some v:=by simpa using hP
  rw [List.getElem?_map] at hv
  cases hb:bs[i]? with
  | none=>rw [hb] at hv;cases hv
  | some b =>
   rw [hb] at hv
   cases hv
   have:bs.getD i false=b:=by simp [List.getD_eq_getElem?_getD,hb]
   have hQ:s' (bs.getD i false) A':=hQ
   rw [this] at hQ
   exact wpAny_pure hQ
 ·refine ⟨.bl (bs.all id),H,I.kept (t':=tk) λb o eb=>hk b o (λhm=>?_) (Heap.get?_push_of_some _ eb),?_,q⟩
  ·rw [List.mem_singleton.mp hm] at eb
   exact absurd (Heap.lt_size eb) (Nat.lt_irrefl _)
  ·show Value.bool _=Value.bool _
   congr 1
   rw [List.size_toArray,List.length_map]
   rw [show (List.range bs.length).all (λi=>bs.getD i false)=((List.range bs.length).map λi=>bs.getD i false).all id by rw [List.all_map];rfl]
   congr 1
   apply List.ext_getElem
   ·simp
   ·intro i h1 h2
    simp only [List.length_map,List.length_range] at h1
    simp [List.getD_eq_getElem?_getD,h1]
end L2
namespace L2
open PySem PySem.Spec PyProof.Rows
open Builtin.Str (glued partsBetween occurrences tooLong strSub)
theorem Qd2:∀{ws:List Str} {its:List Value},Vals (ws.map V.str) its->∃l:List (Str × Tok),its=strValues l/\l.map (·.1)=ws
 | [],_,r=>by rw [List.map_nil] at r;cases r;exact ⟨[],rfl,rfl⟩
 | w::ws,_,r=>by
  rw [List.map_cons] at r
  cases r with
  | cons h t =>
   obtain ⟨tk,rfl⟩:=h
   obtain ⟨l,rfl,e⟩:=Qd2 t
   exact ⟨(w,tk)::l,rfl,by rw [List.map_cons,e]⟩
theorem U7:∀(ws:List Str) (tk:Nat),Vals (ws.map V.str) (strsFrom tk ws)
 | [],_=>.nil
 | w::ws,tk=>.cons ⟨tk,rfl⟩ (U7 ws (tk+1))
def Q0w (K:Frag):V->List V->Hp->VK->Prop:=λx vs H Q=>∃(sep:Str) (l:Addr) (ws:List Str),x=.str sep/\vs=[.ref l]/\SqL K H l (ws.map V.str) /\
 tooLong (ws.toArray.foldl (λn w=>n+w.length+sep.length) 0)=false/\(glued sep ws).length<=sizeLine/\Q (.str (glued sep ws)) H
theorem Qsp:MtM X "str.join" (Q0w X.K):=by
 intro pins s σ H x vs v us Q I rx rv h
 obtain ⟨sep,l,ws,rfl,rfl,hl,hz,hz2,q⟩:=h
 obtain ⟨t,rfl⟩:=rx
 obtain ⟨u,rfl,ru⟩:=rv.one
 cases ru
 obtain ⟨its,r',pl,_⟩:=I.list hl
 obtain ⟨lv,rfl,hlv⟩:=Qd2 r'
 refine call_meets PySem.F.slot_str_join (typeIs_str s sep t) PySem.F.entry_str_join (PySem.F.args_str_join_2 _ _) (meets_str_join_list sep t l lv (by rw [hlv];exact hz)) ⟨pl.isList,?_⟩
 match lv,hlv with
 | [],hlv =>
  subst hlv
  exact ⟨hz2,.str (glued sep []),H,I.tok _,⟨_,rfl⟩,q⟩
 | [p],hlv =>
  subst hlv
  exact ⟨.str p.1,H,I,⟨_,rfl⟩,q⟩
 | p::p'::r,hlv =>
  subst hlv
  exact ⟨hz2,.str (glued sep _),H,I.tok _,⟨_,rfl⟩,q⟩
def Jv (x sep:Str):List Str:=partsBetween x (occurrences x sep 0 x.length (x.length+1)) sep.length
def Qpa:V->List V->Hp->VK->Prop:=λx vs H Q=>∃(y sep:Str),x=.str y/\vs=[.str sep]/\sep.length=1/\Builtin.Str.strKind sep=1/\0<y.length/\y.length<=sizeLine/\(Jv y sep).length<=sizeLine /\
 ∀l,H l=none->Q (.ref l) (upd H l (.lst ((Jv y sep).map V.str)))
theorem Qny (x:Str):1<=Builtin.Str.strKind x:=by
 unfold Builtin.Str.strKind
 split
 ·decide
 ·split <;> decide
theorem Qnt:MtM X "str.split" Qpa:=by
 intro pins s σ H x vs v us Q I rx rv h
 obtain ⟨y,sep,rfl,rfl,h1,hk,hy,hz,hn,q⟩:=h
 obtain ⟨t,rfl⟩:=rx
 obtain ⟨u,rfl,tu,rfl⟩:=rv.one
 have hc:(decide (y.length<sep.length) || decide (Builtin.Str.strKind y<Builtin.Str.strKind sep))=false:=by
  have:=Qny y
  rw [hk,h1]
  simp;omega
 have h0:(sep.length == 0)=false:=by rw [h1];rfl
 have fin:∀(its:List Value) (h':Heap) (tk:Nat),h'=s.heap.push { cls:=.type "list",data:=.seq its.toArray }->Vals ((Jv y sep).map V.str) its->EP X pins σ Q (.ref s.heap.objs.size) { s with heap:=h',toks:=tk }:=λits h' tk eh rv=>by
  subst eh
  refine ⟨.ref s.heap.objs.size,_,I.laid (o:=.lst ((Jv y sep).map V.str)) (t':=tk) (λb o e=>Heap.get?_push_of_some _ e) (Nat.le_refl _) ?_,rfl,q _ (I.hok.fresh (Nat.le_refl _))⟩
  exact ⟨by rw [List.length_map];exact hn,its,0,rv,Heap.get?_push_size _ rfl⟩
 cases he:(occurrences y sep 0 y.length (y.length+1)).isEmpty with
 | true =>
  have e:Jv y sep=[y]:=by
   unfold Jv
   rw [List.isEmpty_iff.mp he]
   simp [partsBetween,strSub_whole]
  refine call_meets PySem.F.slot_str_split (typeIs_str s y t) PySem.F.entry_str_split (PySem.F.args_str_split_2 _ _) (meets_str_split_not_found y sep t tu hc h0 he) ?_
  exact fin [.str y t] _ s.toks rfl (by rw [e];exact .cons ⟨t,rfl⟩ .nil)
 | false =>
  refine call_meets PySem.F.slot_str_split (typeIs_str s y t) PySem.F.entry_str_split (PySem.F.args_str_split_2 _ _) (meets_str_split_sep y sep t tu hc h0 he hz hn) ?_
  exact fin (strsFrom s.toks (Jv y sep)) _ _ rfl (U7 _ _)
theorem Qmb:Vf X (.type "int") (λxs H Q=>∃x n,xs=[.str x]/\PySem.intText? x=some n/\x.length<=640/\Q (.int n) H):=by
 intro pins s σ H xs us Q I r h
 obtain ⟨x,n,rfl,hn,hl,q⟩:=h
 obtain ⟨u,rfl,t,rfl⟩:=Qbw r
 exact PySem.W.KIN.call_text hn hl ⟨.int n,H,I.tok _,⟨_,rfl⟩,q⟩
def Its (x:Str):It:=⟨λi _=>i<x.cps.size,λi H v H'=>H'=H/\∃c,x.cps[i]? = some c/\v=.str ⟨#[c]⟩,λi _=>x.cps.size<=i⟩
theorem Qx9 {ty:String} {t:Tok} (y:h.IsStrIter a ty x t i) (k:∀o,h.get? a=some o->h'.get? a=some o):h'.IsStrIter a ty x t i:=let ⟨o,ho,r⟩:=y;⟨o,k o ho,r⟩
theorem Qmu (x:Str) (t:Tok) (it:Addr):Turn P w K tg (Its x) [it] it (λi h=>h.IsStrIter it "str_ascii_iterator" x t i) where
 mem:=by simp
 obj:=λi h st b hb=>by
  have e:b=it:=by simpa using hb
  subst e
  obtain ⟨o,e,c,d⟩:=st
  exact ⟨o,e,λv z=>by rw [d] at z;cases z⟩
 keep:=λi h h' st k=>Qx9 st λo e=>k it (by simp) o e
 item:=by
  intro X hP hw hK hc i pins s σ H E I hf st hg
  subst hP hw hK
  have hx:x.cps[i]? = some x.cps[i]:=Array.getElem?_eq_getElem hg
  obtain ⟨f0,f1,f2,f3,f4,f5⟩:=hf it (by simp)
  refine wpAny_pyNext_ascii_item st hx λh' st' sb=>?_
  have I1:Inv X pins σ H { s with heap:=h',toks:=s.toks+1 }:=I.turned (t':=s.toks+1) (λb o hb e=>(sb.2 b hb).trans e) f0 f1 f3 f4 f5
  obtain ⟨o,e,c,d⟩:=id st'
  exact ⟨_,rfl,Qn7 (s:={ s with heap:=h',toks:=s.toks+1 }) e c d (by decide) ⟨.str ⟨#[x.cps[i]]⟩,H,I1,⟨_,rfl⟩,⟨rfl,_,hx,rfl⟩,st',λb hb=>(hf b hb).1⟩⟩
 done:=by
  intro X hP hw hK hc i pins s σ H E I hf st hg
  subst hP hw hK
  obtain ⟨f0,f1,f2,f3,f4,f5⟩:=hf it (by simp)
  exact wpAny_pyNext_ascii_end (I.ok.hd hc) st (Array.getElem?_eq_none hg) λh' eb=>⟨rfl,I.turned (t':=s.toks) (λb o hb e=>eb b o hb e) f0 f1 f3 f4 f5⟩
 self:=λ_ _ _ _ _ st h=>wpAny_pyIter_striter_ascii st h
theorem Qwr {l:Expr} {tl:TE} (hl:PE X l tl):PI X tg l (λσ H R=>tl σ H λv H1=>∃x,v=.str x/\x.cps.all (· < 128)=true/\R (Its x) H1):=by
 intro pins s σ H R I h
 refine thn (hl pins s σ H _ I h) λv s1 ⟨u,H1,I1,r1,q1⟩=>?_
 obtain ⟨x,rfl,ha,q⟩:=q1
 obtain ⟨t,rfl⟩:=r1
 refine wpAny_pyIter_ascii ha ?_
 refine ⟨s1.heap.objs.size,[s1.heap.objs.size],_,_,H1,rfl,I1.kept (t':=s1.toks) λb o e=>Heap.get?_push_of_some _ e,Qmu x t _,⟨_,Heap.get?_push_size _ rfl,rfl,rfl⟩,λb hb=>?_,q⟩
 have e:b=s1.heap.objs.size:=by simpa using hb
 subst e
 exact I1.fpOk (Nat.le_refl _) (I1.hok.fresh (Nat.le_refl _))
end L2
namespace HT
open PySem PySem.Spec PyProof.Rows L2
theorem Qct (x:h.IsListIter a t i) (k:∀o,h.get? a=some o->h'.get? a=some o):h'.IsListIter a t i:=let ⟨o,ho,r⟩:=x;⟨o,k o ho,r⟩
structure ZipL (h:Heap) (n d l:Nat) (i:Nat):Prop where
 z:IsZip h (n+4) (n+2) (n+3) .none
 ti:IsPair h (n+2) (.ref n) (.ref (n+1))
 to:∃a b,IsPair h (n+3) a b
 k:h.IsListIter n d i
 l:h.IsListIter (n+1) l i
theorem Qiv {x y:Value} (hd:d<n) (hl:l<n)
  (Z:ZipL s.heap n d l i) (hm:s.heap.IsList d xs) (hl2:s.heap.IsList l ys) (hx:xs[i]? = some x) (hy:ys[i]? = some y)
  (hQ:∀h',IsZip h' (n+4) (n+2) (n+3) (rawInt s.heap.objs.size)->IsPair h' (n+3) x y->h'.IsListIter n d (i+1)->h'.IsListIter (n+1) l (i+1)->IsPair h' s.heap.objs.size x y ->
   (∀c o,c≠n+4->c≠n+3->c≠n->c≠n+1->s.heap.get? c=some o->h'.get? c=some o)->Q (.ref s.heap.objs.size) { s with heap:=h' }) :
  wpAny (model prog w) A (Builtin.«zip.__next__» ⟨[.ref (n+4)],[]⟩) (λfin s'=>∃v,fin=.done (.ret v)/\Q v s') E s:=by
 obtain ⟨hz,hTI,⟨a,b,hTO⟩,h1,h2⟩:=Z
 show wpAny _ _ (field (.ref (n+4)) 2 >>= _) _ _ _
 refine wpAny_bind (wpAny_field hz rfl (x:=.bool false) rfl ?_)
 show wpAny _ _ (field (.ref (n+4)) 3 >>= _) _ _ _
 refine wpAny_bind (wpAny_field hz rfl (x:=.ref (n+2)) rfl ?_)
 refine wpAny_bind (wpAny_seqItems hTI rfl ?_)
 show wpAny _ _ (Builtin.SmallTypes.ownedTupleIsFree (.ref (n+4)) >>= _) _ _ _
 refine wpAny_bind ?_
 unfold Builtin.SmallTypes.ownedTupleIsFree
 refine wpAny_bind (wpAny_field hz rfl (x:=.none) rfl (wpAny_pure ?_))
 simp only [if_true]
 refine wpAny_bind (wpAny_rule ?_)
 refine wpAny_bind (wpAny_field hz rfl (x:=.ref (n+3)) rfl ?_)
 refine wpAny_bind (wpAny_setField_rec hz (by simp) λh₁ hz₁ hs₁=>?_)
 replace hz₁:IsZip h₁ (n+4) (n+2) (n+3) .ellipsis:=hz₁
 refine wpAny_bind ?_
 simp only [List.zipIdx_cons,List.zipIdx_nil,List.forIn_cons,List.forIn_nil]
 refine wpAny_bind (wpAny_bind (wpAny_onRaise ?_))
 show wpAny _ _ (Builtin.SmallTypes.nextOf (.ref n) >>= _) _ _ _
 refine wpAny_bind (wpAny_nextOf_list_item (h1.extBut hs₁.extBut (by show @Ne Nat _ _;omega)) (hm.extBut hs₁.extBut (by show @Ne Nat _ _;omega)) hx λh₂ h1₂ hs₂=>wpAny_pure ?_)
 have hTO₂:IsPair h₂ (n+3) a b:=hs₂.extBut _ _ (by show @Ne Nat _ _;omega) (hs₁.extBut _ _ (by show @Ne Nat _ _;omega) hTO)
 refine wpAny_bind (wpAny_seqItems hTO₂ rfl ?_)
 refine wpAny_bind (wpAny_updateSeq_pair hTO₂ λh₃ hTO₃ hs₃=>?_)
 replace hTO₃:IsPair h₃ (n+3) x b:=hTO₃
 refine wpAny_bind (wpAny_letGo (wpAny_pure ?_))
 refine wpAny_bind (wpAny_bind (wpAny_onRaise ?_))
 show wpAny _ _ (Builtin.SmallTypes.nextOf (.ref (n+1)) >>= _) _ _ _
 refine wpAny_bind (wpAny_nextOf_list_item (((h2.extBut hs₁.extBut (by show @Ne Nat _ _;omega)).extBut hs₂.extBut (by show @Ne Nat _ _;omega)).extBut hs₃.extBut (by show @Ne Nat _ _;omega))
  (((hl2.extBut hs₁.extBut (by show @Ne Nat _ _;omega)).extBut hs₂.extBut (by show @Ne Nat _ _;omega)).extBut hs₃.extBut (by show @Ne Nat _ _;omega)) hy λh₄ h2₄ hs₄=>wpAny_pure ?_)
 have hTO₄:IsPair h₄ (n+3) x b:=hs₄.extBut _ _ (by show @Ne Nat _ _;omega) hTO₃
 refine wpAny_bind (wpAny_seqItems hTO₄ rfl ?_)
 refine wpAny_bind (wpAny_updateSeq_pair hTO₄ λh₅ hTO₅ hs₅=>?_)
 replace hTO₅:IsPair h₅ (n+3) x y:=hTO₅
 refine wpAny_bind (wpAny_letGo (wpAny_pure (wpAny_pure ?_)))
 refine wpAny_bind (wpAny_seqItems hTO₅ rfl ?_)
 refine wpAny_bind (wpAny_newTuple ?_)
 have hsz:h₅.objs.size=s.heap.objs.size:=by rw [hs₅.1,hs₄.1,hs₃.1,hs₂.1,hs₁.1]
 have hz₅:IsZip h₅ (n+4) (n+2) (n+3) .ellipsis:=hs₅.extBut _ _ (by show @Ne Nat _ _;omega) (hs₄.extBut _ _ (by show @Ne Nat _ _;omega) (hs₃.extBut _ _ (by show @Ne Nat _ _;omega) (hs₂.extBut _ _ (by show @Ne Nat _ _;omega) hz₁)))
 have hk₅:∀c o,c≠n+4->c≠n+3->c≠n->c≠n+1->s.heap.get? c=some o->h₅.get? c=some o:=λc o c1 c2 c3 c4 e =>
  hs₅.extBut _ _ c2 (hs₄.extBut _ _ c4 (hs₃.extBut _ _ c2 (hs₂.extBut _ _ c3 (hs₁.extBut _ _ c1 e))))
 have h1₅:h₅.IsListIter n d (i+1):=((h1₂.extBut hs₃.extBut (by show @Ne Nat _ _;omega)).extBut hs₄.extBut (by show @Ne Nat _ _;omega)).extBut hs₅.extBut (by show @Ne Nat _ _;omega)
 have h2₅:h₅.IsListIter (n+1) l (i+1):=h2₄.extBut hs₅.extBut (by show @Ne Nat _ _;omega)
 have hzlt:n+4<h₅.objs.size:=Heap.lt_size hz₅
 show wpAny _ _ (Builtin.SmallTypes.ownedTupleHandOut (.ref (n+4)) (.ref h₅.objs.size) >>= _) _ _ _
 refine wpAny_bind ?_
 unfold Builtin.SmallTypes.ownedTupleHandOut
 have hz₆:IsZip (h₅.push { cls:=.type "tuple",data:=.seq #[x,y] }) (n+4) (n+2) (n+3) .ellipsis:=Heap.get?_push_of_some _ hz₅
 refine wpAny_bind (wpAny_setField_rec hz₆ (by simp) λh₇ hz₇ hs₇=>?_)
 replace hz₇:IsZip h₇ (n+4) (n+2) (n+3) (rawInt h₅.objs.size):=hz₇
 refine wpAny_setField_rec hz₇ (by simp) λh₈ hz₈ hs₈=>?_
 replace hz₈:IsZip h₈ (n+4) (n+2) (n+3) (rawInt h₅.objs.size):=hz₈
 have up:∀c o,c≠n+4->h₅.get? c=some o->h₈.get? c=some o:=λc o c1 e=>hs₈.extBut _ _ c1 (hs₇.extBut _ _ c1 (Heap.get?_push_of_some _ e))
 have hT₈:IsPair h₈ h₅.objs.size x y:=hs₈.extBut _ _ (Nat.ne_of_gt hzlt) (hs₇.extBut _ _ (Nat.ne_of_gt hzlt) (Heap.get?_push_size _ rfl))
 rw [hsz] at hz₈ hT₈
 refine wpAny_pure ⟨_,rfl,?_⟩
 show Q (.ref h₅.objs.size) _
 rw [hsz]
 exact hQ h₈ hz₈ (up _ _ (by show @Ne Nat _ _;omega) hTO₅) (Qct h1₅ λo e=>up _ o (by show @Ne Nat _ _;omega) e) (Qct h2₅ λo e=>up _ o (by show @Ne Nat _ _;omega) e) hT₈ λc o c1 c2 c3 c4 e=>up c o c1 (hk₅ c o c1 c2 c3 c4 e)
theorem Qmo {Q:Fin->Shared->Prop} (hh:A.handled=none) (hd:d<n) (hl:l<n)
  (Z:ZipL s.heap n d l i) (hm:s.heap.IsList d xs) (hl2:s.heap.IsList l ys) (hend:xs[i]? = none\/ys[i]? = none)
  (hE:∀h' e,(∀c o,c≠n+4->c≠n+3->c≠n->c≠n+1->s.heap.get? c=some o->h'.get? c=some o)->(∃o,h'.get? e=some o/\o.cls=.type "StopIteration")->E (.ref e) { s with heap:=h' }) :
  wpAny (model prog w) A (Builtin.«zip.__next__» ⟨[.ref (n+4)],[]⟩) Q E s:=by
 obtain ⟨hz,hTI,⟨a,b,hTO⟩,h1,h2⟩:=Z
 show wpAny _ _ (field (.ref (n+4)) 2 >>= _) _ _ _
 refine wpAny_bind (wpAny_field hz rfl (x:=.bool false) rfl ?_)
 show wpAny _ _ (field (.ref (n+4)) 3 >>= _) _ _ _
 refine wpAny_bind (wpAny_field hz rfl (x:=.ref (n+2)) rfl ?_)
 refine wpAny_bind (wpAny_seqItems hTI rfl ?_)
 show wpAny _ _ (Builtin.SmallTypes.ownedTupleIsFree (.ref (n+4)) >>= _) _ _ _
 refine wpAny_bind ?_
 unfold Builtin.SmallTypes.ownedTupleIsFree
 refine wpAny_bind (wpAny_field hz rfl (x:=.none) rfl (wpAny_pure ?_))
 simp only [if_true]
 refine wpAny_bind (wpAny_rule ?_)
 refine wpAny_bind (wpAny_field hz rfl (x:=.ref (n+3)) rfl ?_)
 refine wpAny_bind (wpAny_setField_rec hz (by simp) λh₁ hz₁ hs₁=>?_)
 replace hz₁:IsZip h₁ (n+4) (n+2) (n+3) .ellipsis:=hz₁
 refine wpAny_bind ?_
 simp only [List.zipIdx_cons,List.zipIdx_nil,List.forIn_cons,List.forIn_nil]
 refine wpAny_bind (wpAny_bind (wpAny_onRaise ?_))
 show wpAny _ _ (Builtin.SmallTypes.nextOf (.ref n) >>= _) _ _ _
 cases hx:xs[i]? with
 | none =>
  refine wpAny_bind (wpAny_nextOf_list_end hh (h1.extBut hs₁.extBut (by show @Ne Nat _ _;omega)) (hm.extBut hs₁.extBut (by show @Ne Nat _ _;omega)) hx λh₂ e hs₂ he=>?_)
  obtain ⟨oe,hoe,hce⟩:=he
  have hz₂:IsZip h₂ (n+4) (n+2) (n+3) .ellipsis:=hs₂ _ _ (by show @Ne Nat _ _;omega) hz₁
  have hez:e≠n+4:=λx=>by subst x;rw [hz₂] at hoe;cases hoe;simp at hce
  refine wpAny_setField_rec hz₂ (by simp) λh₃ _ hs₃=>hE h₃ e (λc o c1 _ c3 _ x=>hs₃.extBut _ _ c1 (hs₂ _ _ c3 (hs₁.extBut _ _ c1 x))) ⟨oe,hs₃.extBut _ _ hez hoe,hce⟩
 | some x =>
  have hy:ys[i]? = none:=by rcases hend with h | h;rw [hx] at h;cases h;exact h
  refine wpAny_bind (wpAny_nextOf_list_item (h1.extBut hs₁.extBut (by show @Ne Nat _ _;omega)) (hm.extBut hs₁.extBut (by show @Ne Nat _ _;omega)) hx λh₂ h1₂ hs₂=>wpAny_pure ?_)
  have hTO₂:IsPair h₂ (n+3) a b:=hs₂.extBut _ _ (by show @Ne Nat _ _;omega) (hs₁.extBut _ _ (by show @Ne Nat _ _;omega) hTO)
  refine wpAny_bind (wpAny_seqItems hTO₂ rfl ?_)
  refine wpAny_bind (wpAny_updateSeq_pair hTO₂ λh₃ hTO₃ hs₃=>?_)
  refine wpAny_bind (wpAny_letGo (wpAny_pure ?_))
  refine wpAny_bind (wpAny_bind (wpAny_onRaise ?_))
  show wpAny _ _ (Builtin.SmallTypes.nextOf (.ref (n+1)) >>= _) _ _ _
  refine wpAny_bind (wpAny_nextOf_list_end hh (((h2.extBut hs₁.extBut (by show @Ne Nat _ _;omega)).extBut hs₂.extBut (by show @Ne Nat _ _;omega)).extBut hs₃.extBut (by show @Ne Nat _ _;omega))
   (((hl2.extBut hs₁.extBut (by show @Ne Nat _ _;omega)).extBut hs₂.extBut (by show @Ne Nat _ _;omega)).extBut hs₃.extBut (by show @Ne Nat _ _;omega)) hy λh₄ e hs₄ he=>?_)
  obtain ⟨oe,hoe,hce⟩:=he
  have hz₄:IsZip h₄ (n+4) (n+2) (n+3) .ellipsis:=hs₄ _ _ (by show @Ne Nat _ _;omega) (hs₃.extBut _ _ (by show @Ne Nat _ _;omega) (hs₂.extBut _ _ (by show @Ne Nat _ _;omega) hz₁))
  have hez:e≠n+4:=λx=>by subst x;rw [hz₄] at hoe;cases hoe;simp at hce
  refine wpAny_setField_rec hz₄ (by simp) λh₅ _ hs₅=>hE h₅ e (λc o c1 c2 c3 c4 x=>hs₅.extBut _ _ c1 (hs₄ _ _ c4 (hs₃.extBut _ _ c2 (hs₂.extBut _ _ c3 (hs₁.extBut _ _ c1 x))))) ⟨oe,hs₅.extBut _ _ hez hoe,hce⟩
abbrev zl1 (h:Heap) (d:Nat):Heap:=h.push { cls:=.type "list_iterator",data:=.fields #[.ref d,.int 0 0] }
abbrev zl2 (h:Heap) (d l:Nat):Heap:=(zl1 h d).push { cls:=.type "list_iterator",data:=.fields #[.ref l,.int 0 0] }
abbrev zl3 (h:Heap) (d l:Nat):Heap:=(zl2 h d l).push { cls:=.type "tuple",data:=.seq #[.ref h.objs.size,.ref (zl1 h d).objs.size] }
abbrev zl4 (h:Heap) (d l:Nat):Heap:=(zl3 h d l).push { cls:=.type "tuple",data:=.seq #[.none,.none] }
abbrev zl5 (h:Heap) (d l:Nat):Heap:=(zl4 h d l).push { cls:=.type "zip",data:=.fields #[.none,.bool false,.bool false,.ref (zl2 h d l).objs.size,.ref (zl3 h d l).objs.size] }
theorem Qmn :
  Meets (Builtin.«zip.__new__» ⟨[.type "zip",.ref d,.ref l],[]⟩) (λ_ R s=>s.heap.IsList d xs/\s.heap.IsList l ys /\
   R (.ok (.ret (.ref (zl4 s.heap d l).objs.size))) { s with heap:=zl5 s.heap d l }) :=
 .of_wp λprog w A R s h=>by
  obtain ⟨hp,g,dr,tk,os⟩:=s;obtain ⟨hm,hl2,h⟩:=h
  have hsub:=sub_zip
  have hL1:Heap.IsList (Shared.heap ⟨hp,g,dr,tk,os⟩) d xs:=hm
  have hL2:Heap.IsList (Shared.heap ⟨hp.push { cls:=.type "list_iterator",data:=.fields #[.ref d,.int 0 0] },g,dr,tk,os⟩) l ys:=Heap.IsList.push hl2 _
  wp_walk using wpAny_pyIter_list hL1,wpAny_pyIter_list hL2
  exact ⟨_,rfl,h⟩
theorem Ql8 (hm:s.heap.IsList d xs) (hl2:s.heap.IsList l ys)
  (h:∀h',ZipL h' s.heap.objs.size d l 0->(∀c o,s.heap.get? c=some o->h'.get? c=some o)->Q (.ref (s.heap.objs.size+4)) { s with heap:=h' }) :
  wpAny (model prog w) A (call (.type "zip") [.ref d,.ref l]) Q E s:=by
 refine callType_new F.called_zip (by decide) (F.typeCall_zip_2 _ _) (F.newCall_zip_2 _ _) (λobj=>F.args_object_init_3 obj _ _) F.entry_zip_new
  (Qmn (xs:=xs) (ys:=ys)) ⟨hm,hl2,?_⟩
 have z1:(zl1 s.heap d).objs.size=s.heap.objs.size+1:=Heap.size_push ..
 have z2:(zl2 s.heap d l).objs.size=s.heap.objs.size+2:=by rw [Heap.size_push,z1]
 have z3:(zl3 s.heap d l).objs.size=s.heap.objs.size+3:=by rw [Heap.size_push,z2]
 have z4:(zl4 s.heap d l).objs.size=s.heap.objs.size+4:=by rw [Heap.size_push,z3]
 have g5:(zl5 s.heap d l).get? (zl4 s.heap d l).objs.size=some _:=Heap.get?_push_size _ rfl
 have g4:(zl5 s.heap d l).get? (zl3 s.heap d l).objs.size=some _:=Heap.get?_push_of_some _ (Heap.get?_push_size _ rfl)
 have g3:(zl5 s.heap d l).get? (zl2 s.heap d l).objs.size=some _:=Heap.get?_push_of_some _ (Heap.get?_push_of_some _ (Heap.get?_push_size _ rfl))
 have g2:(zl5 s.heap d l).get? (zl1 s.heap d).objs.size=some _:=Heap.get?_push_of_some _ (Heap.get?_push_of_some _ (Heap.get?_push_of_some _ (Heap.get?_push_size _ rfl)))
 have g1:(zl5 s.heap d l).get? s.heap.objs.size=some _:=Heap.get?_push_of_some _ (Heap.get?_push_of_some _ (Heap.get?_push_of_some _ (Heap.get?_push_of_some _ (Heap.get?_push_size _ rfl))))
 show _/\_
 rw [z2,z3,z4] at g5
 rw [z1,z2] at g3
 rw [z3] at g4
 rw [z1] at g2
 rw [z4]
 exact ⟨⟨_,g5,rfl⟩,h _ ⟨g5,g3,⟨_,_,g4⟩,⟨_,g1,rfl,rfl⟩,⟨_,g2,rfl,rfl⟩⟩ λc o x =>
  Heap.get?_push_of_some _ (Heap.get?_push_of_some _ (Heap.get?_push_of_some _ (Heap.get?_push_of_some _ (Heap.get?_push_of_some _ x))))⟩
end HT
namespace L2
open PySem PySem.Spec PyProof.Rows
def Itzl (K:Frag) (d l:Addr):It :=
  ⟨λi H=>∃xs ys x y,SqL K H d xs/\SqL K H l ys/\xs[i]? = some x/\ys[i]? = some y,
   λi H v H'=>∀xs ys,SqL K H d xs->SqL K H l ys->∃x y p,xs[i]? = some x/\ys[i]? = some y/\v=.ref p/\H p=none/\H'=upd H p (.tup [x,y]),
   λi H=>∃xs ys,SqL K H d xs/\SqL K H l ys/\(xs.length<=i\/ys.length<=i)⟩
theorem Qi7 (n d l:Nat) (hdn:d<n) (hln:l<n) :
  Turn P w K (.Tuple es kt pt) (Itzl K d l) [n+4,n+2,n+3,n,n+1] (n+4) (λi h=>HT.ZipL h n d l i) where
 mem:=by simp
 obj:=λi h st b hb=>by
  obtain ⟨hz,hTI,⟨a,b',hTO⟩,⟨o1,e1,c1,d1⟩,⟨o2,e2,c2,d2⟩⟩:=st
  simp only [List.mem_cons,List.mem_nil_iff,or_false] at hb
  rcases hb with rfl | rfl | rfl | rfl | rfl
  ·exact ⟨_,hz,λv z=>by have z':Data.fields _=Data.cell v:=z;cases z'⟩
  ·exact ⟨_,hTI,λv z=>by have z':Data.seq _ _=Data.cell v:=z;cases z'⟩
  ·exact ⟨_,hTO,λv z=>by have z':Data.seq _ _=Data.cell v:=z;cases z'⟩
  ·exact ⟨o1,e1,λv z=>by rw [d1] at z;cases z⟩
  ·exact ⟨o2,e2,λv z=>by rw [d2] at z;cases z⟩
 keep:=λi h h' st k=>by
  obtain ⟨hz,hTI,⟨a,b,hTO⟩,h1,h2⟩:=st
  exact ⟨k _ (by simp) _ hz,k _ (by simp) _ hTI,⟨a,b,k _ (by simp) _ hTO⟩,HT.Qct h1 λo e=>k _ (by simp) o e,HT.Qct h2 λo e=>k _ (by simp) o e⟩
 item:=by
  intro X hP hw hK hc i pins s σ H E I hf st hg
  subst hP hw hK
  obtain ⟨xs,ys,x,y,hq1,hq2,hx,hy⟩:=hg
  obtain ⟨its,rv,p,hz⟩:=I.list hq1
  obtain ⟨its2,rv2,p2,hz2'⟩:=I.list hq2
  obtain ⟨u,hu,ru⟩:=rv.get hx
  obtain ⟨u',hu',ru'⟩:=rv2.get hy
  have hT:s.TypeIs (.ref (n+4)) "zip":=⟨_,st.z,rfl⟩
  have hlt4:n+4<s.heap.objs.size:=Heap.lt_size st.z
  unfold pyNext
  refine wpAny_bind (wpAny_attempt (wpAny_callSpecial?_slot (name:=Str.ofString "__next__") hT F.slot_zip_next
   (wpAny_call_entry F.slot_zip_next hT F.entry_zip_next (HT.Qiv hdn hln st p.isList p2.isList (by simpa using hu) (by simpa using hu') λh' z1 z2 z3 z4 z5 z6=>wpAny_pure ?_) (F.args_zip_next_1 _))))
  refine ⟨_,rfl,wpAny_letOwnedTupleGo_zip z1 λh2 hz2 hs2=>?_⟩
  have hn:H s.heap.objs.size=none:=I.hok.fresh (Nat.le_refl _)
  have hT2:IsPair h2 s.heap.objs.size u u':=hs2.extBut _ _ (Nat.ne_of_gt hlt4) z5
  refine ⟨.ref s.heap.objs.size,upd H s.heap.objs.size (.tup [x,y]),I.turnNew (ch:=[n+4,n+2,n+3,n,n+1]) (t':=s.toks) (Nat.le_refl _) (λb o hb q=>?_) hf ?_,rfl,λxs2 ys2 hy1 hy2=>?_,⟨hz2,?_,⟨u,u',?_⟩,HT.Qct z3 λo q=>?_,HT.Qct z4 λo q=>?_⟩,λb hb=>?_⟩
  ·simp only [List.mem_cons,List.mem_nil_iff,or_false,not_or] at hb
   exact hs2.extBut _ _ hb.1 (z6 b o hb.1 hb.2.2.1 hb.2.2.2.1 hb.2.2.2.2 q)
  ·exact ⟨by show 2<=sizeLine;decide,[u,u'],.cons ru (.cons ru' .nil),⟨_,hT2,rfl,_,rfl⟩⟩
  ·rw [I.list_inj hy1 hq1,I.list_inj hy2 hq2]
   exact ⟨x,y,_,hx,hy,rfl,hn,rfl⟩
  ·exact hs2.extBut _ _ (by show @Ne Nat _ _;omega) (z6 _ _ (by show @Ne Nat _ _;omega) (by show @Ne Nat _ _;omega) (by show @Ne Nat _ _;omega) (by show @Ne Nat _ _;omega) st.ti)
  ·exact hs2.extBut _ _ (by show @Ne Nat _ _;omega) z2
  ·exact hs2.extBut _ _ (by show @Ne Nat _ _;omega) q
  ·exact hs2.extBut _ _ (by show @Ne Nat _ _;omega) q
  ·have hb':b<s.heap.objs.size:=by
    simp only [List.mem_cons,List.mem_nil_iff,or_false] at hb
    have:(b:Nat)<=n+4:=by
     rcases hb with h | h | h | h | h <;> (rw [h];show (_:Nat)<=n+4;omega)
    exact Nat.lt_of_le_of_lt this hlt4
   rw [Qk (Nat.ne_of_lt hb')]
   exact (hf b hb).1
 done:=by
  intro X hP hw hK hc i pins s σ H E I hf st hg
  subst hP hw hK
  obtain ⟨xs,ys,hq1,hq2,hx⟩:=hg
  obtain ⟨its,rv,p,hz⟩:=I.list hq1
  obtain ⟨its2,rv2,p2,hz2'⟩:=I.list hq2
  have hlen:=rv.length
  have hlen2:=rv2.length
  have hT:s.TypeIs (.ref (n+4)) "zip":=⟨_,st.z,rfl⟩
  unfold pyNext
  refine wpAny_bind (wpAny_attempt (wpAny_callSpecial?_slot (name:=Str.ofString "__next__") hT F.slot_zip_next
   (wpAny_call_entry F.slot_zip_next hT F.entry_zip_next (HT.Qmo (I.ok.hd hc) hdn hln st p.isList p2.isList ?_ λh' e kp he=>?_) (F.args_zip_next_1 _))))
  ·rcases hx with h | h
   ·exact .inl (by simp;omega)
   ·exact .inr (by simp;omega)
  ·obtain ⟨o,ho,hc⟩:=he
   refine wpAny_bind (wpAny_isInstance (T:="StopIteration") (b:=true) ⟨o,ho,hc⟩ isSubtype_stop ?_)
   refine wpAny_pure ⟨rfl,I.turnAll (ch:=[n+4,n+2,n+3,n,n+1]) (t':=s.toks) (λb u hb q=>?_) hf⟩
   simp only [List.mem_cons,List.mem_nil_iff,or_false,not_or] at hb
   exact kp b u hb.1 hb.2.2.1 hb.2.2.2.1 hb.2.2.2.2 q
 self:=λ_ _ _ _ _ st h=>wpAny_pyIter_zip st.z h
def Q1o (K:Frag) (ta:TA):TI:=λσ H R=>ta σ H λvs H1=>∃d l xs ys,vs=[.ref d,.ref l]/\SqL K H1 d xs/\SqL K H1 l ys/\R (Itzl K d l) H1
theorem Qsc {a b:Expr} (hg:Gl X "zip") (hm:X.mg "zip" = none) (ha:PA X [a,b] ta) (hs:starEach [a,b] X.env=[(false,eval a X.env),(false,eval b X.env)]:=by rfl) (hs2:starEach [b] X.env=[(false,eval b X.env)]:=by rfl) :
  PI X (.Tuple es kt pt) (.Call (.Name "zip" p) [a,b] [] pos) (Q1o X.K ta):=by
 intro pins s σ H R I h
 refine Call_ (Qcq I hg hm Qhv (PyProof.Rows.callWith_type1 (thn (ha pos pins s σ H _ I h) λus s1 ⟨vs,H1,I1,r1,q1⟩=>?_) (by rw [hs,hs2]) (by rw [hs2];rfl)))
 obtain ⟨d,l,xs,ys,e,hd,hl,q⟩:=q1
 subst e
 obtain ⟨u,u2,rfl,ru,ru2⟩:=Qhy r1
 cases ru
 cases ru2
 obtain ⟨its,rv,pd,hz⟩:=I1.list hd
 obtain ⟨its2,rv2,pl,hz2⟩:=I1.list hl
 refine HT.Ql8 pd.isList pl.isList λh' Z kp=>?_
 have I2:Inv X pins σ H1 { s1 with heap:=h' }:=I1.kept (t':=s1.toks) kp
 have hdlt:d<s1.heap.objs.size:=by obtain ⟨o,n,e,_⟩:=pd;exact Heap.lt_size e
 have hllt:l<s1.heap.objs.size:=by obtain ⟨o,n,e,_⟩:=pl;exact Heap.lt_size e
 refine wpAny_pyIter_zip Z.z ⟨s1.heap.objs.size+4,[s1.heap.objs.size+4,s1.heap.objs.size+2,s1.heap.objs.size+3,s1.heap.objs.size,s1.heap.objs.size+1],_,_,_,rfl,I2,Qi7 s1.heap.objs.size d l hdlt hllt,Z,λb hb=>?_,q⟩
 have hb':s1.heap.objs.size<=b:=by
  simp only [List.mem_cons,List.mem_nil_iff,or_false] at hb
  rcases hb with rfl | rfl | rfl | rfl | rfl
  ·exact Nat.le_add_right _ _
  ·exact Nat.le_add_right _ _
  ·exact Nat.le_add_right _ _
  ·exact Nat.le_refl _
  ·exact Nat.le_add_right _ _
 exact I1.fpOk hb' (I1.hok.fresh hb')
end L2
variable {ts:List PySem.Expr} {se:PySem.Expr} {p1 p3:PySem.Pos}
namespace L2
open PySem PySem.Spec PyProof.Rows
open Builtin.Str (occurrences strSub subAt)
section
variable {lo hi st:Option Expr} {tl th ts:TO}
def Qrj:V->List V->Hp->VK->Prop:=λx vs H Q=>∃(y z:Str),x=.str y/\vs=[.str z]/\Q (.bl (0+z.length<=y.length && subAt y z 0)) H
theorem Qkh:MtM X "str.startswith" Qrj:=by
 intro pins s σ H x vs v us Q I rx rv h
 obtain ⟨y,z,rfl,rfl,q⟩:=h
 obtain ⟨t,rfl⟩:=rx
 obtain ⟨u,rfl,tu,rfl⟩:=rv.one
 exact call_gives PySem.F.slot_str_startswith (typeIs_str _ _ _) PySem.F.entry_str_startswith (PySem.F.args_str_startswith_2 _ _) (gives_str_startswith y z t tu) ⟨.bl _,H,I,rfl,q⟩
def Zi (x y:Str):List Str:=match occurrences x y 0 x.length 1 with
 | i::_=>[strSub x 0 i,y,strSub x (i+y.length) x.length]
 | []=>[x,Str.empty,Str.empty]
def Q0v:V->List V->Hp->VK->Prop:=λx vs H Q=>∃(y z:Str),x=.str y/\vs=[.str z]/\(z.length == 0)=false/\y.length<=sizeLine/\∀l,H l=none->Q (.ref l) (upd H l (.tup ((Zi y z).map V.str)))
theorem Qso:MtM X "str.partition" Q0v:=by
 intro pins s σ H x vs v us Q I rx rv h
 obtain ⟨y,z,rfl,rfl,h1,h2,q⟩:=h
 obtain ⟨t,rfl⟩:=rx
 obtain ⟨u,rfl,tu,rfl⟩:=rv.one
 have fin:∀(its:List Value) (tk:Nat),Vals ((Zi y z).map V.str) its->(Zi y z).length<=sizeLine->EP X pins σ Q (.ref s.heap.objs.size) { s with toks:=tk,heap:=s.heap.push { cls:=.type "tuple",data:=.seq its.toArray } }:=λits tk rv hz=>by
  refine ⟨.ref s.heap.objs.size,_,I.laid (o:=.tup ((Zi y z).map V.str)) (t':=tk) (λb o e=>Heap.get?_push_of_some _ e) (Nat.le_refl _) ?_,rfl,q _ (I.hok.fresh (Nat.le_refl _))⟩
  exact ⟨by rw [List.length_map];exact hz,its,rv,IsTup.new _ _⟩
 refine call_meets PySem.F.slot_str_partition (typeIs_str s y t) PySem.F.entry_str_partition (PySem.F.args_str_partition_2 _ _) (meets_str_partition y z t tu h1 h2) ?_
 cases ho:occurrences y z 0 y.length 1 with
 | nil =>
  have e:Zi y z=[y,Str.empty,Str.empty]:=by unfold Zi;rw [ho]
  refine fin [.str y t,.str Str.empty s.toks,.str Str.empty s.toks] _ ?_ (by rw [e];show 3<=sizeLine;decide)
  rw [e]
  exact .cons ⟨_,rfl⟩ (.cons ⟨_,rfl⟩ (.cons ⟨_,rfl⟩ .nil))
 | cons i r =>
  have e:Zi y z=[strSub y 0 i,z,strSub y (i+z.length) y.length]:=by unfold Zi;rw [ho]
  refine fin [.str (strSub y 0 i) s.toks,.str z tu,.str (strSub y (i+z.length) y.length) (s.toks+1)] _ ?_ (by rw [e];show 3<=sizeLine;decide)
  rw [e]
  exact .cons ⟨_,rfl⟩ (.cons ⟨_,rfl⟩ (.cons ⟨_,rfl⟩ .nil))
def J0 (y:Str) (a:Nat):Str:=⟨(y.cps.toList.drop a).toArray⟩
theorem Qcj {a:Nat} (h:a<=y.length):Txt.slice y (some (a:Int)) none=J0 y a:=by
 have h2:a<=y.cps.toList.length:=by rw [Array.length_toList];exact h
 show StrLaws.sliceText y (some (a:Int)) none=_
 rw [StrLaws.sliceText_from ⟨by omega,by omega⟩]
 unfold J0
 rw [Int.toNat_natCast,List.take_of_length_le (by rw [List.length_drop];omega)]
def Zk {α:Type} (xs:List α) (lo hi st:Option Int):List α:=(sliceRange (sliceBounds lo hi st xs.length).1 (sliceBounds lo hi st xs.length).2.1 (sliceBounds lo hi st xs.length).2.2).filterMap (xs[·]?)
theorem Vals.pick {xs:List V} {its:List Value} (r:Vals xs its):∀(js:List Nat),Vals (js.filterMap (xs[·]?)) (js.filterMap (its[·]?))
 | []=>.nil
 | j::js=>by
  cases hx:xs[j]? with
  | none =>
   have:its[j]? = none:=by
    have h1:=r.length
    have h2:=List.getElem?_eq_none_iff.mp hx
    exact List.getElem?_eq_none_iff.mpr (by omega)
   rw [List.filterMap_cons_none hx,List.filterMap_cons_none this]
   exact Vals.pick r js
  | some x =>
   obtain ⟨u,hu,ru⟩:=r.get hx
   rw [List.filterMap_cons_some hx,List.filterMap_cons_some hu]
   exact .cons ru (Vals.pick r js)
def tSt (K:Frag) (te:TE) (tl th ts:TO):TE:=λσ H Q=>te σ H λx H1=>tl σ H1 λl H2=>th σ H2 λu H3=>ts σ H3 λc H4=>∃a xs,x=.ref a/\SqL K H4 a xs/\c≠some 0/\c≠none/\(Zk xs l u c).length<=sizeLine/\∀p,H4 p=none->Q (.ref p) (upd H4 p (.lst (Zk xs l u c)))
theorem Qid (he:PE X e te) (hl:PO X lo tl) (hu:PO X hi th) (hst:PO X (some se) ts):PE X (.Subscript e (.Slice lo hi (some se) p2) pos) (tSt X.K te tl th ts):=by
 intro pins s σ H Q I h
 refine Subscript_ (thn (he pins s σ H _ I h) λv s1 ⟨x,H1,I1,r1,q1⟩=>?_)
 refine wpAny_Slice (thn (hl pins s1 σ H1 _ I1 q1) λvl s2 ⟨l,H2,I2,pl,q2⟩=>thn (hu pins s2 σ H2 _ I2 q2) λvu s3 ⟨u,H3,I3,pu,q3⟩=>thn (hst pins s3 σ H3 _ I3 q3) λvc s4 ⟨c,H4,I4',pc,q4⟩=>?_)
 obtain ⟨a,xs,rfl,hx,h0,h00,hz,q⟩:=q4
 cases r1
 have I4:Inv X pins σ H4 { s4 with heap:=s4.heap.push { cls:=.type "slice",data:=.fields #[vl,vu,vc] } }:=I4'.kept (t':=s4.toks) λb ob q=>Heap.get?_push_of_some _ q
 obtain ⟨its,r,ht,hz'⟩:=I4.list hx
 have hg:wpAny (model X.prog X.w) X.A (getItem (.ref a) (.ref s4.heap.objs.size)) (EP X pins σ Q) X.xe { s4 with heap:=s4.heap.push { cls:=.type "slice",data:=.fields #[vl,vu,vc] } }:=by
  refine wpAny_getItem_list_slice ht.isList (Heap.IsSliceOf.new ..) pl pu pc h0 ?_ (by have:=r.length;rw [List.size_toArray];omega)
  have e:slicePick its.toArray l u c=((sliceRange (sliceBounds l u c xs.length).1 (sliceBounds l u c xs.length).2.1 (sliceBounds l u c xs.length).2.2).filterMap (its[·]?)).toArray:=by
   unfold slicePick
   rw [List.size_toArray,r.length]
   simp
  rw [e]
  refine ⟨.ref _,_,I4.laid (t':=s4.toks) (o:=.lst (Zk xs l u c)) (λb ob q=>Heap.get?_push_of_some _ q) (Nat.le_refl _) ?_,rfl,q _ (I4.hok.fresh (Nat.le_refl _))⟩
  exact ⟨hz,_,0,r.pick _,Heap.get?_push_size _ rfl⟩
 show wpAny (model X.prog X.w) X.A (subscriptTail e (.Slice lo hi (some se) p2) (.ref a) (.ref s4.heap.objs.size)) (EP X pins σ Q) X.xe { s4 with heap:=s4.heap.push { cls:=.type "slice",data:=.fields #[vl,vu,vc] } }
 exact tail_any (ops:=[.ref a,.ref s4.heap.objs.size]) ht.isList.typeIs slot_list_getitem.lookup hg (by with_unfolding_all rfl)
def tFs (c:Str) (te:TE):TE:=λσ H Q=>c.length<=sizeLine/\te σ H λx H1=>∃i:Int,x=.int i/\i.natAbs.log2<1920/\(c++Str.ofString (toString i)).length<=sizeLine/\Q (.str (c++Str.ofString (toString i))) H1
theorem Qse {c:Str} (he:PE X e te):PE X (.JoinedStr [.Constant (.str c) k p1,.FormattedValue e (-1) none p3] pos) (tFs c te):=by
 intro pins s σ H Q I h
 refine wpAny_JoinedStr ?_
 show Joins _ _ _ [eval (.Constant (.str c) k p1) X.env,eval (.FormattedValue e (-1) none p3) X.env] _ _ _
 refine wpAny_Constant_str ⟨c,_,rfl,?_,?_⟩
 ·rw [Str.empty_append];exact h.1
 ·refine wpAny_FormattedValue_plain (thn (he pins _ σ H _ (I.tok _) h.2) λv s1 ⟨x,H1,I1,r1,q1⟩=>?_)
  obtain ⟨i,rfl,hi,hz,q⟩:=q1
  obtain ⟨t,rfl⟩:=r1
  refine wpAny_formatField_int hi ⟨_,_,rfl,?_,?_⟩
  ·rw [Str.empty_append];exact hz
  ·rw [Str.empty_append]
   exact ⟨hz,.str _,H1,I1.tok _,⟨_,rfl⟩,q⟩
end
end L2
namespace L2
open PySem PySem.Spec PyProof.Rows
def Qqq (lo hi c:Int):Nat:=if lo<hi then ((hi-lo-1) / c+1).toNat else 0
end L2
namespace Mx
open PySem PySem.Spec L2
abbrev MI:=Int ⊕ List Int
def Q1q:MI->Int
 | .inl i=>hashInt i
 | .inr l=>reduceHash (Builtin.Tuple.tupleHashOf (l.map hashInt))
abbrev KVM:=List (MI × V × V)
abbrev VM:=List (MI × Value × Value)
def RelE (p:MI × V × V) (q:MI × Value × Value):Prop:=p.1=q.1/\RelV p.2.1 q.2.1/\RelV p.2.2 q.2.2
def entI (q:MI × Value × Value):DictEntry:={ hash:=Q1q q.1,key:=q.2.1,val:=q.2.2 }
def phi (a:Addr) (kvs:KVM) (h:Heap):Prop:=(a == sysModules)=false/\kvs.length<=sizeLine/\(kvs.map (·.1)).Nodup/\∃vs:VM,Paired RelE kvs vs/\∃o es ep,h.get? a=some o/\o.ExactDict/\o.data=.dict es ep/\es.toList=vs.map entI
def mixO (a:Addr) (kvs:KVM):HO:=.ext (phi a kvs)
def Q2c (H:Hp):MI->V->Prop
 | .inl i,y=>y=.int i
 | .inr l,y=>∃b,y=.ref b/\H b=some (.tup (l.map V.int))
def Keys (H:Hp) (kvs:KVM):Prop:=∀p∈kvs,Q2c H p.1 p.2.1
end Mx
variable {l ea:PySem.Addr} {B h'':PySem.Heap}
namespace L2
open PySem PySem.Spec PyProof.Rows
open PySem.W (hideAll of_hideAll hideAll_get hideAll_none funFrames_hide)
structure Fly (P:Program) (w:World) (base B:Heap) (l:List PySem.Env) (H:Hp) (s:Shared) (C ea t:Addr) (H':Hp) (s':Shared):Prop where
 os:s'.os=s.os
 bare:AllBare s'.gens
 un:Un (frs l) [] H H' s.heap s'.heap
 hok:HOk P w H' s'.heap
 bb:base.StaysIn B
 dom:∀b o,H' b=some o->∃ob,B.get? b=some ob
 kp:∀b ob,s.heap.get? b=some ob->H b=none->b∉frs l->B.get? b=some ob
 th:∀b ob,s.heap.get? b=some ob->b∉frs l->∃o',B.get? b=some o'
 fly:Heap.FlyingW B l ea (.ref C) (.ref t) s'.heap
 new:s.heap.get? ea=none
theorem Qhk (ok:HOk P w H' h) (dom:∀b o,H' b=some o->∃ob,B.get? b=some ob) (k1:B.StaysIn h) (k2:B.StaysIn h''):HOk P w H' h'':=λa o e =>
 (ok a o e).stay (λb u hb q=>by
  have:∃o',H' b=some o':=by
   rcases hb with rfl | hb
   ·exact ⟨_,e⟩
   ·exact ⟨_,hb⟩
  obtain ⟨o',e'⟩:=this
  obtain ⟨ob,eb⟩:=dom b o' e'
  have:=k1 b ob eb
  rw [q] at this
  cases this
  exact k2 b _ eb) (λ_ q=>q) λ_ _ q=>q
section
variable {l:List PySem.Env}
theorem Fly.on (f:Fly P w base B l H s C ea t H' s') (hf:Heap.FlyingW B l ea (.ref C) (.ref t) h'') (hu:s'.heap.UpToSlots h''):Fly P w base B l H s C ea t H' { s' with heap:=h'' } where
 os:=f.os
 bare:=f.bare
 un:=by
  refine ⟨λb o e n nf _=>hf.1 b o (f.kp b o e n nf),λb o e n hb _=>?_,f.un.free,λb o e _=>?_,f.un.tups,f.un.frzs,f.un.tbls⟩
  ·obtain ⟨sl,e1⟩:=f.un.slot b o e n hb (by simp)
   obtain ⟨_,o',e2,nd⟩:=f.fly.2.2.1.mem hb
   have z:some { o with slots:=sl }=some o':=e1.symm.trans e2
   cases z
   obtain ⟨sl',e4⟩:=hu b { o with slots:=sl } e1 nd
   exact ⟨sl',e4⟩
  ·by_cases hb:b∈frs l
   ·obtain ⟨_,o',e2,nd⟩:=f.fly.2.2.1.mem hb
    obtain ⟨sl,e3⟩:=hu b _ e2 nd
    exact ⟨_,e3⟩
   ·obtain ⟨o',e1⟩:=f.th b o e hb
    exact ⟨_,hf.1 b o' e1⟩
 hok:=Qhk f.hok f.dom f.fly.1 hf.1
 bb:=f.bb
 dom:=f.dom
 kp:=f.kp
 th:=f.th
 fly:=hf
 new:=f.new
end
structure Cx.Plain (X:Cx):Prop where
 ex:X.ex=[]
 stk:X.stack=X.env::X.outer
 frame:X.env.frame=some X.env.locals
theorem Cx.Plain.mem (p:X.Plain):b∈frs X.stack↔b=X.env.locals\/b∈frs X.outer:=by
 rw [p.stk]
 unfold frs
 rw [List.filterMap_cons,p.frame]
 exact List.mem_cons
theorem Inv.old (I:Inv X pins σ H s) (e:X.s₀.heap.get? b=some o):b≠X.env.locals:=Nat.ne_of_lt (Nat.lt_of_lt_of_le (Heap.lt_size e) I.ok.above)
theorem Fly.out (p:X.Plain) (I:Inv X pins σ H s) (f:Fly X.prog X.w X.base B X.stack H s C ea t H' s') (hf:Heap.FlyingW B X.outer ea (.ref C) (.ref t) h'') (hu:s'.heap.UpToSlots h''):Fly X.prog X.w X.base B X.outer X.H₀ X.s₀ C ea t H' { s' with heap:=h'' }:=by
 have hex:∀b,b∉X.ex:=λb=>by rw [p.ex];simp
 have nst:∀b o,X.s₀.heap.get? b=some o->b∉frs X.outer->b∉frs X.stack:=λb o e nf z=>(p.mem.mp z).elim (I.old e) nf
 have kp:∀b ob,X.s₀.heap.get? b=some ob->X.H₀ b=none->b∉frs X.outer->B.get? b=some ob:=λb o e n nf=>f.kp b o (I.base.keep b o e n nf (hex b)) (I.base.free b o e n (hex b)) (nst b o e nf)
 have th:∀b ob,X.s₀.heap.get? b=some ob->b∉frs X.outer->∃o',B.get? b=some o':=λb o e nf=>by
  obtain ⟨o1,e1⟩:=I.base.there b o e (hex b)
  exact f.th b o1 e1 (nst b o e nf)
 refine ⟨f.os.trans I.os,f.bare,⟨λb o e n nf _=>hf.1 b o (kp b o e n nf),λb o e n hb _=>?_,λb o e n _=>?_,λb o e _=>?_,λb xs e=>f.un.tups b xs (I.base.tups b xs e),λb o u e=>f.un.frzs b o u (I.base.frzs b o u e),λb ps e=>?_⟩,Qhk f.hok f.dom f.fly.1 hf.1,f.bb,f.dom,kp,th,hf,?_⟩
 ·obtain ⟨sl,e1⟩:=I.base.slot b o e n hb (hex b)
  obtain ⟨sl2,e2⟩:=f.un.slot b _ e1 (I.base.free b o e n (hex b)) (p.mem.mpr (.inr hb)) (by simp)
  obtain ⟨_,o',e3,nd⟩:=f.fly.2.2.1.mem (p.mem.mpr (.inr hb))
  have z:=e2.symm.trans e3
  cases z
  obtain ⟨sl',e4⟩:=hu b { o with slots:=sl2 } e2 nd
  exact ⟨sl',e4⟩
 ·obtain ⟨sl,e1⟩:=I.base.any e n (hex b)
  exact f.un.free b _ e1 (I.base.free b o e n (hex b)) (by simp)
 ·by_cases hb:b∈frs X.outer
  ·obtain ⟨_,o',e3,nd⟩:=f.fly.2.2.1.mem (p.mem.mpr (.inr hb))
   obtain ⟨sl,e4⟩:=hu b _ e3 nd
   exact ⟨_,e4⟩
  ·obtain ⟨o',e1⟩:=th b o e hb
   exact ⟨_,hf.1 b o' e1⟩
 ·obtain ⟨m1,e1⟩:=I.base.tbls b ps e
  obtain ⟨m2,e2⟩:=f.un.tbls b _ e1
  exact ⟨m1++m2,by rw [e2,Array.append_assoc]⟩
 ·cases q:X.s₀.heap.get? ea with
  | none=>rfl
  | some o =>
   obtain ⟨o1,e1⟩:=I.base.there ea o q (hex ea)
   rw [f.new] at e1
   cases e1
end L2
variable {e₀:PySem.Expr} {cx:PySem.Str} {C0:PySem.Addr} {b₀:PySem.Stmt} {suite:List PySem.Stmt} {np hpos:PySem.Pos}
namespace L2
open PySem PySem.Spec PyProof.Rows
theorem U2 {M:Model} {j:Nat} {n:Str} {Q:Unit->Shared->Prop} (I:Inv X pins σ H s) (hN:X.N.Nodup) (hj:X.N[j]? = some n) (hl:X.env.kindOf n=some .local)
  (h:∀s',Inv X pins (σ.set j none) H s'->Q () s'):wpAny M A (do bindName X.env n .none;unbindBehindTheSuite X.env n pos) Q E s:=by
 obtain ⟨m,hn,hlo⟩:=id I.loc
 have hp:(X.env.scope.kind == .class || (X.env.scope.kind == .module && X.env.locals != X.env.globals))=false:=by rw [I.ok.kind];rfl
 refine wpAny_bind (wpAny_bindName (wpAny_storeName_local hl hn (λh₁ hn₁ hs₁=>?_) hp))
 unfold unbindBehindTheSuite
 refine wpAny_onRaise ?_
 unfold unbindName
 refine wpAny_bind (wpAny_point (wpAny_bind ?_))
 unfold deleteName
 simp only [hl,hp]
 rw [if_neg (by decide)]
 refine wpAny_bind (wpAny_nsDel_keeps hn₁ λh₂ v hn₂ hs₂=>?_)
 simp only [if_true,Option.isSome_some,Bool.not_true,Bool.false_eq_true,if_false]
 refine wpAny_pure (wpAny_point (h _ ?_))
 have hs:=hs₁.trans hs₂
 have hiσ:j<σ.length:=by rw [I.len];exact (List.getElem?_eq_some_iff.mp hj).1
 refine ⟨I.ok,I.os,I.bare,⟨λb o e n hb hx=>?_,λb o e n hb hx=>?_,I.base.free,λb o e hx=>?_,I.base.tups,I.base.frzs,I.base.tbls⟩,⟨_,hn₂,λi y v' e1 e2 e3=>?_⟩,λy c e=>?_,I.free,I.freeC,λp hp=>?_,λb ob e=>?_,by simpa using I.len⟩
 ·exact (hs.2 b (I.old e)).trans (I.base.keep b o e n hb hx)
 ·obtain ⟨sl,e1⟩:=I.base.slot b o e n hb hx
  exact ⟨sl,(hs.2 b (I.old e)).trans e1⟩
 ·obtain ⟨o',e1⟩:=I.base.there b o e hx
  exact ⟨o',(hs.2 b (I.old e)).trans e1⟩
 ·by_cases hij:i=j
  ·subst hij
   rw [List.getElem?_set_self hiσ] at e2
   cases e2
  ·rw [List.getElem?_set_ne (Ne.symm hij)] at e2
   obtain ⟨u',r',q⟩:=hlo i y v' e1 e2 e3
   refine ⟨u',r',?_⟩
   rcases q with ⟨k,e⟩ | ⟨k,c,e,z⟩
   ·refine .inl ⟨k,?_⟩
    have:y≠n:=λe=>hij (Qdk hN e1 (e ▸ hj))
    simp [this,e]
   ·exact .inr ⟨k,c,e,z.sameBut hs (I.cne y c e)⟩
 ·obtain ⟨w',z⟩:=I.cell y c e
  exact ⟨w',z.sameBut hs (I.cne y c e)⟩
 ·obtain ⟨e,n,ne,nf,d⟩:=I.pin p hp
  exact ⟨(hs.2 p.1 ne).trans e,n,ne,nf,d⟩
 ·refine (I.hok b ob e).stay (λc w' hc q=>(hs.2 c ?_).trans q) (λ_ q=>q) λ_ _ q=>q
  rintro rfl
  rcases hc with rfl | hc
  ·rw [I.free] at e;cases e
  ·rw [I.free] at hc;cases hc
def Cx.han (X:Cx) (ea:Addr):Cx:={ X with A:=X.A.mark (some (.ref ea)),calm:=false,xe:=λ_ _=>False }
theorem Cx.Ok.han (ok:X.Ok) (ea:Addr):(X.han ea).Ok :=
 ⟨ok.mod,ok.kind,ok.glob,ok.blt,ok.above,ok.inj,ok.has,ok.cab,λz=>(Bool.noConfusion z),ok.frames,ok.stk,ok.exf,ok.bs,ok.bsz,ok.noex,ok.exfs,ok.funs,ok.frf⟩
theorem Inv.han (I:Inv X pins σ H s) (ea:Addr):Inv (X.han ea) pins σ H s:=⟨I.ok.han ea,I.os,I.bare,I.base,I.loc,I.cell,I.free,I.freeC,I.pin,I.hok,I.len⟩
theorem Inv.unhan (ok:X.Ok) (I:Inv (X.han ea) pins σ H s):Inv X pins σ H s:=⟨ok,I.os,I.bare,I.base,I.loc,I.cell,I.free,I.freeC,I.pin,I.hok,I.len⟩
theorem Fly.landed (I:Inv X pins σ H s) (f:Fly X.prog X.w X.base B X.stack H s C ea t H' s'):∃(ob:Obj) (φ:Heap->Prop),ob.cls=.ref C/\H' ea=none/\Inv X pins σ (upd H' ea (.frz ob (.ext φ))) s':=by
 obtain ⟨ob,e,hc⟩:=f.fly.there
 have hn:H' ea=none:=by
  cases q:H' ea with
  | none=>rfl
  | some o =>
   obtain ⟨o1,e1⟩:=f.dom ea o q
   rw [f.fly.2.1] at e1
   cases e1
 refine ⟨ob,λh=>h.get? ea=some ob,hc,hn,I.call' (ch:=[]) f.os ?_ ?_ f.bare λb z=>nomatch z⟩
 ·refine ⟨f.un.keep,f.un.slot,λb o e1 n hx=>?_,f.un.there,λb xs e1=>?_,λb o u e1=>?_,λb ps e1=>?_⟩
  ·rw [Qk (λz=>by rw [z,f.new] at e1;cases e1)]
   exact f.un.free b o e1 n hx
  ·have:=f.un.tups b xs e1
   rw [Qk (λz=>by rw [z,hn] at this;cases this)];exact this
  ·have:=f.un.frzs b o u e1
   rw [Qk (λz=>by rw [z,hn] at this;cases this)];exact this
  ·obtain ⟨more,this⟩:=f.un.tbls b ps e1
   exact ⟨more,by rw [Qk (λz=>by rw [z,hn] at this;cases this)];exact this⟩
 ·intro a o e1
  by_cases ha:a=ea
  ·subst ha
   rw [Ql] at e1
   cases e1
   exact ⟨e,e,⟨ob,e⟩,λh1 h2 z k=>k ob z⟩
  ·rw [Qk ha] at e1
   refine (f.hok a o e1).stay (λb u _ q=>q) (λb q=>?_) (λb xs q=>?_) λb u v _ q _=>?_
   ·rw [Qk (λz=>by rw [z,hn] at q;cases q)];exact q
   ·rw [Qk (λz=>by rw [z,hn] at q;cases q)];exact q
   ·rw [Qk (λz=>by rw [z,hn] at q;cases q)];exact q
section
variable {j:Nat}
def Ends.un (D:Ends) (j:Nat):Ends:={ nx:=λσ' H''=>D.nx (σ'.set j none) H'',rt:=D.rt,bk:=λσ' H''=>D.bk (σ'.set j none) H'',ct:=λσ' H''=>D.ct (σ'.set j none) H'' }
end
end L2
variable {t:PySem.Tok} {Bx:String} {bmB:List PySem.Value} {os:PySem.OsState}
namespace L2
open PySem PySem.Spec PyProof.Rows
open PySem.W (findIn subIn mroIn clsIn Looks looks_findIn looks_subIn InstAt KitX)
structure ExcQ (K:Frag) (C:Addr):Prop where
 ga:findIn K (.ref C) "__getattribute__" = some (some (.builtin "BaseException.__getattribute__"))
 gt:findIn K (.ref C) "__getattr__" = some none
 cl:findIn K (.ref C) "__class__" = some (some (.builtin "object.__class__"))
 so:subIn K (.ref C) (.type "object")=some true
 sb:subIn K (.ref C) (.type "BaseException")=some true
 kc:(clsIn K C).isSome=true
section
variable {g:Array GenState} {d:Drawn} {t:Nat}
theorem Qe2 {M:Model} {nameV:Value} {Q:Unit->Shared->Prop} (X:K.In h) (q:ExcQ K C) (hx:h.get? a=some o) (hc:o.cls=.ref C) (hq:Q () ⟨h,g,d,t,os⟩):wpAny M A (checkBuiltinCall "BaseException.__getattribute__" ⟨[.ref a,nameV],[]⟩) Q E ⟨h,g,d,t,os⟩:=by
 have k1:builtinKind "BaseException.__getattribute__" = some .slot:=by decide +kernel
 have k2:splitId "BaseException.__getattribute__" = some ("BaseException","__getattribute__"):=by decide +kernel
 have L1:=looks_subIn (M:=M) X q.sb
 have ha:=F.args_bexc_ga (.ref a) nameV
 simp only [checkBuiltinCall,k1,k2]
 refine wpAny_bind ?_
 unfold isInstance
 repeat (first | (with_reducible refine wpAny_loadPart_at hx ?_;rw [hc]) | with_reducible refine L1.at ?_ | wp_step)
 exact hq
theorem Qtd (X:K.In h) (q:ExcQ K C) (hx:h.get? a=some o) (hc:o.cls=.ref C) (hq:R (.ok (.ret (.ref C))) ⟨h,g,d,t,os⟩) :
  codeAny (model prog w) A (.call (.builtin "getset_descriptor.__get__") ⟨[.builtin "object.__class__",.ref a,.ref C],[]⟩) R ⟨h,g,d,t,os⟩:=by
 have ty5:(⟨h,g,d,t,os⟩:Shared).TypeIs (.builtin "object.__class__") "getset_descriptor":=F.typeOf_object_class
 have L1:=looks_subIn (M:=model prog w) X q.so
 rw [← F.owner_object_class] at L1
 refine codeAny_call_builtin F.slot_gs_get.plain F.entry_gs_get (F.slot_gs_get.check _ _ _ _ _ _ _ _ ty5 (F.args_gs_get _ _ _) ?_)
 repeat (any_goals (first | assumption | (with_reducible refine wpAny_loadPart_at hx ?_;rw [hc]) | with_reducible refine L1.at ?_ | wp_step))
 refine ⟨Code.quiet_builtin _ (by decide +kernel),codeAny_builtin F.entry_object_class ?_⟩
 repeat (any_goals (first | assumption | (with_reducible refine wpAny_loadPart_at hx ?_;rw [hc]) | wp_step))
theorem Qld {Q:Fin->Shared->Prop} (X:K.In h) (q:ExcQ K C) (hx:h.get? a=some o) (hc:o.cls=.ref C) (hq:Q (.done (.ret (.ref C))) ⟨h,g,d,t,os⟩) :
  wpAny (model prog w) A (Builtin.«object.__getattribute__» ⟨[.ref a,.str "__class__" tk],[]⟩) Q E ⟨h,g,d,t,os⟩:=by
 have ty5:(⟨h,g,d,t,os⟩:Shared).TypeIs (.builtin "object.__class__") "getset_descriptor":=F.typeOf_object_class
 have f5:=F.typeOf_object_class
 have f6:=F.slot_gs_get.lookup
 have f7:=F.slot_gs_set.lookup
 have L1:=looks_findIn (M:=model prog w) X q.cl
 repeat (any_goals (first | assumption | (with_reducible refine wpAny_loadPart_at hx ?_;rw [hc]) | with_reducible refine L1.at ?_ | wp_step))
 refine Qtd X q hx hc ?_
 repeat (any_goals (first | assumption | wp_step))
theorem Qyl (FB:ExcAttrBase Bx bmB) (X:K.In h) (q:ExcQ K C) (hx:h.get? a=some o) (hc:o.cls=.ref C) (hq:Q (.ref C) ⟨h,g,d,t,os⟩) :
  wpAny (model prog w) A (getAttrBy (.ref a) (.str "__class__" tk) false) Q E ⟨h,g,d,t,os⟩:=by
 have f3:=FB.ga.bind (.ref a)
 have hx2:(Value.builtin "BaseException.__getattribute__" == Value.builtin "object.__getattribute__")=false:=by decide +kernel
 have hx1:(onTheHeap (Value.ref C) && Value.builtin "BaseException.__getattribute__" == Value.builtin "object.__getattribute__")=false:=by rw [hx2];rfl
 have L1:=looks_findIn (M:=model prog w) X q.ga
 have L2:=looks_findIn (M:=model prog w) X q.gt
 repeat (any_goals (first | assumption | (with_reducible refine wpAny_loadPart_at hx ?_;rw [hc]) | with_reducible refine L1.at ?_ | with_reducible refine L2.at ?_ | wp_step))
 refine codeAny_call_builtin FB.ga.plain F.entry_bexc_ga (Qe2 X q hx hc (Qld X q hx hc ?_))
 repeat (any_goals (first | assumption | wp_step))
theorem Qle {Q:Option Value->Shared->Prop} (FB:ExcAttrBase Bx bmB) (X:K.In h) (q:ExcQ K C) (hx:h.get? a=some o) (hc:o.cls=.ref C) (hq:Q (some (.ref C)) ⟨h,g,d,t+1,os⟩):wpAny (model prog w) A (getAttr? (.ref a) "__class__") Q E ⟨h,g,d,t,os⟩:=by
 unfold getAttr? getAttrBy?
 repeat (any_goals (first | assumption | with_reducible apply Qyl FB X q hx hc | wp_step))
theorem Qnw (FB:ExcAttrBase Bx bmB) (q:ExcQ K C):KitX K (.ref a) (.ref C) (λh=>h.get? a=some o/\o.cls=.ref C) where
 ty:=λM h X p=>by
  rw [← p.2]
  exact (Looks.ld p.1).andThen .now
 it:=λM h X p=>by
  have z:=q.kc
  unfold clsIn at z
  split at z
  ·rename_i c' d' cd' sl' ho
   intro A' Q' E' s' k qq
   unfold isType loadHead
   exact wpAny_bind (wpAny_loadPart (k _ _ (X _ _ ho)) (wpAny_pure qq))
  ·cases z
 ne:=λh tp dd its n sl X htp=>by
  refine Bool.eq_false_iff.mpr λqq=>?_
  have e:C=tp:=Value.ref.inj (beq_iff_eq.mp qq)
  subst e
  have z:=q.kc
  unfold clsIn at z
  split at z
  ·rename_i c' d' cd' sl' ho
   have y:=(X _ _ ho).symm.trans htp
   cases y
  ·cases z
 ca:=λ{prog w A E Q s} X p k=>by
  obtain ⟨h,g,d,t,os⟩:=s
  exact Qle FB X q p.1 p.2 k
end
def clsV:V->Option Value
 | .ref c=>some (.ref c)
 | .ty n=>some (.type n)
 | _=>none
theorem Qom {c:Value} (r:RelV v u) (h:clsV v=some c):u=c:=by
 cases v with
 | ref a=>cases h;exact r
 | ty n=>cases h;exact r
 | _=>cases h
theorem Qop (FB:ExcAttrBase Bx bmB):Vf X (.builtin "isinstance") (λxs H Q=>∃a o φ C v c b,xs=[.ref a,v]/\H a=some (.frz o (.ext φ))/\o.cls=.ref C/\ExcQ X.K C/\clsV v=some c/\kitOne X.K (.ref C) c=some b/\Q (.bl b) H):=by
 intro pins s σ H xs us Q I r h
 obtain ⟨a,o,φ,C,v,c,b,rfl,ha,hc,q,hv,hk,hq⟩:=h
 obtain ⟨u,u2,rfl,ru,ru2⟩:=Qhy r
 cases ru
 rw [Qom ru2 hv]
 obtain ⟨e,_⟩:=I.hok a _ ha
 exact kia_one (Qnw FB q) I.kIn ⟨e,hc⟩ hk (by intro z;cases z) λtk=>⟨.bl b,H,I.tok _,rfl,hq⟩
end L2
variable {xs:List L2.V}
namespace L2
open PySem PySem.Spec PyProof.Rows
theorem Go:∀{a b:List Int},a.map V.int=b.map V.int->a=b
 | [],[],_=>rfl
 | [],_::_,h=>by cases h
 | _::_,[],h=>by cases h
 | x::a,y::b,h=>by
  simp only [List.map_cons,List.cons.injEq,V.int.injEq] at h
  rw [h.1,Go h.2]
structure Lam where
 qual:Str
 args:Arguments
 body:Expr
 scope:Scope
 names:List Str
abbrev anyO:HO:=.ext λ_=>True
abbrev Lam.obj (L:Lam) (cl:List (Str × Addr)) (pm:Value) (c':Addr) (ctv:Value):Obj:=PySem.W.kla_obj "<lambda>" L.qual L.args L.body L.scope cl pm c' ctv
def Qhx (H:Hp) (L:Lam) (a:Addr) (cl:List (Str × Addr)):Prop :=
 ∃(c':Addr) (oc:Obj) (vs:Array Value) (t:Tok) (pm ctv:Value) (u:HO),H a=some (.frz (L.obj cl pm c' ctv) anyO)/\H c'=some (.frz oc u)/\oc.data=.fields vs/\vs[1]? = some (.str L.qual t)
def Xl (H:Hp):List (Str × Addr)->List V->Prop
 | [],[]=>True
 | p::cl,x::xs=>(∃oo v,H p.2=some (.frz oo anyO)/\oo.data=.cell (some v)/\RelV x v)/\Xl H cl xs
 | _,_=>False
def Qox (H:Hp) (L:Lam) (a:Addr) (xs:List V):Prop :=
 ∃cl:List (Str × Addr),Qhx H L a cl/\cl.map (·.1)=L.names/\(cl.map (·.2)).Nodup/\Xl H cl xs
section
variable {L:Lam}
theorem Qhx.keeps (hi:∀b o u,H b=some (.frz o u)->H' b=some (.frz o u)) (x:Qhx H L a cl):Qhx H' L a cl:=by
 obtain ⟨c',oc,vs,t,pm,ctv,u,h1,h2,r⟩:=x
 exact ⟨c',oc,vs,t,pm,ctv,u,hi _ _ _ h1,hi _ _ _ h2,r⟩
theorem Xl.keeps (hi:∀b o u,H b=some (.frz o u)->H' b=some (.frz o u)):∀{cl:List (Str × Addr)} {xs:List V},Xl H cl xs->Xl H' cl xs
 | [],[],_=>trivial
 | p::cl,x::xs,⟨⟨oo,v,h1,r⟩,q⟩=>⟨⟨oo,v,hi _ _ _ h1,r⟩,Xl.keeps hi q⟩
 | [],_::_,h=>h.elim
 | _::_,[],h=>h.elim
theorem Qox.keeps (hi:∀b o u,H b=some (.frz o u)->H' b=some (.frz o u)) (x:Qox H L a xs):Qox H' L a xs:=by
 obtain ⟨cl,h1,h2,h3,h4⟩:=x
 exact ⟨cl,h1.keeps hi,h2,h3,h4.keeps hi⟩
end
end L2
namespace PV
open PySem PySem.Spec L2
inductive Ty where
 | int | bool | str | tuple | list | dict
 deriving DecidableEq
def Ty.nm:Ty->String
 | .int=>"int" | .bool=>"bool" | .str=>"str" | .tuple=>"tuple" | .list=>"list" | .dict=>"dict"
inductive KC where
 | any (a:Addr)
 | fn (x:Str)
 | int (i:Int)
 | tup (ks:List KC)
mutual
inductive IsKC (K:Frag):KC->V->Prop
 | any (a:Addr):IsKC K (.any a) (.ref a)
 | fn {x:Str} {f:Addr} (h:nsIn K mainGlobals x=some (some (.ref f))):IsKC K (.fn x) (.ref f)
 | int (i:Int):IsKC K (.int i) (.int i)
 | tup {a:Addr} {xs:List V} {ks:List KC} {o:Obj} {its:Array Value} {n:Nat} (h1:K.lookup a=some o) (h2:o.cls=.type "tuple") (h3:o.data=.seq its n) (h4:its.size<=sizeLine) (h5:Vals xs its.toList) (r:AreKC K ks xs):IsKC K (.tup ks) (.ref a)
inductive AreKC (K:Frag):List KC->List V->Prop
 | nil:AreKC K [] []
 | cons {c:KC} {v:V} {cs:List KC} {vs:List V} (h:IsKC K c v) (r:AreKC K cs vs):AreKC K (c::cs) (v::vs)
end
inductive D where
 | non
 | bl (b:Bool)
 | int (i:Int)
 | str (x:Str)
 | tup (xs:List D)
 | lst (xs:List D)
 | dik (kvs:List (Key × D))
 | dit (kvs:List (List Key × D))
 | kls (xs:List D)
 | ty (t:Ty)
 | fdk (kvs:List (Key × D))
 | ftp (xs:List D)
 | fls (xs:List D)
 | fdt (kvs:List (List Key × D))
 | obj (x:Str) (fs:List (Str × Int))
 | clo (L:Lam) (ds:List D)
 | kc (c:KC)
 | dmx (kvs:List (Mx.MI × D))
 | fmx (kvs:List (Mx.MI × D))
end PV
variable {o:Option PV.D} {k:PV.D->Prop} {ys:List PV.D} {ks:List PV.KC} {d:PV.D} {G F:List PySem.Addr} {ds:List (L2.Key × PV.D)}
namespace PV
open PySem PySem.Spec L2
def imm:HO->Bool
 | .tup _=>true
 | .frz _ _=>true
 | _=>false
def FzL (K:Frag) (H:Hp) (a:Addr) (xs:List V):Prop :=
 (∃o,H a=some (.frz o (.lst xs))) \/
  ∃(o:Obj) (its:Array Value) (n:Nat),K.lookup a=some o/\o.cls=.type "list" /\ o.dict=none/\o.data=.seq its n/\its.size<=sizeLine/\Vals xs its.toList
theorem FzL.sq (h:FzL K H a xs):SqL K H a xs:=by
 rcases h with h | h
 ·exact .inl (.inr h)
 ·exact .inr h
mutual
inductive Rep (K:Frag) (H:Hp):D->V->List Addr->Prop
 | non:Rep K H .non .non []
 | bl (b:Bool):Rep K H (.bl b) (.bl b) []
 | int (i:Int):Rep K H (.int i) (.int i) []
 | str (x:Str):Rep K H (.str x) (.str x) []
 | tup {a:Addr} {xs:List V} {ds:List D} {F:List Addr} (e:H a=some (.tup xs)) (r:Reps K H ds xs F):Rep K H (.tup ds) (.ref a) F
 | lst {a:Addr} {xs:List V} {ds:List D} {F:List Addr} (e:H a=some (.lst xs)) (r:Reps K H ds xs F):Rep K H (.lst ds) (.ref a) (a::F)
 | dik {a:Addr} {kvs:List (Key × V)} {ds:List (Key × D)} {F:List Addr} (e:H a=some (.dK kvs)) (r:RepK K H ds kvs F):Rep K H (.dik ds) (.ref a) (a::F)
 | dit {a:Addr} {kvs:List (List Key × V)} {ds:List (List Key × D)} {F:List Addr} (e:H a=some (.dT kvs)) (r:RepT K H ds kvs F):Rep K H (.dit ds) (.ref a) (a::F)
 | kls {a:Addr} {xs:List V} {ds:List D} (e:FzL K H a xs) (r:Reps K H ds xs []):Rep K H (.kls ds) (.ref a) []
 | ty (t:Ty):Rep K H (.ty t) (.ty t.nm) []
 | fdk {a:Addr} {o:Obj} {kvs:List (Key × V)} {ds:List (Key × D)} {F:List Addr} (e:H a=some (.frz o (.dK kvs))) (r:RepK K H ds kvs F):Rep K H (.fdk ds) (.ref a) F
 | ftp {a:Addr} {o:Obj} {xs:List V} {ds:List D} (e:H a=some (.frz o (.tup xs))) (hd:o.dict=none) (r:Reps K H ds xs []):Rep K H (.ftp ds) (.ref a) []
 | fls {a:Addr} {o:Obj} {xs:List V} {ds:List D} (e:H a=some (.frz o (.lst xs))) (r:Reps K H ds xs []):Rep K H (.fls ds) (.ref a) []
 | fdt {a:Addr} {o:Obj} {kvs:List (List Key × V)} {ds:List (List Key × D)} {F:List Addr} (e:H a=some (.frz o (.dT kvs))) (r:RepT K H ds kvs F):Rep K H (.fdt ds) (.ref a) F
 | obj {a:Addr} {x:Str} {o:Obj} {φ:Heap->Prop} {fs:List (Str × Int)} (e:H a=some (.frz o (.ext φ))) (hc:∃C,o.cls=.ref C/\nsIn K mainGlobals x=some (some (.ref C))) (hf:fs=[]\/∃dx od vs,o.dict=some dx/\o.data=.fields vs/\H dx=some (.frz od (.xd (fs.map λp=>(p.1,V.int p.2))))):Rep K H (.obj x fs) (.ref a) []
 | clo {a:Addr} {L:Lam} {xs:List V} {ds:List D} {F:List Addr} (e:Qox H L a xs) (r:Reps K H ds xs F):Rep K H (.clo L ds) (.ref a) F
 | kc {c:KC} {v:V} (h:IsKC K c v):Rep K H (.kc c) v []
 | dmx {a:Addr} {kvs:Mx.KVM} {ds:List (Mx.MI × D)} (e:H a=some (Mx.mixO a kvs)) (hk:Mx.Keys H kvs) (hm:kvs.map (·.1)=ds.map (·.1)) (r:Reps K H (ds.map (·.2)) (kvs.map (·.2.2)) []):Rep K H (.dmx ds) (.ref a) [a]
 | fmx {a:Addr} {o:Obj} {kvs:Mx.KVM} {ds:List (Mx.MI × D)} (e:H a=some (.frz o (Mx.mixO a kvs))) (hk:Mx.Keys H kvs) (hm:kvs.map (·.1)=ds.map (·.1)) (r:Reps K H (ds.map (·.2)) (kvs.map (·.2.2)) []):Rep K H (.fmx ds) (.ref a) []
inductive Reps (K:Frag) (H:Hp):List D->List V->List Addr->Prop
 | nil:Reps K H [] [] []
 | cons {d:D} {v:V} {ds:List D} {vs:List V} {F G:List Addr} (h:Rep K H d v F) (r:Reps K H ds vs G):Reps K H (d::ds) (v::vs) (F++G)
inductive RepK (K:Frag) (H:Hp):List (Key × D)->List (Key × V)->List Addr->Prop
 | nil:RepK K H [] [] []
 | cons {k:Key} {d:D} {v:V} {ds:List (Key × D)} {vs:List (Key × V)} {F G:List Addr} (h:Rep K H d v F) (r:RepK K H ds vs G):RepK K H ((k,d)::ds) ((k,v)::vs) (F++G)
inductive RepT (K:Frag) (H:Hp):List (List Key × D)->List (List Key × V)->List Addr->Prop
 | nil:RepT K H [] [] []
 | cons {k:List Key} {d:D} {v:V} {ds:List (List Key × D)} {vs:List (List Key × V)} {F G:List Addr} (h:Rep K H d v F) (r:RepT K H ds vs G):RepT K H ((k,d)::ds) ((k,v)::vs) (F++G)
end
def ImmK (H H':Hp):Prop:=∀b ob,H b=some ob->imm ob=true->H' b=some ob
theorem ImmK.fzL (hi:ImmK H H') (e:FzL K H a xs):FzL K H' a xs:=by
 rcases e with ⟨o,e⟩ | e
 ·exact .inl ⟨o,hi _ _ e rfl⟩
 ·exact .inr e
theorem ImmK.keys {H H':Hp} (hi:ImmK H H') {kvs:Mx.KVM} (h:Mx.Keys H kvs):Mx.Keys H' kvs:=λp hp=>by
 have:=h p hp
 revert this
 cases p.1 with
 | inl i=>exact id
 | inr l=>exact λ⟨b,e1,e2⟩=>⟨b,e1,hi _ _ e2 rfl⟩
theorem Rep.frame (hi:ImmK H H') (r:Rep K H d v F):(∀a∈F,H' a=H a)->Rep K H' d v F:=by
 refine Rep.rec (motive_1:=λd v F _=>(∀a∈F,H' a=H a)->Rep K H' d v F) (motive_2:=λd v F _=>(∀a∈F,H' a=H a)->Reps K H' d v F) (motive_3:=λd v F _=>(∀a∈F,H' a=H a)->RepK K H' d v F) (motive_4:=λd v F _=>(∀a∈F,H' a=H a)->RepT K H' d v F) ?_ ?_ ?_ ?_ ?_ ?_ ?_ ?_ ?_ ?_ ?_ ?_ ?_ ?_ ?_ ?_ ?_ ?_ ?_ ?_ ?_ ?_ ?_ ?_ ?_ r
 ·exact λ_=>.non
 ·exact λb _=>.bl b
 ·exact λb _=>.int b
 ·exact λb _=>.str b
 ·exact λe _ ih k=>.tup (hi _ _ e rfl) (ih k)
 ·exact λe _ ih k=>.lst ((k _ (List.mem_cons_self)).trans e) (ih λa h=>k a (List.mem_cons_of_mem _ h))
 ·exact λe _ ih k=>.dik ((k _ (List.mem_cons_self)).trans e) (ih λa h=>k a (List.mem_cons_of_mem _ h))
 ·exact λe _ ih k=>.dit ((k _ (List.mem_cons_self)).trans e) (ih λa h=>k a (List.mem_cons_of_mem _ h))
 ·exact λe _ ih k=>.kls (hi.fzL e) (ih k)
 ·exact λt _=>.ty t
 ·exact λe _ ih k=>.fdk (hi _ _ e rfl) (ih k)
 ·exact λe hd _ ih k=>.ftp (hi _ _ e rfl) hd (ih k)
 ·exact λe _ ih k=>.fls (hi _ _ e rfl) (ih k)
 ·exact λe _ ih k=>.fdt (hi _ _ e rfl) (ih k)
 ·exact λe hc hf _=>.obj (hi _ _ e rfl) hc (hf.imp id λ⟨dx,od,vs,h1,h0,h2⟩=>⟨dx,od,vs,h1,h0,hi _ _ h2 rfl⟩)
 ·exact λe _ ih k=>.clo (e.keeps λ_ _ _ q=>hi _ _ q rfl) (ih k)
 ·exact λh _=>.kc h
 ·exact λe hk hm _ ih k=>.dmx ((k _ (List.mem_cons_self)).trans e) (hi.keys hk) hm (ih λa h=>nomatch h)
 ·exact λe hk hm _ ih k=>.fmx (hi _ _ e rfl) (hi.keys hk) hm (ih λa h=>nomatch h)
 ·exact λ_=>.nil
 ·exact λ_ _ ih1 ih2 k=>.cons (ih1 λa q=>k a (List.mem_append.mpr (.inl q))) (ih2 λa q=>k a (List.mem_append.mpr (.inr q)))
 ·exact λ_=>.nil
 ·exact λ_ _ ih1 ih2 k=>.cons (ih1 λa q=>k a (List.mem_append.mpr (.inl q))) (ih2 λa q=>k a (List.mem_append.mpr (.inr q)))
 ·exact λ_=>.nil
 ·exact λ_ _ ih1 ih2 k=>.cons (ih1 λa q=>k a (List.mem_append.mpr (.inl q))) (ih2 λa q=>k a (List.mem_append.mpr (.inr q)))
theorem Reps.frame (hi:ImmK H H') {d:List D} {v:List V} (r:Reps K H d v F) (k:∀a∈F,H' a=H a):Reps K H' d v F:=by
 induction d generalizing v F with
 | nil=>cases r;exact .nil
 | cons d ds ih=>cases r with | cons h r=>exact .cons (Rep.frame hi h λa q=>k a (List.mem_append.mpr (.inl q))) (ih r λa q=>k a (List.mem_append.mpr (.inr q)))
theorem RepK.frame (hi:ImmK H H') {d:List (Key × D)} {v:List (Key × V)} (r:RepK K H d v F) (k:∀a∈F,H' a=H a):RepK K H' d v F:=by
 induction d generalizing v F with
 | nil=>cases r;exact .nil
 | cons d ds ih=>cases r with | cons h r=>exact .cons (Rep.frame hi h λa q=>k a (List.mem_append.mpr (.inl q))) (ih r λa q=>k a (List.mem_append.mpr (.inr q)))
theorem RepT.frame (hi:ImmK H H') {d:List (List Key × D)} {v:List (List Key × V)} (r:RepT K H d v F) (k:∀a∈F,H' a=H a):RepT K H' d v F:=by
 induction d generalizing v F with
 | nil=>cases r;exact .nil
 | cons d ds ih=>cases r with | cons h r=>exact .cons (Rep.frame hi h λa q=>k a (List.mem_append.mpr (.inl q))) (ih r λa q=>k a (List.mem_append.mpr (.inr q)))
theorem Rep.dom (r:Rep K H d v F):∀a∈F,∃ob,H a=some ob/\imm ob=false:=by
 have cn:∀{b:Addr} {F:List Addr} {ob:HO},H b=some ob->imm ob=false->(∀a∈F,∃ob,H a=some ob/\imm ob=false)->∀a∈b::F,∃ob,H a=some ob/\imm ob=false:=λe hb ih a m=>(List.mem_cons.mp m).elim (λz=>z ▸ ⟨_,e,hb⟩) (ih a)
 have ap:∀{F G:List Addr},(∀a∈F,∃ob,H a=some ob/\imm ob=false)->(∀a∈G,∃ob,H a=some ob/\imm ob=false)->∀a∈F++G,∃ob,H a=some ob/\imm ob=false:=λih1 ih2 a m=>(List.mem_append.mp m).elim (ih1 a) (ih2 a)
 have no:∀a∈([]:List Addr),∃ob,H a=some ob/\imm ob=false:=λ_ m=>nomatch m
 refine Rep.rec (motive_1:=λ_ _ F _=>∀a∈F,∃ob,H a=some ob/\imm ob=false) (motive_2:=λ_ _ F _=>∀a∈F,∃ob,H a=some ob/\imm ob=false) (motive_3:=λ_ _ F _=>∀a∈F,∃ob,H a=some ob/\imm ob=false) (motive_4:=λ_ _ F _=>∀a∈F,∃ob,H a=some ob/\imm ob=false) no (λ_=>no) (λ_=>no) (λ_=>no) (λ_ _ ih=>ih) (λe _ ih=>cn e rfl ih) (λe _ ih=>cn e rfl ih) (λe _ ih=>cn e rfl ih) (λ_ _ _=>no) (λ_=>no) (λ_ _ ih=>ih) (λ_ _ _ _=>no) (λ_ _ _=>no) (λ_ _ ih=>ih) (λ_ _ _=>no) (λ_ _ ih=>ih) (λ_=>no) (λe _ _ _ _=>cn e rfl no) (λ_ _ _ _ _=>no) no (λ_ _=>ap) no (λ_ _=>ap) no (λ_ _=>ap) r
theorem Reps.dom {d:List D} {v:List V} (r:Reps K H d v F):∀a∈F,∃ob,H a=some ob/\imm ob=false:=by
 induction d generalizing v F with
 | nil=>cases r;exact λ_ m=>nomatch m
 | cons d ds ih=>cases r with | cons h r=>exact λa m=>(List.mem_append.mp m).elim (Rep.dom h a) (ih r a)
mutual
def D.pure:D->Bool
 | .tup xs=>Qi xs
 | .lst _=>false
 | .dik _=>false
 | .dit _=>false
 | .kls _=>true
 | .non=>true
 | .bl _=>true
 | .int _=>true
 | .str _=>true
 | .ty _=>true
 | .fdk kvs=>kvs.isEmpty
 | .ftp _=>true
 | .fls _=>true
 | .fdt _=>false
 | .obj _ _=>true
 | .clo _ _=>false
 | .kc _=>true
 | .dmx _=>false
 | .fmx _=>false
def Qi:List D->Bool
 | []=>true
 | d::r=>d.pure && Qi r
end
theorem Qel {xs:List D}:Qi xs=true↔∀x∈xs,x.pure=true:=by
 induction xs with
 | nil=>simp [Qi]
 | cons d r ih=>simp only [Qi,Bool.and_eq_true,ih,List.mem_cons,forall_eq_or_imp]
theorem Rep.pure (r:Rep K H d v F):d.pure=true->F=[]/\Rep K H d v []:=by
 have no:∀{P:Prop} {b:Bool},b=false->b=true->P:=λh h'=>absurd (h.symm.trans h') (by simp)
 refine Rep.rec (motive_1:=λd v F _=>d.pure=true->F=[]/\Rep K H d v []) (motive_2:=λd v F _=>Qi d=true->F=[]/\Reps K H d v []) (motive_3:=λ_ _ _ _=>True) (motive_4:=λ_ _ _ _=>True) ?_ ?_ ?_ ?_ ?_ ?_ ?_ ?_ ?_ ?_ ?_ ?_ ?_ ?_ ?_ ?_ ?_ ?_ ?_ ?_ ?_ trivial (λ_ _ _ _=>trivial) trivial (λ_ _ _ _=>trivial) r
 ·exact λ_=>⟨rfl,.non⟩
 ·exact λb _=>⟨rfl,.bl b⟩
 ·exact λb _=>⟨rfl,.int b⟩
 ·exact λb _=>⟨rfl,.str b⟩
 ·exact λe _ ih p=>⟨(ih (by rw [D.pure] at p;exact p)).1,.tup e (ih (by rw [D.pure] at p;exact p)).2⟩
 ·exact λ_ _ _=>no (by rw [D.pure])
 ·exact λ_ _ _=>no (by rw [D.pure])
 ·exact λ_ _ _=>no (by rw [D.pure])
 ·exact λe r _ _=>⟨rfl,.kls e r⟩
 ·exact λb _=>⟨rfl,.ty b⟩
 ·intro a o kvs ds F e r _ p
  have hd:ds=[]:=by rw [D.pure] at p;exact List.isEmpty_iff.mp p
  subst hd
  cases r
  exact ⟨rfl,.fdk e .nil⟩
 ·exact λe hd r _ _=>⟨rfl,.ftp e hd r⟩
 ·exact λe r _ _=>⟨rfl,.fls e r⟩
 ·exact λ_ _ _=>no (by rw [D.pure])
 ·exact λe hc hf _=>⟨rfl,.obj e hc hf⟩
 ·exact λ_ _ _=>no (by rw [D.pure])
 ·exact λh _=>⟨rfl,.kc h⟩
 ·exact λ_ _ _ _ _=>no (by rw [D.pure])
 ·exact λ_ _ _ _ _=>no (by rw [D.pure])
 ·exact λ_=>⟨rfl,.nil⟩
 ·intro _ _ _ _ _ _ _ _ ih1 ih2 p
  rw [Qi,Bool.and_eq_true] at p
  obtain ⟨e1,r1⟩:=ih1 p.1
  obtain ⟨e2,r2⟩:=ih2 p.2
  subst e1 e2
  exact ⟨rfl,.cons (F:=[]) (G:=[]) r1 r2⟩
theorem Reps.pure {d:List D} {v:List V} (r:Reps K H d v F) (p:Qi d=true):F=[]/\Reps K H d v []:=by
 induction d generalizing v F with
 | nil=>cases r;exact ⟨rfl,.nil⟩
 | cons d ds ih =>
  cases r with
  | cons h r =>
   rw [Qi,Bool.and_eq_true] at p
   obtain ⟨e1,r1⟩:=h.pure p.1
   obtain ⟨e2,r2⟩:=ih r p.2
   subst e1 e2
   exact ⟨rfl,.cons (F:=[]) (G:=[]) r1 r2⟩
theorem Reps.length {ds:List D} (r:Reps K H ds xs F):xs.length=ds.length:=by
 induction ds generalizing xs F with
 | nil=>cases r;rfl
 | cons d ds ih=>cases r with | cons h r=>simp [ih r]
theorem Reps.append {ds es:List D} {ys:List V} (r:Reps K H ds xs F) (q:Reps K H es ys G):Reps K H (ds++es) (xs++ys) (F++G):=by
 induction ds generalizing xs F with
 | nil=>cases r;exact q
 | cons d ds ih=>cases r with | cons h r=>rw [List.append_assoc];exact .cons h (ih r)
theorem Reps.one {x:V} (h:Rep K H d x F):Reps K H [d] [x] F:=by
 have:=Reps.cons h (Reps.nil (K:=K) (H:=H))
 rwa [List.append_nil] at this
theorem Reps.snoc {ds:List D} {x:V} (r:Reps K H ds xs F) (h:Rep K H d x G):Reps K H (ds++[d]) (xs++[x]) (F++G):=r.append (.one h)
theorem Reps.split {ds:List D} (r:Reps K H ds xs F) (h:ds[i]? = some d) :
  ∃x A B C,xs[i]? = some x/\F=A++B++C/\Rep K H d x B/\Reps K H (ds.take i) (xs.take i) A/\Reps K H (ds.drop (i+1)) (xs.drop (i+1)) C:=by
 induction ds generalizing xs F i with
 | nil=>simp at h
 | cons e ds ih =>
  cases r with
  | @cons _ v _ vs F G p r =>
   cases i with
   | zero =>
    simp at h
    subst h
    exact ⟨v,[],F,G,rfl,by simp,p,.nil,by simpa using r⟩
   | succ i =>
    obtain ⟨x,A,B,C,h1,h2,h3,h4,h5⟩:=ih r (i:=i) (by simpa using h)
    exact ⟨x,F++A,B,C,by simpa using h1,by rw [h2];simp,h3,by simpa using Reps.cons p h4,by simpa using h5⟩
theorem Reps.get {ds:List D} (r:Reps K H ds xs F) (h:ds[i]? = some d):∃x B,xs[i]? = some x/\Rep K H d x B/\B.Sublist F:=by
 obtain ⟨x,A,B,C,h1,h2,h3,_⟩:=r.split h
 exact ⟨x,B,h1,h3,h2 ▸ (List.sublist_append_right A B).trans (List.sublist_append_left _ C)⟩
theorem U4 {α:Type} {l:List α} {a:α} (h:i<l.length):l.set i a=l.take i++a::l.drop (i+1):=by
 rw [List.set_eq_take_append_cons_drop,if_pos h]
theorem Reps.take {ds:List D} (i:Nat) (r:Reps K H ds xs F):∃G,Reps K H (ds.take i) (xs.take i) G/\G.Sublist F:=by
 induction ds generalizing xs F i with
 | nil=>cases r;exact ⟨[],by simpa using Reps.nil,List.Sublist.slnil⟩
 | cons d ds ih =>
  cases r with
  | @cons _ v _ vs F G p r =>
   cases i with
   | zero=>exact ⟨[],by simpa using Reps.nil,List.nil_sublist _⟩
   | succ i =>
    obtain ⟨G',q,s⟩:=ih i r
    exact ⟨F++G',by simpa using Reps.cons p q,List.Sublist.append (List.Sublist.refl _) s⟩
theorem Reps.drop {ds:List D} (i:Nat) (r:Reps K H ds xs F):∃G,Reps K H (ds.drop i) (xs.drop i) G/\G.Sublist F:=by
 induction ds generalizing xs F i with
 | nil=>cases r;exact ⟨[],by simpa using Reps.nil,List.Sublist.slnil⟩
 | cons d ds ih =>
  cases i with
  | zero=>exact ⟨F,by simpa using r,List.Sublist.refl _⟩
  | succ i =>
   cases r with
   | @cons _ v _ vs F G p r =>
    obtain ⟨G',q,s⟩:=ih i r
    exact ⟨G',by simpa using q,s.trans (List.sublist_append_right _ _)⟩
theorem Reps.ints (ns:List Int):Reps K H (ns.map D.int) (ns.map V.int) []:=by
 induction ns with
 | nil=>exact .nil
 | cons n ns ih=>exact .cons (F:=[]) (G:=[]) (.int n) ih
def kcD:KC->D
 | .int i=>.int i
 | .any a=>.kc (.any a)
 | .fn x=>.kc (.fn x)
 | .tup ks=>.kc (.tup ks)
theorem IsKC.rep {c:KC} (h:IsKC K c v):Rep K H (kcD c) v []:=by
 cases h with
 | int i=>exact .int i
 | any a=>exact .kc (.any a)
 | fn h=>exact .kc (.fn h)
 | tup h1 h2 h3 h4 h5 r=>exact .kc (.tup h1 h2 h3 h4 h5 r)
theorem AreKC.reps {cs:List KC} (h:AreKC K cs vs):Reps K H (cs.map kcD) vs []:=by
 induction cs generalizing vs with
 | nil=>cases h;exact .nil
 | cons c cs ih=>cases h with | cons h r=>exact .cons (F:=[]) (G:=[]) h.rep (ih r)
theorem IsKC.sqT (h:IsKC K (.tup ks) v):∃a xs,v=.ref a/\(∀H,SqT K H a xs)/\AreKC K ks xs:=by
 cases h with
 | tup h1 h2 h3 h4 h5 r=>exact ⟨_,_,rfl,λH=>.inr ⟨_,_,_,h1,h2,h3,h4,h5⟩,r⟩
theorem Rep.iInt {i:Int} (r:Rep K H (.int i) v F):v=.int i:=by cases r;rfl
theorem Rep.iStr {i:Str} (r:Rep K H (.str i) v F):v=.str i:=by cases r;rfl
theorem Rep.iBl {i:Bool} (r:Rep K H (.bl i) v F):v=.bl i:=by cases r;rfl
theorem Rep.iTup {ds:List D} (r:Rep K H (.tup ds) v F):∃a xs,v=.ref a/\H a=some (.tup xs)/\Reps K H ds xs F:=by cases r with | tup e r=>exact ⟨_,_,rfl,e,r⟩
theorem Rep.iLst {ds:List D} (r:Rep K H (.lst ds) v F):∃a xs G,v=.ref a/\F=a::G/\H a=some (.lst xs)/\Reps K H ds xs G:=by cases r with | lst e r=>exact ⟨_,_,_,rfl,rfl,e,r⟩
theorem Rep.iDik (r:Rep K H (.dik ds) v F):∃a xs G,v=.ref a/\F=a::G/\H a=some (.dK xs)/\RepK K H ds xs G:=by cases r with | dik e r=>exact ⟨_,_,_,rfl,rfl,e,r⟩
theorem Rep.iDit {ds:List (List Key × D)} (r:Rep K H (.dit ds) v F):∃a xs G,v=.ref a/\F=a::G/\H a=some (.dT xs)/\RepT K H ds xs G:=by cases r with | dit e r=>exact ⟨_,_,_,rfl,rfl,e,r⟩
theorem Rep.iKls {ds:List D} (r:Rep K H (.kls ds) v F):∃a xs,v=.ref a/\F=[]/\FzL K H a xs/\Reps K H ds xs []:=by cases r with | kls e r=>exact ⟨_,_,rfl,rfl,e,r⟩
theorem Rep.iFdk (r:Rep K H (.fdk ds) v F):∃a o xs,v=.ref a/\H a=some (.frz o (.dK xs))/\RepK K H ds xs F:=by cases r with | fdk e r=>exact ⟨_,_,_,rfl,e,r⟩
section
variable {κ:Type} [DecidableEq κ]
def valD (kvs:List (κ × D)) (k:κ):Option D:=(kvs.find? λkv=>decide (kv.1=k)).map (·.2)
def putD (kvs:List (κ × D)) (k:κ) (v:D):List (κ × D) :=
 if (kvs.any λkv=>decide (kv.1=k))=true then kvs.map (λkv=>if kv.1=k then (kv.1,v) else kv) else kvs++[(k,v)]
def Qys (kvs:List (κ × D)) (k:κ):List (κ × D):=kvs.filter λkv=>decide (kv.1≠k)
theorem Qd4 {p:κ × D} {r:List (κ × D)} {k:κ}:valD (p::r) k=if p.1=k then some p.2 else valD r k:=by
 unfold valD
 by_cases h:p.1=k
 ·rw [List.find?_cons_of_pos (by simpa using h),if_pos h];rfl
 ·rw [List.find?_cons_of_neg (by simpa using h),if_neg h]
end
theorem RepK.length {xs:List (Key × V)} (r:RepK K H ds xs F):xs.length=ds.length:=by
 induction ds generalizing xs F with
 | nil=>cases r;rfl
 | cons d ds ih=>cases r with | cons h r=>simp [ih r]
theorem RepK.keys {xs:List (Key × V)} (r:RepK K H ds xs F):xs.map (·.1)=ds.map (·.1):=by
 induction ds generalizing xs F with
 | nil=>cases r;rfl
 | cons d ds ih=>cases r with | cons h r=>simp [ih r]
theorem RepK.val {xs:List (Key × V)} (r:RepK K H ds xs F) (k:Key) :
  (valD ds k=none/\valV xs k=none)\/∃d v B,valD ds k=some d/\valV xs k=some v/\Rep K H d v B/\B.Sublist F:=by
 induction ds generalizing xs F with
 | nil=>cases r;exact .inl ⟨rfl,rfl⟩
 | cons d ds ih =>
  cases r with
  | @cons j d v _ vs F G h r =>
   rw [Qd4]
   by_cases e:j=k
   ·rw [U0 e,if_pos e]
    exact .inr ⟨d,v,F,rfl,rfl,h,List.sublist_append_left _ _⟩
   ·rw [U1 e,if_neg e]
    rcases ih r with q | ⟨d',v',B,h1,h2,h3,h4⟩
    ·exact .inl q
    ·exact .inr ⟨d',v',B,h1,h2,h3,h4.trans (List.sublist_append_right _ _)⟩
theorem RepK.append {es:List (Key × D)} {xs ys:List (Key × V)} (r:RepK K H ds xs F) (q:RepK K H es ys G):RepK K H (ds++es) (xs++ys) (F++G):=by
 induction ds generalizing xs F with
 | nil=>cases r;exact q
 | cons d ds ih=>cases r with | cons h r=>rw [List.append_assoc];exact .cons h (ih r)
theorem RepK.put {xs:List (Key × V)} {k:Key} (r:RepK K H ds xs F) (h:Rep K H d v []):∃G,RepK K H (putD ds k d) (putK xs k v) G/\G.Sublist F:=by
 have hk:(xs.any λkv=>decide (kv.1=k))=(ds.any λkv=>decide (kv.1=k)):=by
  have e:=r.keys
  rw [show (xs.any λkv=>decide (kv.1=k))=(xs.map (·.1)).any (λj=>decide (j=k)) by rw [List.any_map];rfl,e,List.any_map];rfl
 unfold putD putK
 rw [hk]
 split
 ·clear hk
  rename_i hc
  clear hc
  induction ds generalizing xs F with
  | nil=>cases r;exact ⟨[],.nil,List.Sublist.slnil⟩
  | cons e ds ih =>
   cases r with
   | @cons j e u _ us F G p r =>
    obtain ⟨G',q,s⟩:=ih r
    by_cases ej:j=k
    ·exact ⟨[]++G',by simpa [ej] using RepK.cons (k:=k) h q,s.trans (List.sublist_append_right _ _)⟩
    ·exact ⟨F++G',by simpa [ej] using RepK.cons (k:=j) p q,List.Sublist.append (List.Sublist.refl _) s⟩
 ·refine ⟨F++[],r.append ?_,by simp⟩
  exact RepK.cons (F:=[]) (G:=[]) h .nil
theorem RepT.length {ds:List (List Key × D)} {xs:List (List Key × V)} (r:RepT K H ds xs F):xs.length=ds.length:=by
 induction ds generalizing xs F with
 | nil=>cases r;rfl
 | cons d ds ih=>cases r with | cons h r=>simp [ih r]
theorem RepT.keys {ds:List (List Key × D)} {xs:List (List Key × V)} (r:RepT K H ds xs F):xs.map (·.1)=ds.map (·.1):=by
 induction ds generalizing xs F with
 | nil=>cases r;rfl
 | cons d ds ih=>cases r with | cons h r=>simp [ih r]
theorem RepT.val {ds:List (List Key × D)} {xs:List (List Key × V)} (r:RepT K H ds xs F) (k:List Key) :
  (valD ds k=none/\valV xs k=none)\/∃d v B,valD ds k=some d/\valV xs k=some v/\Rep K H d v B/\B.Sublist F:=by
 induction ds generalizing xs F with
 | nil=>cases r;exact .inl ⟨rfl,rfl⟩
 | cons d ds ih =>
  cases r with
  | @cons j d v _ vs F G h r =>
   rw [Qd4]
   by_cases e:j=k
   ·rw [U0 e,if_pos e]
    exact .inr ⟨d,v,F,rfl,rfl,h,List.sublist_append_left _ _⟩
   ·rw [U1 e,if_neg e]
    rcases ih r with q | ⟨d',v',B,h1,h2,h3,h4⟩
    ·exact .inl q
    ·exact .inr ⟨d',v',B,h1,h2,h3,h4.trans (List.sublist_append_right _ _)⟩
theorem RepT.append {ds es:List (List Key × D)} {xs ys:List (List Key × V)} (r:RepT K H ds xs F) (q:RepT K H es ys G):RepT K H (ds++es) (xs++ys) (F++G):=by
 induction ds generalizing xs F with
 | nil=>cases r;exact q
 | cons d ds ih=>cases r with | cons h r=>rw [List.append_assoc];exact .cons h (ih r)
theorem RepT.put {ds:List (List Key × D)} {xs:List (List Key × V)} {k:List Key} (r:RepT K H ds xs F) (h:Rep K H d v []):∃G,RepT K H (putD ds k d) (putK xs k v) G/\G.Sublist F:=by
 have hk:(xs.any λkv=>decide (kv.1=k))=(ds.any λkv=>decide (kv.1=k)):=by
  have e:=r.keys
  rw [show (xs.any λkv=>decide (kv.1=k))=(xs.map (·.1)).any (λj=>decide (j=k)) by rw [List.any_map];rfl,e,List.any_map];rfl
 unfold putD putK
 rw [hk]
 split
 ·clear hk
  rename_i hc
  clear hc
  induction ds generalizing xs F with
  | nil=>cases r;exact ⟨[],.nil,List.Sublist.slnil⟩
  | cons e ds ih =>
   cases r with
   | @cons j e u _ us F G p r =>
    obtain ⟨G',q,s⟩:=ih r
    by_cases ej:j=k
    ·exact ⟨[]++G',by simpa [ej] using RepT.cons (k:=k) h q,s.trans (List.sublist_append_right _ _)⟩
    ·exact ⟨F++G',by simpa [ej] using RepT.cons (k:=j) p q,List.Sublist.append (List.Sublist.refl _) s⟩
 ·refine ⟨F++[],r.append ?_,by simp⟩
  exact RepT.cons (F:=[]) (G:=[]) h .nil
abbrev Env:=List (Option D)
def look:Env->Nat->Option D
 | [],_=>none
 | a::_,0=>a
 | _::r,n+1=>look r n
theorem Qdn:∀{ρ:Env} {i:Nat} {d:D},look ρ i=some d->ρ[i]? = some (some d)
 | _::_,0,_,h=>by simpa [look] using h
 | _::r,n+1,_,h=>by simpa using Qdn (ρ:=r) (i:=n) (by simpa [look] using h)
theorem Qge {ρ:Env} (h:look ρ i=some d):i<ρ.length:=by
 have:=Qdn h
 exact (List.getElem?_eq_some_iff.mp this).1
theorem Gm {o:Option D}:∀{ρ:Env} {i j:Nat},look (ρ.set i o) j=if j=i/\i<ρ.length then o else look ρ j
 | [],i,j=>by simp [look]
 | a::r,0,0=>by simp [look]
 | a::r,0,j+1=>by simp [look]
 | a::r,i+1,0=>by simp [look]
 | a::r,i+1,j+1=>by
  have:=Gm (o:=o) (ρ:=r) (i:=i) (j:=j)
  simp only [List.set_cons_succ,look,this,List.length_cons,Nat.add_right_cancel_iff,Nat.add_lt_add_iff_right]
theorem Qdl {ρ:Env} (h:i<ρ.length):look (ρ.set i o) i=o:=by rw [Gm,if_pos ⟨rfl,h⟩]
theorem Jq {ρ:Env} {j:Nat} (h:j≠i):look (ρ.set i o) j=look ρ j:=by rw [Gm,if_neg (λz=>h z.1)]
structure Tg where
 own:Nat->Bool
 io:List Nat
 xe:D->St->Hp->Prop:=λ_ _ _=>False
end PV
variable {R W1 W2 W':PySem.Addr->Prop} {T:PV.Tg} {ρ:PV.Env} {z:Nat->L2.V}
namespace PV
open PySem PySem.Spec L2
structure SR0 (K:Frag) (T:Tg) (z:Nat->V) (R:Addr->Prop) (H:Hp) (W:Addr->Prop) (σ:St) (ρ:Env) (fp:Nat->List Addr):Prop where
 len:ρ.length=σ.length
 wd:∀a,W a->∃ob,H a=some ob/\imm ob=false
 at_:∀i d,look ρ i=some d->∃v,σ[i]? = some (some v)/\Rep K H d v (fp i)
 own:∀i d,look ρ i=some d->T.own i=true->(fp i).Nodup/\∀a∈fp i,W a
 ro:∀i d,look ρ i=some d->T.own i=false->∀a∈fp i,R a
 wr:∀a,W a->¬R a
 rd:∀a,R a->∃ob,H a=some ob/\imm ob=false
 dis:∀i j d e,look ρ i=some d->look ρ j=some e->T.own i=true->T.own j=true->i≠j->∀a∈fp i,a∉fp j
 fix:∀i∈T.io,σ[i]? = some (some (z i))
def SR (K:Frag) (T:Tg) (z:Nat->V) (R:Addr->Prop) (H:Hp) (W:Addr->Prop) (σ:St) (ρ:Env):Prop:=∃fp,SR0 K T z R H W σ ρ fp
structure FrW (H:Hp) (W:Addr->Prop) (H':Hp) (W':Addr->Prop):Prop where
 keep:∀b ob,H b=some ob->¬W b->H' b=some ob
 dom:∀b,H' b=none->H b=none
 imm:ImmK H H'
 new:∀b,W' b->W b\/H b=none
theorem FrW.refl (H:Hp) (W:Addr->Prop):FrW H W H W:=⟨λ_ _ h _=>h,λ_ h=>h,λ_ _ h _=>h,λ_ h=>.inl h⟩
theorem FrW.trans {W:Addr->Prop} (a:FrW H W H1 W1) (b:FrW H1 W1 H2 W2):FrW H W H2 W2 where
 keep:=λc ob h n=>b.keep c ob (a.keep c ob h n) λw=>by
  rcases a.new c w with w | w
  ·exact n w
  ·rw [w] at h;cases h
 dom:=λc h=>a.dom c (b.dom c h)
 imm:=λc ob h i=>b.imm c ob (a.imm c ob h i) i
 new:=λc h=>by
  rcases b.new c h with w | w
  ·exact a.new c w
  ·exact .inr (a.dom c w)
theorem Same.imm (s:Same H H'):ImmK H H':=λb ob h _=>s b ob h
theorem FrW.same (W:Addr->Prop) (s:Same H H'):FrW H W H' W:=⟨λb ob h _=>s b ob h,λb h=>s.free h,Same.imm s,λ_ h=>.inl h⟩
theorem Rep.same (r:Rep K H d v F) (s:Same H H'):Rep K H' d v F :=
 r.frame (Same.imm s) λa m=>by
  obtain ⟨ob,h,_⟩:=r.dom a m
  rw [h];exact s _ _ h
theorem Reps.same {d:List D} {v:List V} (r:Reps K H d v F) (s:Same H H'):Reps K H' d v F :=
 r.frame (Same.imm s) λa m=>by
  obtain ⟨ob,h,_⟩:=r.dom a m
  rw [h];exact s _ _ h
theorem Rep.keep {W:Addr->Prop} (r:Rep K H d v F) (f:FrW H W H' W') (n:∀a∈F,¬W a):Rep K H' d v F :=
 r.frame f.imm λa m=>by
  obtain ⟨ob,h,_⟩:=r.dom a m
  rw [h];exact f.keep _ _ h (n a m)
section
variable {W:Addr->Prop}
theorem SR.same (s:SR K T z R H W σ ρ) (k:Same H H'):SR K T z R H' W σ ρ:=by
 obtain ⟨fp,r⟩:=s
 exact ⟨fp,r.len,λa h=>(r.wd a h).imp λob q=>⟨k _ _ q.1,q.2⟩,λi d h=>(r.at_ i d h).imp λv q=>⟨q.1,q.2.same k⟩,r.own,r.ro,r.wr,λa h=>(r.rd a h).imp λob q=>⟨k _ _ q.1,q.2⟩,r.dis,r.fix⟩
theorem SR.wd (s:SR K T z R H W σ ρ):∀a,W a->∃ob,H a=some ob/\imm ob=false:=by obtain ⟨fp,r⟩:=s;exact r.wd
theorem SR.rd (s:SR K T z R H W σ ρ):∀a,R a->∃ob,H a=some ob/\imm ob=false:=by obtain ⟨fp,r⟩:=s;exact r.rd
theorem SR.nr (s:SR K T z R H W σ ρ) (h:H a=none):¬R a:=λw=>by
 obtain ⟨ob,q,_⟩:=s.rd a w
 rw [h] at q;cases q
theorem SR.nw (s:SR K T z R H W σ ρ) (h:H a=none):¬W a:=λw=>by
 obtain ⟨ob,q,_⟩:=s.wd a w
 rw [h] at q;cases q
end
abbrev WE:=Env->(D->Env->Prop)->Prop
end PV
variable {a b:PV.D} {o m0 m1 m2 o1:Bool} {i:Int} {ρ1 ρ2:PV.Env} {F1 F2:List PySem.Addr} {wa wb:PV.WE}
namespace PV
open PySem PySem.Spec L2
structure Post (K:Frag) (T:Tg) (z:Nat->V) (R:Addr->Prop) (m o:Bool) (H:Hp) (W:Addr->Prop) (σ:St) (ρ:Env) (H':Hp) (W':Addr->Prop) (ρ':Env) (d:D) (v:V) (F:List Addr):Prop where
 sr:SR K T z R H' W' σ ρ'
 fr:FrW H W H' W'
 calm:m=false->Same H H'/\W'=W/\ρ'=ρ
 rep:Rep K H' d v F
 own:o=true->F.Nodup/\∀a∈F,H a=none/\¬W' a
def EV (X:Cx) (T:Tg) (m o:Bool) (e:Expr) (w:WE):Prop :=
 ∃te,PE X e te/\∀(z:Nat->V) (R:Addr->Prop) (σ:St) (H:Hp) (W:Addr->Prop) (ρ:Env) (Q:D->Env->Prop) (Q':VK),SR X.K T z R H W σ ρ->w ρ Q ->
  (∀v H' W' d ρ' F,Post X.K T z R m o H W σ ρ H' W' ρ' d v F->Q d ρ'->Q' v H')->te σ H Q'
section
variable {W:Addr->Prop} {o2:Bool} {d1 d2:D} {v1 v2:V}
theorem Post.first (p:Post K T z R m1 o1 H W σ ρ H1 W1 ρ1 d1 v1 F1) (q:Post K T z R m2 o2 H1 W1 σ ρ1 H2 W2 ρ2 d2 v2 F2) (hc:o1=true\/m2=false):Rep K H2 d1 v1 F1:=by
 rcases hc with hc | hc
 ·exact p.rep.keep q.fr λa h=>((p.own hc).2 a h).2
 ·exact p.rep.same (q.calm hc).1
theorem Post.firstOwn (p:Post K T z R m1 o1 H W σ ρ H1 W1 ρ1 d1 v1 F1) (q:Post K T z R m2 o2 H1 W1 σ ρ1 H2 W2 ρ2 d2 v2 F2) (h:o1=true):F1.Nodup/\∀a∈F1,H a=none/\¬W2 a:=by
 obtain ⟨h1,h2⟩:=p.own h
 refine ⟨h1,λa m=>⟨(h2 a m).1,λw=>?_⟩⟩
 rcases q.fr.new a w with w | w
 ·exact (h2 a m).2 w
 ·obtain ⟨ob,e,_⟩:=p.rep.dom a m
  rw [e] at w;cases w
theorem Post.lastOwn (p:Post K T z R m1 o1 H W σ ρ H1 W1 ρ1 d1 v1 F1) (q:Post K T z R m2 o2 H1 W1 σ ρ1 H2 W2 ρ2 d2 v2 F2) (h:o2=true):F2.Nodup/\∀a∈F2,H a=none/\¬W2 a:=by
 obtain ⟨h1,h2⟩:=q.own h
 exact ⟨h1,λa m=>⟨p.fr.dom a (h2 a m).1,(h2 a m).2⟩⟩
theorem Post.calm2 (p:Post K T z R m1 o1 H W σ ρ H1 W1 ρ1 d1 v1 F1) (q:Post K T z R m2 o2 H1 W1 σ ρ1 H2 W2 ρ2 d2 v2 F2) (h:(m1 || m2)=false):Same H H2/\W2=W/\ρ2=ρ:=by
 rw [Bool.or_eq_false_iff] at h
 obtain ⟨a1,a2,a3⟩:=p.calm h.1
 obtain ⟨b1,b2,b3⟩:=q.calm h.2
 exact ⟨a1.trans b1,b2.trans a2,b3.trans a3⟩
theorem Post.fin (s:SR K T z R H1 W1 σ ρ1) (f:FrW H W H1 W1) (c:m=false->Same H H1/\W1=W/\ρ1=ρ) (k:Same H1 H2) (r:Rep K H2 d v F) (nd:F.Nodup) (nw:∀a∈F,H1 a=none) :
  Post K T z R m true H W σ ρ H2 W1 ρ1 d v F where
 sr:=s.same k
 fr:=f.trans (FrW.same W1 k)
 calm:=λh=>⟨(c h).1.trans k,(c h).2⟩
 rep:=r
 own:=λ_=>⟨nd,λa m=>⟨f.dom a (nw a m),s.nw (nw a m)⟩⟩
theorem Post.flat (s:SR K T z R H1 W1 σ ρ1) (f:FrW H W H1 W1) (c:m=false->Same H H1/\W1=W/\ρ1=ρ) (r:Rep K H1 d v []):Post K T z R m true H W σ ρ H1 W1 ρ1 d v [] where
 sr:=s
 fr:=f
 calm:=c
 rep:=r
 own:=λ_=>⟨List.nodup_nil,λa m=>nomatch m⟩
end
section
variable {o2:Bool} {a b:Expr} {w:WE}
theorem EV.lift (h:EV X T m o e w):EV X T m true e (λρ Q=>w ρ λd ρ'=>d.pure=true/\Q d ρ'):=by
 obtain ⟨te,p,g⟩:=h
 refine ⟨te,p,λz R σ H W ρ Q Q' s hw k=>g z R σ H W ρ _ Q' s hw λv H' W' d ρ' F q ⟨hp,hq⟩=>?_⟩
 obtain ⟨e,r⟩:=q.rep.pure hp
 exact k v H' W' d ρ' [] ⟨q.sr,q.fr,q.calm,r,λ_=>⟨List.nodup_nil,λa m=>nomatch m⟩⟩ hq
def wVar (i:Nat):WE:=λρ Q=>match look ρ i with
 | some d=>Q d ρ
 | none=>False
def wC (d:D):WE:=λρ Q=>Q d ρ
theorem Q1u (i:Nat) (h:PE X e (tVar i)):EV X T false false e (wVar i):=by
 refine ⟨_,h,λz R σ H W ρ Q Q' s hw k=>?_⟩
 unfold wVar at hw
 cases hl:look ρ i with
 | none=>rw [hl] at hw;exact hw.elim
 | some d =>
  rw [hl] at hw
  obtain ⟨fp,r⟩:=s
  obtain ⟨v,h1,h2⟩:=r.at_ i d hl
  exact ⟨v,h1,k v H W d ρ (fp i) ⟨⟨fp,r⟩,FrW.refl H W,λ_=>⟨Same.refl H,rfl,rfl⟩,h2,λh=>nomatch h⟩ hw⟩
theorem Qc (i:Nat) (hN:X.N[i]? = some x:=by rfl) (hv:Vis X.env.scope x:=by first | exact Or.inl rfl | exact Or.inr (Or.inl rfl) | exact Or.inr (Or.inr rfl)) (hd:(x == ("__debug__" : Str))=false:=by decide)
  (hcd:(x == ("__classdict__" : Str))=false:=by decide):EV X T false false (.Name x pos) (wVar i):=Q1u i (Xx hN hv hd hcd)
theorem Vk (h:PE X e (tC v)) (r:∀H,Rep X.K H d v []):EV X T false true e (wC d) :=
 ⟨_,h,λz R σ H W ρ Q Q' s hw k=>k v H W d ρ [] (Post.flat s (FrW.refl H W) (λ_=>⟨Same.refl H,rfl,rfl⟩) (r H)) hw⟩
theorem Qe {j pos}:EV X T false true (.Constant (.int i) j pos) (wC (.int i)):=Vk Qw2 λ_=>.int i
theorem Qb4 {i:Bool} {j pos}:EV X T false true (.Constant (.bool i) j pos) (wC (.bl i)):=Vk Q08 λ_=>.bl i
theorem Qo {i:Str} {j pos}:EV X T false true (.Constant (.str i) j pos) (wC (.str i)):=Vk Qww λ_=>.str i
theorem Zj {j pos}:EV X T false true (.Constant .none j pos) (wC .non):=Vk Qwz λ_=>.non
theorem Qti (hm:X.mg x=some (.int i t)) (hg:Gl X x:=by rfl) (hd:(x == ("__debug__" : Str))=false:=by decide):EV X T false true (.Name x pos) (wC (.int i)) :=
 Vk (Xa hg hm (v:=.int i) ⟨t,rfl⟩ hd) λ_=>.int i
theorem Qth {i:Str} (hm:X.mg x=some (.str i t)) (hg:Gl X x:=by rfl) (hd:(x == ("__debug__" : Str))=false:=by decide):EV X T false true (.Name x pos) (wC (.str i)) :=
 Vk (Xa hg hm (v:=.str i) ⟨t,rfl⟩ hd) λ_=>.str i
abbrev G2:=D->D->(D->Prop)->Prop
structure Fin (K:Frag) (H H':Hp) (d:D) (v:V) (F:List Addr):Prop where
 same:Same H H'
 rep:Rep K H' d v F
 nd:F.Nodup
 new:∀a∈F,H a=none
theorem Fin.flat (r:Rep K H d v []):Fin K H H d v []:=⟨Same.refl H,r,List.nodup_nil,λ_ m=>nomatch m⟩
theorem Qj {p:Addr} (h:H p=none):Same H (upd H p ob):=λb u e=>by rw [Qk (Jn e h)];exact e
def OpD (X:Cx) (f:Value->Value->Sem Value) (g:G2):Prop :=
 ∃r,OpR X f r/\∀(H:Hp) (a b:D) (x y:V) (F1 F2:List Addr) (k:D->Prop) (Q:VK),Rep X.K H a x F1->Rep X.K H b y F2->g a b k ->
  (∀v H' d F,Fin X.K H H' d v F->k d->Q v H')->r x y H Q
def wBin (g:G2) (wa wb:WE):WE:=λρ Q=>wa ρ λx ρ1=>wb ρ1 λy ρ2=>g x y λd=>Q d ρ2
theorem two {ta:TE} {W:Addr->Prop} {RR:V->V->Hp->Prop} {Q2:D->D->Env->Prop}
  (ga:∀(z:Nat->V) (R:Addr->Prop) (σ:St) (H:Hp) (W:Addr->Prop) (ρ:Env) (Q:D->Env->Prop) (Q':VK),SR X.K T z R H W σ ρ->wa ρ Q->(∀v H' W' d ρ' F,Post X.K T z R m1 o1 H W σ ρ H' W' ρ' d v F->Q d ρ'->Q' v H')->ta σ H Q')
  (gb:∀(z:Nat->V) (R:Addr->Prop) (σ:St) (H:Hp) (W:Addr->Prop) (ρ:Env) (Q:D->Env->Prop) (Q':VK),SR X.K T z R H W σ ρ->wb ρ Q->(∀v H' W' d ρ' F,Post X.K T z R m2 o2 H W σ ρ H' W' ρ' d v F->Q d ρ'->Q' v H')->tb σ H Q')
  (hc:o1=true\/m2=false) (s:SR X.K T z R H W σ ρ) (hw:wa ρ λx ρ1=>wb ρ1 λy ρ2=>Q2 x y ρ2)
  (k:∀x y H2 W2 d1 d2 ρ2 F1 F2,SR X.K T z R H2 W2 σ ρ2->FrW H W H2 W2->((m1 || m2)=false->Same H H2/\W2=W/\ρ2=ρ)->Rep X.K H2 d1 x F1->Rep X.K H2 d2 y F2 ->
   (o1=true->F1.Nodup/\∀a∈F1,H a=none/\¬W2 a)->(o2=true->F2.Nodup/\∀a∈F2,H a=none/\¬W2 a)->(o2=true->∀a∈F1,a∉F2)->Q2 d1 d2 ρ2->RR x y H2) :
  ta σ H λx H1=>tb σ H1 λy H2=>RR x y H2:=by
 refine ga z R σ H W ρ _ _ s hw λv1 H1 W1 d1 ρ1 F1 p q1=>?_
 refine gb z R σ H1 W1 ρ1 _ _ p.sr q1 λv2 H2 W2 d2 ρ2 F2 q q2=>?_
 refine k v1 v2 H2 W2 d1 d2 ρ2 F1 F2 q.sr (p.fr.trans q.fr) (p.calm2 q) (p.first q hc) q.rep (p.firstOwn q) (p.lastOwn q) (λh a m1 m2=>?_) q2
 obtain ⟨ob,e,_⟩:=p.rep.dom a m1
 rw [((q.own h).2 a m2).1] at e
 cases e
theorem Qz {op:Operator} {g:G2} (ho:OpD X (binaryOp op) g) (ha:EV X T m1 o1 a wa) (hb:EV X T m2 o2 b wb) (hc:o1=true\/m2=false:=by first | exact .inl rfl | exact .inr rfl) :
  EV X T (m1 || m2) true (.BinOp a op b pos) (wBin g wa wb):=by
 obtain ⟨r,ro,gr⟩:=ho
 obtain ⟨ta,pa,ga⟩:=ha
 obtain ⟨tb,pb,gb⟩:=hb
 refine ⟨_,Q07 ro pa pb,λz R σ H W ρ Q Q' s hw k=>?_⟩
 refine two ga gb hc s hw λx y H2 W2 d1 d2 ρ2 F1 F2 s2 f2 c2 r1 r2 _ _ _ q2=>?_
 exact gr H2 d1 d2 x y F1 F2 _ Q' r1 r2 q2 λv H' d F fi hk=>k v H' W2 d ρ2 F (Post.fin s2 f2 c2 fi.same fi.rep fi.nd fi.new) hk
theorem X3 {g:G2} (ho:OpD X (compareOp op) g) (ha:EV X T m1 o1 a wa) (hb:EV X T m2 o2 b wb) (hc:o1=true\/m2=false:=by first | exact .inl rfl | exact .inr rfl)
  (hm:behindInMarks op b=false:=by first | exact Qpl _ | with_unfolding_all rfl):EV X T (m1 || m2) true (.Compare a [op] [b] pos) (wBin g wa wb):=by
 obtain ⟨r,ro,gr⟩:=ho
 obtain ⟨ta,pa,ga⟩:=ha
 obtain ⟨tb,pb,gb⟩:=hb
 refine ⟨_,Qsg ro pa pb hm,λz R σ H W ρ Q Q' s hw k=>?_⟩
 refine two ga gb hc s hw λx y H2 W2 d1 d2 ρ2 F1 F2 s2 f2 c2 r1 r2 _ _ _ q2=>?_
 exact gr H2 d1 d2 x y F1 F2 _ Q' r1 r2 q2 λv H' d F fi hk=>k v H' W2 d ρ2 F (Post.fin s2 f2 c2 fi.same fi.rep fi.nd fi.new) hk
def UnD (X:Cx) (f:Value->Sem Value) (g:D->(D->Prop)->Prop):Prop :=
 ∃r,UnR X f r/\∀(H:Hp) (a:D) (x:V) (F1:List Addr) (k:D->Prop) (Q:VK),Rep X.K H a x F1->g a k->(∀v H' d F,Fin X.K H H' d v F->k d->Q v H')->r x H Q
def wUn (g:D->(D->Prop)->Prop) (wa:WE):WE:=λρ Q=>wa ρ λx ρ1=>g x λd=>Q d ρ1
theorem Qob {op:UnaryOp} {g:D->(D->Prop)->Prop} (ho:UnD X (unaryOp op) g) (ha:EV X T m o a wa):EV X T m true (.UnaryOp op a pos) (wUn g wa):=by
 obtain ⟨r,ro,gr⟩:=ho
 obtain ⟨ta,pa,ga⟩:=ha
 refine ⟨_,Qwu ro pa,λz R σ H W ρ Q Q' s hw k=>?_⟩
 refine ga z R σ H W ρ _ _ s hw λv1 H1 W1 d1 ρ1 F1 p q1=>?_
 exact gr H1 d1 v1 F1 _ Q' p.rep q1 λv H' d F fi hk=>k v H' W1 d ρ1 F (Post.fin p.sr p.fr p.calm fi.same fi.rep fi.nd fi.new) hk
abbrev WT:=Env->(Bool->Env->Prop)->Prop
structure PostT (K:Frag) (T:Tg) (z:Nat->V) (R:Addr->Prop) (m:Bool) (H:Hp) (W:Addr->Prop) (σ:St) (ρ:Env) (H':Hp) (W':Addr->Prop) (ρ':Env):Prop where
 sr:SR K T z R H' W' σ ρ'
 fr:FrW H W H' W'
 calm:m=false->Same H H'/\W'=W/\ρ'=ρ
def TV (X:Cx) (T:Tg) (m:Bool) (e:Expr) (w:WT):Prop :=
 ∃tt,PT X e tt/\∀(z:Nat->V) (R:Addr->Prop) (σ:St) (H:Hp) (W:Addr->Prop) (ρ:Env) (Q:Bool->Env->Prop) (Q':Bool->Hp->Prop),SR X.K T z R H W σ ρ->w ρ Q ->
  (∀b H' W' ρ',PostT X.K T z R m H W σ ρ H' W' ρ'->Q b ρ'->Q' b H')->tt σ H Q'
def truD:D->Option Bool
 | .non=>some false
 | .bl b=>some b
 | .int i=>some (i != 0)
 | .str y=>if y.length<=sizeLine then some ((y.length:Int) != 0) else none
 | .lst xs=>some (!xs.isEmpty)
 | .tup xs=>some (!xs.isEmpty)
 | .dik kvs=>some (!kvs.isEmpty)
 | .kls xs=>some (!xs.isEmpty)
 | .dit _=>none
 | .ty _=>none
 | .fdk _=>none
 | .ftp _=>none
 | .fls _=>none
 | .fdt _=>none
 | .obj _ _=>none
 | .clo _ _=>none
 | .kc _=>none
 | .dmx _=>none
 | .fmx _=>none
def wTru (wa:WE):WT:=λρ Q=>wa ρ λd ρ'=>match truD d with
 | some b=>Q b ρ'
 | none=>False
theorem Reps.emp {ds:List D} (r:Reps K H ds xs F):ds.isEmpty=xs.isEmpty:=by
 have:=r.length
 cases ds <;> cases xs <;> simp at this <;> rfl
theorem RepK.emp {xs:List (Key × V)} (r:RepK K H ds xs F):ds.isEmpty=xs.isEmpty:=by
 have:=r.length
 cases ds <;> cases xs <;> simp at this <;> rfl
theorem Qqn {x:V} {b:Bool} (r:Rep K H d x F) (h:truD d=some b):TruV K x H b:=by
 cases r with
 | non=>exact (Option.some.inj h).symm
 | bl c=>exact (Option.some.inj h).symm
 | int c=>exact (Option.some.inj h).symm
 | str y =>
  have h:(if y.length<=sizeLine then some ((y.length:Int) != 0) else none)=some b:=h
  split at h
  ·rename_i hl;exact ⟨hl,(Option.some.inj h).symm⟩
  ·cases h
 | tup e r =>
  refine .inr (.inl ⟨_,.of e,?_⟩)
  rw [← Option.some.inj h,r.emp]
 | lst e r =>
  refine .inl ⟨_,.of e,?_⟩
  rw [← Option.some.inj h,r.emp]
 | kls e r =>
  refine .inl ⟨_,e.sq,?_⟩
  rw [← Option.some.inj h,r.emp]
 | dik e r =>
  refine .inr (.inr ⟨_,e,?_⟩)
  rw [← Option.some.inj h,r.emp]
 | dit e r=>cases h
 | ty t=>cases h
 | fdk e r=>cases h
 | ftp e hd r=>cases h
 | fls e r=>cases h
 | fdt e r=>cases h
 | obj e hc hf=>cases h
 | clo e r=>cases h
 | kc a=>cases h
 | dmx e hk hm r=>cases h
 | fmx e hk hm r=>cases h
theorem Zy (ha:EV X T m o a wa) (he:∀whole,isTrue a X.env whole=(do let v ← whole;standAt a.pos;holding [v] (truthy v)):=by intro _;rfl):TV X T m a (wTru wa):=by
 obtain ⟨ta,pa,ga⟩:=ha
 refine ⟨_,Qnf pa he,λz R σ H W ρ Q Q' s hw k=>?_⟩
 refine ga z R σ H W ρ _ _ s hw λv1 H1 W1 d1 ρ1 F1 p q1=>?_
 cases ht:truD d1 with
 | none=>rw [ht] at q1;exact q1.elim
 | some b =>
  rw [ht] at q1
  exact ⟨b,Qqn p.rep ht,k b H1 W1 ρ1 ⟨p.sr,p.fr,p.calm⟩ q1⟩
def wBl (wa:WE):WT:=λρ Q=>wa ρ λd ρ'=>match d with
 | .bl b=>Q b ρ'
 | _=>False
theorem Qau {b:Bool} {x:V} (r:Rep K H (.bl b) x F):x=.bl b:=by cases r;rfl
theorem Q0 {g:G2} (ho:OpD X (compareOp op) g) (ha:EV X T m1 o1 a wa) (hb:EV X T m2 o2 b wb) (hc:o1=true\/m2=false:=by first | exact .inl rfl | exact .inr rfl)
  (hm:behindInMarks op b=false:=by first | exact Qpl _ | with_unfolding_all rfl):TV X T (m1 || m2) (.Compare a [op] [b] pos) (wBl (wBin g wa wb)):=by
 obtain ⟨r,ro,gr⟩:=ho
 obtain ⟨ta,pa,ga⟩:=ha
 obtain ⟨tb,pb,gb⟩:=hb
 refine ⟨_,Qr4 ro pa pb hm,λz R σ H W ρ Q Q' s hw k=>?_⟩
 refine two ga gb hc s hw λx y H2 W2 d1 d2 ρ2 F1 F2 s2 f2 c2 r1 r2 _ _ _ q2=>?_
 refine gr H2 d1 d2 x y F1 F2 _ _ r1 r2 q2 λv H' d F fi hk=>?_
 cases d with
 | bl b=>exact ⟨b,Qau fi.rep,k b H' W2 ρ2 ⟨s2.same fi.same,f2.trans (FrW.same W2 fi.same),λh=>⟨(c2 h).1.trans fi.same,(c2 h).2⟩⟩ hk⟩
 | _=>exact hk.elim
end
section
variable {a b:Expr} {w:WE} {wt wu:WT}
def wNot (wt:WT):WT:=λρ Q=>wt ρ λb ρ'=>Q (!b) ρ'
def wAnd (wt wu:WT):WT:=λρ Q=>wt ρ λb ρ'=>if b=true then wu ρ' Q else Q false ρ'
def wOr (wt wu:WT):WT:=λρ Q=>wt ρ λb ρ'=>if b=true then Q true ρ' else wu ρ' Q
theorem Uf (ha:TV X T m a wt):TV X T m (.UnaryOp .Not a pos) (wNot wt):=by
 obtain ⟨ta,pa,ga⟩:=ha
 exact ⟨_,Qwm pa,λz R σ H W ρ Q Q' s hw k=>ga z R σ H W ρ _ _ s hw λb H1 W1 ρ1 p q1=>k (!b) H1 W1 ρ1 p q1⟩
def BV (X:Cx) (T:Tg) (m:Bool) (e:Expr) (w:WT):Prop :=
 ∃tt,PW X e tt/\∀(z:Nat->V) (R:Addr->Prop) (σ:St) (H:Hp) (W:Addr->Prop) (ρ:Env) (Q:Bool->Env->Prop) (Q':Bool->Hp->Prop),SR X.K T z R H W σ ρ->w ρ Q ->
  (∀b H' W' ρ',PostT X.K T z R m H W σ ρ H' W' ρ'->Q b ρ'->Q' b H')->tt σ H Q'
theorem PostT.seq {W:Addr->Prop} (p:PostT K T z R m1 H W σ ρ H1 W1 ρ1) (q:PostT K T z R m2 H1 W1 σ ρ1 H2 W2 ρ2):PostT K T z R (m1 || m2) H W σ ρ H2 W2 ρ2 where
 sr:=q.sr
 fr:=p.fr.trans q.fr
 calm:=λh=>by
  rw [Bool.or_eq_false_iff] at h
  obtain ⟨a1,a2,a3⟩:=p.calm h.1
  obtain ⟨b1,b2,b3⟩:=q.calm h.2
  exact ⟨a1.trans b1,b2.trans a2,b3.trans a3⟩
theorem PostT.left {W:Addr->Prop} (p:PostT K T z R m1 H W σ ρ H1 W1 ρ1):PostT K T z R (m1 || m2) H W σ ρ H1 W1 ρ1 :=
 ⟨p.sr,p.fr,λh=>p.calm (Bool.or_eq_false_iff.mp h).1⟩
theorem Qbm (ha:TV X T m a wt):BV X T m (.BoolOp .And [a] pos) wt:=by
 obtain ⟨ta,pa,ga⟩:=ha
 exact ⟨_,Qr3 pa,ga⟩
theorem X4 (ha:TV X T m a wt):BV X T m (.BoolOp .Or [a] pos) wt:=by
 obtain ⟨ta,pa,ga⟩:=ha
 exact ⟨_,Qwi pa,ga⟩
theorem Qff (ha:TV X T m1 a wt) (hb:BV X T m2 (.BoolOp .And (b::rest) pos) wu):BV X T (m1 || m2) (.BoolOp .And (a::b::rest) pos) (wAnd wt wu):=by
 obtain ⟨ta,pa,ga⟩:=ha
 obtain ⟨tb,pb,gb⟩:=hb
 refine ⟨_,Qwl pa pb,λz R σ H W ρ Q Q' s hw k=>ga z R σ H W ρ _ _ s hw λc H1 W1 ρ1 p q1=>?_⟩
 cases c with
 | true=>exact gb z R σ H1 W1 ρ1 Q Q' p.sr q1 λb H2 W2 ρ2 q q2=>k b H2 W2 ρ2 (p.seq q) q2
 | false=>exact k false H1 W1 ρ1 p.left q1
theorem Qb6 (ha:TV X T m1 a wt) (hb:BV X T m2 (.BoolOp .Or (b::rest) pos) wu):BV X T (m1 || m2) (.BoolOp .Or (a::b::rest) pos) (wOr wt wu):=by
 obtain ⟨ta,pa,ga⟩:=ha
 obtain ⟨tb,pb,gb⟩:=hb
 refine ⟨_,Q01 pa pb,λz R σ H W ρ Q Q' s hw k=>ga z R σ H W ρ _ _ s hw λc H1 W1 ρ1 p q1=>?_⟩
 cases c with
 | false=>exact gb z R σ H1 W1 ρ1 Q Q' p.sr q1 λb H2 W2 ρ2 q q2=>k b H2 W2 ρ2 (p.seq q) q2
 | true=>exact k true H1 W1 ρ1 p.left q1
theorem Y3 (h:BV X T m e wt):TV X T m e wt:=by
 obtain ⟨ta,pa,ga⟩:=h
 exact ⟨_,pa.pt,ga⟩
def wIfE (wt:WT) (wa wb:WE):WE:=λρ Q=>wt ρ λc ρ1=>if c=true then wa ρ1 Q else wb ρ1 Q
theorem Qtg (hc:TV X T m0 c wt) (ha:EV X T m1 o a wa) (hb:EV X T m2 o b wb):EV X T (m0 || (m1 || m2)) o (.IfExp c a b pos) (wIfE wt wa wb):=by
 obtain ⟨tc,pc,gc⟩:=hc
 obtain ⟨ta,pa,ga⟩:=ha
 obtain ⟨tb,pb,gb⟩:=hb
 refine ⟨_,Qhd pc pa pb,λz R σ H W ρ Q Q' s hw k=>gc z R σ H W ρ _ _ s hw λc H1 W1 ρ1 p q1=>?_⟩
 have fin:∀{m':Bool} v H' W' d ρ' F,Post X.K T z R m' o H1 W1 σ ρ1 H' W' ρ' d v F->((m1 || m2)=false->m'=false)->Q d ρ'->Q' v H':=λv H' W' d ρ' F q hm hq=>by
  refine k v H' W' d ρ' F ⟨q.sr,p.fr.trans q.fr,λh=>?_,q.rep,λh=>⟨(q.own h).1,λa ma=>⟨p.fr.dom a ((q.own h).2 a ma).1,((q.own h).2 a ma).2⟩⟩⟩ hq
  rw [Bool.or_eq_false_iff] at h
  obtain ⟨a1,a2,a3⟩:=p.calm h.1
  obtain ⟨b1,b2,b3⟩:=q.calm (hm h.2)
  exact ⟨a1.trans b1,b2.trans a2,b3.trans a3⟩
 cases c with
 | true=>exact ga z R σ H1 W1 ρ1 Q Q' p.sr q1 λv H' W' d ρ' F q hq=>fin v H' W' d ρ' F q (λh=>(Bool.or_eq_false_iff.mp h).1) hq
 | false=>exact gb z R σ H1 W1 ρ1 Q Q' p.sr q1 λv H' W' d ρ' F q hq=>fin v H' W' d ρ' F q (λh=>(Bool.or_eq_false_iff.mp h).2) hq
end
end PV
variable {neg:Bool}
namespace PV
open PySem PySem.Spec L2
open PySem.W (Dat kqdP kqdPs kqdOk)
mutual
def Y4:D->Dat
 | .non=>.none
 | .bl b=>.bool b
 | .int i=>.int i
 | .str x=>.str x
 | .tup xs=>.tuple (Zz xs)
 | .lst xs=>.list (Zz xs)
 | .dik _=>.none
 | .dit _=>.none
 | .kls _=>.none
 | .ty _=>.none
 | .fdk _=>.none
 | .ftp _=>.none
 | .fls _=>.none
 | .fdt _=>.none
 | .obj _ _=>.none
 | .clo _ _=>.none
 | .kc _=>.none
 | .dmx _=>.none
 | .fmx _=>.none
def Zz:List D->List Dat
 | []=>[]
 | d::r=>Y4 d::Zz r
end
mutual
def eqOk:Nat->D->Bool
 | _,.non=>true
 | _,.int _=>true
 | _,.str x=>PyData.strOk x
 | n+1,.tup xs=>Ub n xs
 | n+1,.lst xs=>Ub n xs
 | _,_=>false
def Ub:Nat->List D->Bool
 | _,[]=>true
 | n,d::r=>eqOk n d && Ub n r
end
theorem Qlm {xs:List D}:Ub n xs=true↔∀x∈xs,eqOk n x=true:=by
 induction xs with
 | nil=>simp [Ub]
 | cons d r ih=>simp only [Ub,Bool.and_eq_true,ih,List.mem_cons,forall_eq_or_imp]
mutual
theorem Qdr:∀(n:Nat) (d:D),eqOk n d=true->kqdOk n (Y4 d)=true
 | _,.non,_=>by simp [Y4,kqdOk]
 | _,.bl _,h=>by cases ‹Nat› <;> simp [eqOk] at h
 | _,.int _,_=>by simp [Y4,kqdOk]
 | _,.str x,h=>by
  cases ‹Nat› <;> (simp only [eqOk] at h;simpa [Y4,kqdOk] using h)
 | 0,.tup _,h=>by simp [eqOk] at h
 | 0,.lst _,h=>by simp [eqOk] at h
 | n+1,.tup xs,h=>by
  simp only [eqOk] at h
  rw [Y4];simp only [kqdOk]
  exact Qbi n xs h
 | n+1,.lst xs,h=>by
  simp only [eqOk] at h
  rw [Y4];simp only [kqdOk]
  exact Qbi n xs h
 | n,.dik _,h=>by cases n <;> simp [eqOk] at h
 | n,.dit _,h=>by cases n <;> simp [eqOk] at h
 | n,.kls _,h=>by cases n <;> simp [eqOk] at h
 | n,.ty _,h=>by cases n <;> simp [eqOk] at h
 | n,.fdk _,h=>by cases n <;> simp [eqOk] at h
 | n,.ftp _,h=>by cases n <;> simp [eqOk] at h
 | n,.fls _,h=>by cases n <;> simp [eqOk] at h
 | n,.fdt _,h=>by cases n <;> simp [eqOk] at h
 | n,.obj _ _,h=>by cases n <;> simp [eqOk] at h
 | n,.clo _ _,h=>by cases n <;> simp [eqOk] at h
 | n,.kc _,h=>by cases n <;> simp [eqOk] at h
theorem Qbi:∀(n:Nat) (xs:List D),Ub n xs=true->(Zz xs).all (kqdOk n)=true
 | _,[],_=>by simp [Zz]
 | n,d::r,h=>by
  simp only [Ub,Bool.and_eq_true] at h
  rw [Zz,List.all_cons,Qdr n d h.1,Qbi n r h.2];rfl
end
mutual
theorem Qd6:∀(n k:Nat) (a b:D),eqOk n a=true->eqOk k b=true->Y4 a=Y4 b->a=b
 | n,k,a,b,ha,hb,h=>by
  cases a with
  | non=>cases b <;> first | rfl | (simp [Y4] at h;done) | (cases k <;> simp [eqOk] at hb)
  | bl x=>cases n <;> simp [eqOk] at ha
  | int x=>cases b <;> first | (simp [Y4] at h;rw [h]) | (simp [Y4] at h)
  | str x=>cases b <;> first | (simp [Y4] at h;rw [h]) | (simp [Y4] at h)
  | tup xs =>
   cases b with
   | tup ys =>
    cases n with
    | zero=>simp [eqOk] at ha
    | succ n =>
     cases k with
     | zero=>simp [eqOk] at hb
     | succ k =>
      simp only [eqOk] at ha hb
      simp only [Y4,Dat.tuple.injEq] at h
      rw [Gv n k xs ys ha hb h]
   | _=>simp [Y4] at h
  | lst xs =>
   cases b with
   | lst ys =>
    cases n with
    | zero=>simp [eqOk] at ha
    | succ n =>
     cases k with
     | zero=>simp [eqOk] at hb
     | succ k =>
      simp only [eqOk] at ha hb
      simp only [Y4,Dat.list.injEq] at h
      rw [Gv n k xs ys ha hb h]
   | _=>simp [Y4] at h
  | dik x=>cases n <;> simp [eqOk] at ha
  | dit x=>cases n <;> simp [eqOk] at ha
  | kls x=>cases n <;> simp [eqOk] at ha
  | ty x=>cases n <;> simp [eqOk] at ha
  | fdk x=>cases n <;> simp [eqOk] at ha
  | ftp x=>cases n <;> simp [eqOk] at ha
  | fls x=>cases n <;> simp [eqOk] at ha
  | fdt x=>cases n <;> simp [eqOk] at ha
  | obj x y=>cases n <;> simp [eqOk] at ha
  | clo x y=>cases n <;> simp [eqOk] at ha
  | kc x=>cases n <;> simp [eqOk] at ha
  | dmx x=>cases n <;> simp [eqOk] at ha
  | fmx x=>cases n <;> simp [eqOk] at ha
theorem Gv:∀(n k:Nat) (a b:List D),Ub n a=true->Ub k b=true->Zz a=Zz b->a=b
 | n,k,[],b,ha,hb,h=>by
  cases b with
  | nil=>rfl
  | cons=>simp [Zz] at h
 | n,k,x::a,b,ha,hb,h=>by
  cases b with
  | nil=>simp [Zz] at h
  | cons y b =>
   simp only [Zz,List.cons.injEq] at h
   simp only [Ub,Bool.and_eq_true] at ha hb
   rw [Qd6 n k x y ha.1 hb.1 h.1,Gv n k a b ha.2 hb.2 h.2]
end
theorem Rep.dv (n:Nat) (r:Rep K H d v F):eqOk n d=true->DV H v (Y4 d):=by
 have no:∀{P:Prop} {n:Nat} {d:D},(∀n,eqOk n d=false)->eqOk n d=true->P:=λh h'=>absurd ((h _).symm.trans h') (by simp)
 refine Rep.rec (motive_1:=λd v _ _=>∀n,eqOk n d=true->DV H v (Y4 d)) (motive_2:=λd v _ _=>∀n,Ub n d=true->DVs H v (Zz d)) (motive_3:=λ_ _ _ _=>True) (motive_4:=λ_ _ _ _=>True) ?_ ?_ ?_ ?_ ?_ ?_ ?_ ?_ ?_ ?_ ?_ ?_ ?_ ?_ ?_ ?_ ?_ ?_ ?_ ?_ ?_ trivial (λ_ _ _ _=>trivial) trivial (λ_ _ _ _=>trivial) r n
 ·exact λ_ _=>by rw [Y4];exact .non
 ·exact λb n=>no λn=>by cases n <;> rfl
 ·exact λi _ _=>by rw [Y4];exact .int i
 ·exact λi _ _=>by rw [Y4];exact .str i
 ·intro _ _ _ _ e _ ih n h
  cases n with
  | zero=>simp [eqOk] at h
  | succ n=>rw [eqOk] at h;rw [Y4];exact .tup e (ih n h)
 ·intro _ _ _ _ e _ ih n h
  cases n with
  | zero=>simp [eqOk] at h
  | succ n=>rw [eqOk] at h;rw [Y4];exact .lst e (ih n h)
 ·exact λ_ _ _ n=>no λn=>by cases n <;> rfl
 ·exact λ_ _ _ n=>no λn=>by cases n <;> rfl
 ·exact λ_ _ _ n=>no λn=>by cases n <;> rfl
 ·exact λ_ n=>no λn=>by cases n <;> rfl
 ·exact λ_ _ _ n=>no λn=>by cases n <;> rfl
 ·exact λ_ _ _ _ n=>no λn=>by cases n <;> rfl
 ·exact λ_ _ _ n=>no λn=>by cases n <;> rfl
 ·exact λ_ _ _ n=>no λn=>by cases n <;> rfl
 ·exact λ_ _ _ n=>no λn=>by cases n <;> rfl
 ·exact λ_ _ _ n=>no λn=>by cases n <;> rfl
 ·exact λ_ n=>no λn=>by cases n <;> rfl
 ·exact λ_ _ _ _ _ n=>no λn=>by cases n <;> rfl
 ·exact λ_ _ _ _ _ n=>no λn=>by cases n <;> rfl
 ·exact λ_ _=>by rw [Zz];exact .nil
 ·intro _ _ _ _ _ _ _ _ ih1 ih2 n q
  rw [Ub,Bool.and_eq_true] at q
  rw [Zz];exact .cons (ih1 n q.1) (ih2 n q.2)
def dAdd:G2
 | .int i,.int j,k=>k (.int (i+j))
 | .str x,.str y,k=>x.length+y.length<=sizeLine/\k (.str (x++y))
 | .tup xs,.tup ys,k=>Qi xs=true/\Qi ys=true/\xs≠[]/\xs.length+ys.length<=sizeLine/\k (.tup (xs++ys))
 | .lst xs,.lst ys,k=>Qi xs=true/\Qi ys=true/\xs.length+ys.length<=sizeLine/\k (.lst (xs++ys))
 | _,_,_=>False
def dSub:G2
 | .int i,.int j,k=>k (.int (i-j))
 | _,_,_=>False
def dMul:G2
 | .int i,.int j,k=>CMul i j/\k (.int (i*j))
 | .lst xs,.int n,k=>Qi xs=true /\ -(2 ^ 63)<=n/\n<2 ^ 63/\xs.length*n.toNat<=sizeLine/\k (.lst (List.replicate n.toNat xs).flatten)
 | _,_,_=>False
def dDiv:G2
 | .int i,.int j,k=>(0<j/\j<1073741824/\k (.int (i / j)))\/(j<0/\j.natAbs<1073741824/\k (.int (i.fdiv j)))
 | _,_,_=>False
def dMod:G2
 | .int i,.int j,k=>(0<j/\k (.int (i % j)))\/(j<0/\k (.int (i.fmod j)))
 | _,_,_=>False
def dPow:G2
 | .int i,.int j,k=>CPow i j/\k (.int (i ^ j.toNat))
 | _,_,_=>False
def dEq:G2
 | .int i,.int j,k=>k (.bl (decide (i=j)))
 | .bl i,.bl j,k=>k (.bl (i == j))
 | .str i,.str j,k=>k (.bl (decide (i=j)))
 | a,b,k=>eqOk 9 a=true/\eqOk 9 b=true/\(a=b->k (.bl true))/\(a≠b->k (.bl false))
def dNe:G2
 | .int i,.int j,k=>k (.bl (!decide (i=j)))
 | .bl i,.bl j,k=>k (.bl (!(i == j)))
 | .str i,.str j,k=>k (.bl (!decide (i=j)))
 | a,b,k=>eqOk 9 a=true/\eqOk 9 b=true/\(a=b->k (.bl false))/\(a≠b->k (.bl true))
def dCmp (f:Int->Int->Bool):G2
 | .int i,.int j,k=>k (.bl (f i j))
 | _,_,_=>False
theorem Qq2 {x:V} (r:Rep K H (.int i) x F):x=.int i:=by cases r;rfl
theorem Reps.flatten {K:Frag} {H:Hp} {ds:List D} {xs:List V} (r:Reps K H ds xs []):∀n:Nat,Reps K H (List.replicate n ds).flatten (List.replicate n xs).flatten []
 | 0=>.nil
 | n+1=>by
  have:=r.append (Reps.flatten r n)
  simpa [List.replicate_succ,List.flatten_cons] using this
theorem Qoi (g:dAdd a b k):(∃i j,a=.int i/\b=.int j)\/(∃i j,a=.str i/\b=.str j)\/(∃i j,a=.tup i/\b=.tup j)\/∃i j,a=.lst i/\b=.lst j:=by
 cases a with
 | int i=>cases b with
  | int j=>exact .inl ⟨i,j,rfl,rfl⟩
  | _=>exact (show False from g).elim
 | str i=>cases b with
  | str j=>exact .inr (.inl ⟨i,j,rfl,rfl⟩)
  | _=>exact (show False from g).elim
 | tup i=>cases b with
  | tup j=>exact .inr (.inr (.inl ⟨i,j,rfl,rfl⟩))
  | _=>exact (show False from g).elim
 | lst i=>cases b with
  | lst j=>exact .inr (.inr (.inr ⟨i,j,rfl,rfl⟩))
  | _=>exact (show False from g).elim
 | _=>exact (show False from g).elim
theorem Qxh:OpD X (binaryOp .Add) dAdd:=by
 refine ⟨_,OpR.or Qxf (OpR.or Qxe (OpR.or Qsl Qie)),λH a b x y F1 F2 k Q ra rb g q=>?_⟩
 rcases Qoi g with ⟨i,j,rfl,rfl⟩ | ⟨i,j,rfl,rfl⟩ | ⟨ds,es,rfl,rfl⟩ | ⟨ds,es,rfl,rfl⟩
 ·exact .inl ⟨_,_,ra.iInt,rb.iInt,q _ _ _ _ (.flat (.int _)) g⟩
 ·exact .inr (.inr (.inr ⟨_,_,ra.iStr,rb.iStr,g.1,q _ _ _ _ (.flat (.str _)) g.2⟩))
 ·obtain ⟨a,xs,rfl,e1,r1⟩:=ra.iTup
  obtain ⟨b,ys,rfl,e2,r2⟩:=rb.iTup
  obtain ⟨p1,p2,hne,hz,g⟩:=g
  obtain ⟨-,r1⟩:=r1.pure p1
  obtain ⟨-,r2⟩:=r2.pure p2
  have l1:=r1.length
  have l2:=r2.length
  refine .inr (.inr (.inl ⟨a,b,xs,ys,rfl,rfl,.of e1,.of e2,λz=>hne (List.length_eq_zero_iff.mp (by rw [← l1,z];rfl)),by omega,λz=>?_,λz p hp=>?_⟩))
  ·have:es=[]:=List.length_eq_zero_iff.mp (by rw [← l2,z];rfl)
   subst this
   rw [List.append_nil] at g
   exact q _ _ _ _ (.flat (.tup e1 r1)) g
  ·refine q _ _ _ [] ⟨Qj hp,.tup Ql ?_,List.nodup_nil,λ_ m=>nomatch m⟩ g
   exact (r1.append r2).same (Qj hp)
 ·obtain ⟨a,xs,_,rfl,_,e1,r1⟩:=ra.iLst
  obtain ⟨b,ys,_,rfl,_,e2,r2⟩:=rb.iLst
  obtain ⟨p1,p2,hz,g⟩:=g
  obtain ⟨-,r1⟩:=r1.pure p1
  obtain ⟨-,r2⟩:=r2.pure p2
  have l1:=r1.length
  have l2:=r2.length
  refine .inr (.inl ⟨a,b,xs,ys,rfl,rfl,e1,e2,by omega,λp hp=>?_⟩)
  refine q _ _ _ [p] ⟨Qj hp,.lst Ql ((r1.append r2).same (Qj hp)),by simp,λc m=>by rw [List.mem_singleton.mp m];exact hp⟩ g
theorem Qeu:OpD X (binaryOp .Sub) dSub:=by
 refine ⟨_,Qw6,λH a b x y F1 F2 k Q ra rb g q=>?_⟩
 (cases ra <;> first | exact (show False from g).elim | skip) <;> (cases rb <;> first | exact (show False from g).elim | skip)
 exact ⟨_,_,rfl,rfl,q _ _ _ _ (.flat (.int _)) g⟩
theorem Qoh (g:dMul a b k):(∃i j,a=.int i/\b=.int j)\/∃i j,a=.lst i/\b=.int j:=by
 cases a with
 | int i=>cases b with
  | int j=>exact .inl ⟨i,j,rfl,rfl⟩
  | _=>exact (show False from g).elim
 | lst i=>cases b with
  | int j=>exact .inr ⟨i,j,rfl,rfl⟩
  | _=>exact (show False from g).elim
 | _=>exact (show False from g).elim
theorem Qa6:OpD X (binaryOp .Mult) dMul:=by
 refine ⟨_,OpR.or Qxa Qw7,λH a b x y F1 F2 k Q ra rb g q=>?_⟩
 rcases Qoh g with ⟨i,j,rfl,rfl⟩ | ⟨ds,n,rfl,rfl⟩
 ·exact .inl ⟨_,_,ra.iInt,rb.iInt,g.1,q _ _ _ _ (.flat (.int _)) g.2⟩
 ·obtain ⟨a,xs,_,rfl,_,e1,r1⟩:=ra.iLst
  obtain rfl:=rb.iInt
  obtain ⟨p1,h1,h2,hz,g⟩:=g
  obtain ⟨-,r1⟩:=r1.pure p1
  have l1:=r1.length
  refine .inr ⟨a,n,xs,rfl,rfl,e1,h1,h2,by rw [l1];exact hz,λp hp=>?_⟩
  refine q _ _ _ [p] ⟨Qj hp,.lst Ql ((r1.flatten _).same (Qj hp)),by simp,λc m=>by rw [List.mem_singleton.mp m];exact hp⟩ g
theorem Xz:OpD X (binaryOp .Mod) dMod:=by
 refine ⟨_,OpR.or Qxb Qsj,λH a b x y F1 F2 k Q ra rb g q=>?_⟩
 (cases ra <;> first | exact (show False from g).elim | skip) <;> (cases rb <;> first | exact (show False from g).elim | skip)
 rcases (show _\/_ from g) with ⟨h1,g⟩ | ⟨h1,g⟩
 ·exact .inl ⟨_,_,rfl,rfl,h1,q _ _ _ _ (.flat (.int _)) g⟩
 ·exact .inr ⟨_,_,rfl,rfl,by omega,q _ _ _ _ (.flat (.int _)) g⟩
theorem Xy:OpD X (binaryOp .Pow) dPow:=by
 refine ⟨_,Qw8,λH a b x y F1 F2 k Q ra rb g q=>?_⟩
 (cases ra <;> first | exact (show False from g).elim | skip) <;> (cases rb <;> first | exact (show False from g).elim | skip)
 exact ⟨_,_,rfl,rfl,g.1,q _ _ _ _ (.flat (.int _)) g.2⟩
theorem Qf9 {f:Int->Int->Bool} (h:OpR X (compareOp op) (rI0 λi j=>.bl (f i j))):OpD X (compareOp op) (dCmp f):=by
 refine ⟨_,h,λH a b x y F1 F2 k Q ra rb g q=>?_⟩
 (cases ra <;> first | exact (show False from g).elim | skip) <;> (cases rb <;> first | exact (show False from g).elim | skip)
 exact ⟨_,_,rfl,rfl,q _ _ _ _ (.flat (.bl _)) g⟩
theorem Qf8:OpD X (compareOp .Lt) (dCmp λi j=>decide (i<j)):=Qf9 Q1a
theorem Q1e:OpD X (compareOp .LtE) (dCmp λi j=>decide (i<=j)):=Qf9 Q1b
theorem Qkf:OpD X (compareOp .Gt) (dCmp λi j=>decide (j<i)):=Qf9 Q1c
theorem Qll {x y:V} {Q:VK} (ra:Rep X.K H a x F1) (rb:Rep X.K H b y F2)
  (h1:eqOk 9 a=true) (h2:eqOk 9 b=true) (g1:a=b->k (.bl (!neg))) (g2:a≠b->k (.bl neg)) (q:∀v H' d F,Fin X.K H H' d v F->k d->Q v H'):rDat neg x y H Q:=by
 refine ⟨Y4 a,Y4 b,9,ra.dv 9 h1,rb.dv 9 h2,Qdr _ _ h1,Qdr _ _ h2,Nat.le_refl _,λe=>?_,λe=>?_⟩
 ·exact q _ _ _ _ (.flat (.bl _)) (g1 (Qd6 9 9 a b h1 h2 e))
 ·exact q _ _ _ _ (.flat (.bl _)) (g2 λz=>e (by rw [z]))
theorem Qtu (g:dEq a b k):(∃i j,a=.int i/\b=.int j)\/(∃i j,a=.bl i/\b=.bl j)\/(∃i j,a=.str i/\b=.str j)\/(eqOk 9 a=true/\eqOk 9 b=true/\(a=b->k (.bl true))/\(a≠b->k (.bl false))):=by
 cases a with
 | int i=>cases b with
  | int j=>exact .inl ⟨i,j,rfl,rfl⟩
  | _=>exact .inr (.inr (.inr g))
 | bl i=>cases b with
  | bl j=>exact .inr (.inl ⟨i,j,rfl,rfl⟩)
  | _=>exact .inr (.inr (.inr g))
 | str i=>cases b with
  | str j=>exact .inr (.inr (.inl ⟨i,j,rfl,rfl⟩))
  | _=>exact .inr (.inr (.inr g))
 | _=>exact .inr (.inr (.inr g))
theorem Zr (hu:X.A.units+64<cLine):OpD X (compareOp .Eq) dEq:=by
 refine ⟨_,OpR.or Q1d (Qxd hu),λH a b x y F1 F2 k Q ra rb g q=>?_⟩
 rcases Qtu g with ⟨i,j,rfl,rfl⟩ | ⟨i,j,rfl,rfl⟩ | ⟨i,j,rfl,rfl⟩ | ⟨h1,h2,g1,g2⟩
 ·obtain rfl:=ra.iInt
  obtain rfl:=rb.iInt
  refine .inl ⟨rfl,?_⟩
  have e:decide (V.int i=V.int j)=decide (i=j):=by simp
  rw [e]
  exact q _ _ _ _ (.flat (.bl _)) g
 ·obtain rfl:=ra.iBl
  obtain rfl:=rb.iBl
  refine .inl ⟨rfl,?_⟩
  rw [Qhr]
  exact q _ _ _ _ (.flat (.bl _)) g
 ·obtain rfl:=ra.iStr
  obtain rfl:=rb.iStr
  refine .inl ⟨rfl,?_⟩
  have e:decide (V.str i=V.str j)=decide (i=j):=by simp
  rw [e]
  exact q _ _ _ _ (.flat (.bl _)) g
 ·exact .inr (Qll ra rb h1 h2 g1 g2 q)
theorem Qtq (g:dNe a b k):(∃i j,a=.int i/\b=.int j)\/(∃i j,a=.bl i/\b=.bl j)\/(∃i j,a=.str i/\b=.str j)\/(eqOk 9 a=true/\eqOk 9 b=true/\(a=b->k (.bl false))/\(a≠b->k (.bl true))):=by
 cases a with
 | int i=>cases b with
  | int j=>exact .inl ⟨i,j,rfl,rfl⟩
  | _=>exact .inr (.inr (.inr g))
 | bl i=>cases b with
  | bl j=>exact .inr (.inl ⟨i,j,rfl,rfl⟩)
  | _=>exact .inr (.inr (.inr g))
 | str i=>cases b with
  | str j=>exact .inr (.inr (.inl ⟨i,j,rfl,rfl⟩))
  | _=>exact .inr (.inr (.inr g))
 | _=>exact .inr (.inr (.inr g))
theorem Qf7 (hu:X.A.units+64<cLine):OpD X (compareOp .NotEq) dNe:=by
 refine ⟨_,OpR.or Q09 (Qw9 hu),λH a b x y F1 F2 k Q ra rb g q=>?_⟩
 rcases Qtq g with ⟨i,j,rfl,rfl⟩ | ⟨i,j,rfl,rfl⟩ | ⟨i,j,rfl,rfl⟩ | ⟨h1,h2,g1,g2⟩
 ·obtain rfl:=ra.iInt
  obtain rfl:=rb.iInt
  refine .inl ⟨rfl,?_⟩
  have e:(!decide (V.int i=V.int j)) = !decide (i=j):=by simp
  rw [e]
  exact q _ _ _ _ (.flat (.bl _)) g
 ·obtain rfl:=ra.iBl
  obtain rfl:=rb.iBl
  refine .inl ⟨rfl,?_⟩
  rw [Qhr]
  exact q _ _ _ _ (.flat (.bl _)) g
 ·obtain rfl:=ra.iStr
  obtain rfl:=rb.iStr
  refine .inl ⟨rfl,?_⟩
  have e:(!decide (V.str i=V.str j)) = !decide (i=j):=by simp
  rw [e]
  exact q _ _ _ _ (.flat (.bl _)) g
 ·exact .inr (Qll (neg:=true) ra rb h1 h2 g1 g2 q)
def dNeg:D->(D->Prop)->Prop
 | .int i,k=>k (.int (-i))
 | _,_=>False
theorem Qd5:UnD X (unaryOp .USub) dNeg:=by
 refine ⟨_,Qun,λH a x F1 k Q ra g q=>?_⟩
 cases ra <;> try exact (show False from g).elim
 exact ⟨_,rfl,q _ _ _ _ (.flat (.int _)) g⟩
end PV
variable {a value:PySem.Expr} {kvs:List (L2.Key × PV.D)} {m3:Bool}
namespace PV
open PySem PySem.Spec L2
open PyProof.Rows (subscriptTail)
def Zb:List D->Option (List Key)
 | []=>some []
 | .int i::r=>(Zb r).map λl=>.inl i::l
 | .str x::r=>(Zb r).map λl=>.inr x::l
 | _::_=>none
theorem Reps.keys {K:Frag} {H:Hp}:∀{ds:List D} {xs:List V} {F:List Addr} {l:List Key},Reps K H ds xs F->Zb ds=some l->xs=l.map kV
 | [],_,_,_,r,h=>by
  cases r
  simp only [Zb,Option.some.injEq] at h
  subst h
  rfl
 | d::ds,_,_,_,r,h=>by
  cases r with
  | cons p r =>
   cases d with
   | int i =>
    simp only [Zb,Option.map_eq_some_iff] at h
    obtain ⟨l',h1,rfl⟩:=h
    cases p
    rw [Reps.keys r h1]
    rfl
   | str i =>
    simp only [Zb,Option.map_eq_some_iff] at h
    obtain ⟨l',h1,rfl⟩:=h
    cases p
    rw [Reps.keys r h1]
    rfl
   | _=>simp [Zb] at h
theorem Reps.atI {ds:List D} (r:Reps K H ds xs F) (h:L2.atI ds i=some d):∃x B,L2.atI xs i=some x/\Rep K H d x B/\B.Sublist F:=by
 unfold L2.atI at h
 cases hj:ixN ds.length i with
 | none=>rw [hj] at h;cases h
 | some j =>
  rw [hj] at h
  obtain ⟨x,B,h1,h2,h3⟩:=r.get (i:=j) h
  refine ⟨x,B,?_,h2,h3⟩
  unfold L2.atI
  rw [r.length,hj]
  exact h1
def oget {α:Type} (o:Option α) (k:α->Prop):Prop:=match o with
 | some d=>k d
 | none=>False
def onI (b:D) (k:Int->Prop):Prop:=match b with
 | .int i=>k i
 | _=>False
def onK (b:D) (k:Key->Prop):Prop:=match b with
 | .int i=>k (.inl i)
 | .str i=>k (.inr i)
 | _=>False
def onT (b:D) (k:List D->Prop):Prop:=match b with
 | .tup l=>k l
 | _=>False
theorem Qa3 {k:Int->Prop} (h:onI b k):∃i,b=.int i/\k i:=by
 cases b with
 | int i=>exact ⟨i,rfl,h⟩
 | _=>exact (show False from h).elim
theorem Qkb {k:List D->Prop} (h:onT b k):∃i,b=.tup i/\k i:=by
 cases b with
 | tup i=>exact ⟨i,rfl,h⟩
 | _=>exact (show False from h).elim
theorem Qf4 {k:Key->Prop} (h:onK b k):∃key,k key/\∀{K:Frag} {H:Hp} {v:V} {F:List Addr},Rep K H b v F->v=kV key:=by
 cases b with
 | int i=>exact ⟨.inl i,h,λr=>r.iInt⟩
 | str i=>exact ⟨.inr i,h,λr=>r.iStr⟩
 | _=>exact (show False from h).elim
def dIx:G2:=λa b k=>match a with
 | .lst xs=>onI b λi=>oget (L2.atI xs i) k
 | .tup xs=>onI b λi=>oget (L2.atI xs i) k
 | .kls xs=>onI b λi=>oget (L2.atI xs i) k
 | .str z=>onI b λi=>z.length<=sizeLine/\oget (L2.atI z.cps.toList i) λc=>k (.str ⟨#[c]⟩)
 | .dik kvs=>onK b λkey=>oget (valD kvs key) k
 | .dit kvs=>onT b λl=>oget (Zb l) λks=>oget (valD kvs ks) k
 | .fdk kvs=>onK b λkey=>oget (valD kvs key) k
 | _=>False
theorem Qt {α:Type} {o:Option α} {k:α->Prop} (h:oget o k):∃d,o=some d/\k d:=by
 cases o with
 | none=>exact h.elim
 | some d=>exact ⟨d,rfl,h⟩
theorem Qjd {s₂:Shared} {slice:Expr} {o i:Value} {T id:String}
  (hl:typeLookup (.type T) "__getitem__" = pure (some (.builtin id))) (hs:subscripted slice false o i=operate [o,i] (getItem o i)) (hT:s₂.TypeIs o T) (h₂:wpAny (model prog w) A (getItem o i) Q E s₂) :
  wpAny (model prog w) A (subscriptTail value slice o i) Q E s₂:=by
 unfold subscriptTail
 refine wpAny_bind ?_
 rw [getitemInPython_of_ne hT.not_modules]
 refine wpAny_bind (wpAny_specialOf hT hl ?_)
 have fin:wpAny (model prog w) A (subscripted slice false o i) (λr s₃=>wpAny (model prog w) A (letTemporaryGo value o r >>= λ_=>pure r) Q E s₃) E s₂:=by
  rw [hs]
  exact wpAny_operating (wpAny_mono h₂ (λr s₃ h₃=>wpAny_bind (wpAny_letTemporaryGo (wpAny_pure h₃))) λ_ _ x=>x)
 first
  | exact wpAny_pure (wpAny_bind fin)
  | exact wpAny_bind (wpAny_pure (wpAny_bind fin))
  | exact wpAny_bind fin
theorem Qs1 (hu:X.A.units+1<cLine):IxR X (λx y H Q=>∃a v,x=.ref a/\DGet H a y (some v)/\Q v H):=by
 intro value slice pins s σ H x y v u Q I rx ry h hs
 obtain ⟨a,z,rfl,g,q⟩:=h
 cases rx
 exact Qjd PySem.F.slot_dict_getitem.lookup hs (Qgm I g) (Qlx hu I g ry λw' s3 I3 rw'=>⟨z,H,I3,rw',q⟩)
def IxD (X:Cx) (g:G2):Prop :=
 ∃r,IxR X r/\∀(H:Hp) (a b:D) (x y:V) (F1 F2:List Addr) (k:D->Prop) (Q:VK),Rep X.K H a x F1->Rep X.K H b y F2->g a b k ->
  (∀v d F,Rep X.K H d v F->F.Sublist F1->k d->Q v H)->r x y H Q
theorem Ju (hu:X.A.units+1<cLine):IxD X dIx:=by
 refine ⟨_,IxR.or Qx5 (Qs1 hu),λH a b x y F1 F2 k Q ra rb g q=>?_⟩
 cases a with
 | str z =>
  obtain ⟨i,rfl,hz,g⟩:=Qa3 g
  obtain ⟨c,e,g⟩:=Qt g
  exact .inl (.inr (.inr ⟨_,_,c,ra.iStr,rb.iInt,hz,e,q _ _ _ (.str _) (List.nil_sublist _) g⟩))
 | tup ds =>
  obtain ⟨i,rfl,g⟩:=Qa3 g
  obtain ⟨a,xs,rfl,e,r⟩:=ra.iTup
  obtain ⟨d,h,g⟩:=Qt g
  obtain ⟨v,B,h1,h2,h3⟩:=r.atI h
  exact .inl (.inr (.inl ⟨a,xs,i,v,rfl,rb.iInt,.of e,h1,q _ _ _ h2 h3 g⟩))
 | lst ds =>
  obtain ⟨i,rfl,g⟩:=Qa3 g
  obtain ⟨a,xs,G,rfl,rfl,e,r⟩:=ra.iLst
  obtain ⟨d,h,g⟩:=Qt g
  obtain ⟨v,B,h1,h2,h3⟩:=r.atI h
  exact .inl (.inl ⟨a,xs,i,v,rfl,rb.iInt,.of e,h1,q _ _ _ h2 (h3.trans (List.sublist_cons_self _ _)) g⟩)
 | dik ds =>
  obtain ⟨key,g,hy⟩:=Qf4 (show onK b (λkey=>oget (valD ds key) k) from g)
  obtain ⟨a,kvs,G,rfl,rfl,e,r⟩:=ra.iDik
  obtain rfl:=hy rb
  obtain ⟨d,h,g⟩:=Qt g
  rcases r.val key with ⟨z,_⟩ | ⟨d',v,B,h1,h2,h3,h4⟩
  ·rw [h] at z;cases z
  ·rw [h] at h1;cases h1
   exact .inr ⟨a,v,rfl,h2 ▸ DGet.k (k:=key) e,q _ _ _ h3 (h4.trans (List.sublist_cons_self _ _)) g⟩
 | dit ds =>
  obtain ⟨l,rfl,g⟩:=Qkb g
  obtain ⟨a,kvs,G,rfl,rfl,e,r⟩:=ra.iDit
  obtain ⟨b,xs,rfl,e2,r2⟩:=rb.iTup
  obtain ⟨ks,hk,g⟩:=Qt g
  obtain ⟨d,h,g⟩:=Qt g
  have hx:=r2.keys hk
  subst hx
  rcases r.val ks with ⟨z,_⟩ | ⟨d',v,B,h1,h2,h3,h4⟩
  ·rw [h] at z;cases z
  ·rw [h] at h1;cases h1
   exact .inr ⟨a,v,rfl,h2 ▸ DGet.t (k:=ks) e e2,q _ _ _ h3 (h4.trans (List.sublist_cons_self _ _)) g⟩
 | kls ds =>
  obtain ⟨i,rfl,g⟩:=Qa3 g
  obtain ⟨a,xs,rfl,rfl,e,r⟩:=ra.iKls
  obtain ⟨d,h,g⟩:=Qt g
  obtain ⟨v,B,h1,h2,h3⟩:=r.atI h
  exact .inl (.inl ⟨a,xs,i,v,rfl,rb.iInt,e.sq,h1,q _ _ _ h2 h3 g⟩)
 | fdk ds =>
  obtain ⟨key,g,hy⟩:=Qf4 (show onK b (λkey=>oget (valD ds key) k) from g)
  obtain ⟨a,ob,kvs,rfl,e,r⟩:=ra.iFdk
  obtain rfl:=hy rb
  obtain ⟨d,h,g⟩:=Qt g
  rcases r.val key with ⟨z,_⟩ | ⟨d',v,B,h1,h2,h3,h4⟩
  ·rw [h] at z;cases z
  ·rw [h] at h1;cases h1
   exact .inr ⟨a,v,rfl,.inl ⟨kvs,key,.inr ⟨ob,e⟩,rfl,h2.symm⟩,q _ _ _ h3 h4 g⟩
 | _=>exact (show False from g).elim
section
variable {o2:Bool} {b:Expr} {w:WE}
theorem Jy {g:G2} (hg:IxD X g) (ha:EV X T m1 o1 a wa) (hb:EV X T m2 o2 b wb) (hc:o1=true\/m2=false:=by first | exact .inl rfl | exact .inr rfl) (hs:Qgx b:=by intro _ _;rfl) :
  EV X T (m1 || m2) o1 (.Subscript a b pos) (wBin g wa wb):=by
 obtain ⟨r,ro,gr⟩:=hg
 obtain ⟨ta,pa,ga⟩:=ha
 obtain ⟨tb,pb,gb⟩:=hb
 refine ⟨_,Qw1 ro pa pb hs,λz R σ H W ρ Q Q' s hw k=>?_⟩
 refine two ga gb hc s hw λx y H2 W2 d1 d2 ρ2 F1 F2 s2 f2 c2 r1 r2 o1 _ _ q2=>?_
 exact gr H2 d1 d2 x y F1 F2 _ Q' r1 r2 q2 λv d F rd sub hk=>k v H2 W2 d ρ2 F ⟨s2,f2,c2,rd,λh=>⟨(o1 h).1.sublist sub,λa m=>(o1 h).2 a (sub.subset m)⟩⟩ hk
def inD:D->List D->Option Bool
 | .int i,[]=>some false
 | .int i,.int j::r=>(inD (.int i) r).map λb=>(j == i) || b
 | .str i,[]=>some false
 | .str i,.str j::r=>(inD (.str i) r).map λb=>(j == i) || b
 | _,_=>none
def dIn (neg:Bool):G2
 | .int i,.dik kvs,k=>k (.bl (xor neg (valD kvs (.inl i)).isSome))
 | .str i,.dik kvs,k=>k (.bl (xor neg (valD kvs (.inr i)).isSome))
 | .tup l,.dit kvs,k=>oget (Zb l) λks=>k (.bl (xor neg (valD kvs ks).isSome))
 | .int i,.lst xs,k=>oget (inD (.int i) xs) λb=>k (.bl (xor neg b))
 | .int i,.tup xs,k=>oget (inD (.int i) xs) λb=>k (.bl (xor neg b))
 | .str i,.lst xs,k=>oget (inD (.str i) xs) λb=>k (.bl (xor neg b))
 | .str i,.tup xs,k=>oget (inD (.str i) xs) λb=>k (.bl (xor neg b))
 | .str i,.str j,k=>k (.bl (xor neg (!(Builtin.Str.occurrences j i 0 j.length 1).isEmpty)))
 | _,_,_=>False
theorem Qk2 {K:Frag} {H:Hp} {i:Int}:∀{ds:List D} {xs:List V} {F:List Addr} {b:Bool},Reps K H ds xs F->inD (.int i) ds=some b->xs.all Qb3=true/\inV (.int i) xs=b
 | [],_,_,_,r,h=>by
  cases r
  simp only [inD,Option.some.injEq] at h
  subst h
  exact ⟨rfl,rfl⟩
 | d::ds,_,_,_,r,h=>by
  cases r with
  | cons p r =>
   cases d with
   | int j =>
    simp only [inD,Option.map_eq_some_iff] at h
    obtain ⟨b',h1,rfl⟩:=h
    cases p
    obtain ⟨e1,e2⟩:=Qk2 r h1
    refine ⟨by rw [List.all_cons,e1];rfl,?_⟩
    unfold inV at e2 ⊢
    rw [List.any_cons,e2]
    rfl
   | _=>simp [inD] at h
theorem Qk1 {K:Frag} {H:Hp} {i:Str}:∀{ds:List D} {xs:List V} {F:List Addr} {b:Bool},Reps K H ds xs F->inD (.str i) ds=some b->xs.all Qb3=true/\inV (.str i) xs=b
 | [],_,_,_,r,h=>by
  cases r
  simp only [inD,Option.some.injEq] at h
  subst h
  exact ⟨rfl,rfl⟩
 | d::ds,_,_,_,r,h=>by
  cases r with
  | cons p r =>
   cases d with
   | str j =>
    simp only [inD,Option.map_eq_some_iff] at h
    obtain ⟨b',h1,rfl⟩:=h
    cases p
    obtain ⟨e1,e2⟩:=Qk1 r h1
    refine ⟨by rw [List.all_cons,e1];rfl,?_⟩
    unfold inV at e2 ⊢
    rw [List.any_cons,e2]
    rfl
   | _=>simp [inD] at h
theorem Qsk (neg:Bool) (hu:X.A.units+1<cLine):OpR X (compareOp (if neg then .NotIn else .In)) (λy x H Q=>∃a o,x=.ref a/\DGet H a y o/\Q (.bl (xor neg o.isSome)) H):=by
 intro pins s σ H y x u v Q I ry rx h
 obtain ⟨a,ov,rfl,g,q⟩:=h
 cases rx
 cases neg with
 | false=>exact d_in hu I g ry λs3 I3=>⟨.bl ov.isSome,H,I3,rfl,by simpa using q⟩
 | true=>exact Qtn hu I g ry λs3 I3=>⟨.bl (!ov.isSome),H,I3,rfl,by simpa using q⟩
theorem Qnp (neg:Bool):OpR X (compareOp (if neg then .NotIn else .In)) (rIn X.K neg):=by
 cases neg with
 | false=>exact Qj9
 | true=>exact Qep
theorem Qno (neg:Bool):OpR X (compareOp (if neg then .NotIn else .In)) (λx y H Q=>∃i j,x=.str i/\y=.str j/\Q (.bl (xor neg (!(Builtin.Str.occurrences j i 0 j.length 1).isEmpty))) H):=by
 cases neg with
 | false=>simpa using Qj8 (X:=X)
 | true=>simpa using Qeo (X:=X)
theorem Qec {a:Addr} {kvs:List (Key × V)} {k:Key} (e:H a=some (.dK kvs)) (r:RepK X.K H ds kvs F):∃o,DGet H a (kV k) o/\o.isSome=(valD ds k).isSome:=by
 refine ⟨_,DGet.k (k:=k) e,?_⟩
 rcases r.val k with ⟨h1,h2⟩ | ⟨d,v,B,h1,h2,_⟩ <;> simp [h1,h2]
theorem Qts {a b:D} (g:dIn neg a b k):(∃i z,a=.int i/\b=.tup z)\/(∃i z,a=.int i/\b=.lst z)\/(∃i z,a=.int i/\b=.dik z)\/(∃i z,a=.str i/\b=.str z)\/(∃i z,a=.str i/\b=.tup z)\/(∃i z,a=.str i/\b=.lst z)\/(∃i z,a=.str i/\b=.dik z)\/∃i z,a=.tup i/\b=.dit z:=by
 cases a with
 | int i=>cases b with
  | tup z=>exact .inl ⟨i,z,rfl,rfl⟩
  | lst z=>exact .inr (.inl ⟨i,z,rfl,rfl⟩)
  | dik z=>exact .inr (.inr (.inl ⟨i,z,rfl,rfl⟩))
  | _=>exact (show False from g).elim
 | str i=>cases b with
  | str z=>exact .inr (.inr (.inr (.inl ⟨i,z,rfl,rfl⟩)))
  | tup z=>exact .inr (.inr (.inr (.inr (.inl ⟨i,z,rfl,rfl⟩))))
  | lst z=>exact .inr (.inr (.inr (.inr (.inr (.inl ⟨i,z,rfl,rfl⟩)))))
  | dik z=>exact .inr (.inr (.inr (.inr (.inr (.inr (.inl ⟨i,z,rfl,rfl⟩))))))
  | _=>exact (show False from g).elim
 | tup i=>cases b with
  | dit z=>exact .inr (.inr (.inr (.inr (.inr (.inr (.inr ⟨i,z,rfl,rfl⟩))))))
  | _=>exact (show False from g).elim
 | _=>exact (show False from g).elim
theorem Qpk (neg:Bool) (hu:X.A.units+1<cLine):OpD X (compareOp (if neg then .NotIn else .In)) (dIn neg):=by
 refine ⟨_,OpR.or (Qsk neg hu) (OpR.or (Qnp neg) (Qno neg)),λH a b x y F1 F2 k Q ra rb g q=>?_⟩
 have seqI:∀{i:Int} {p:Addr} {ds:List D} {xs:List V} {F:List Addr},x=.int i->y=.ref p->Reps X.K H ds xs F->(SqL X.K H p xs\/SqT X.K H p xs)->oget (inD (.int i) ds) (λb=>k (.bl (xor neg b)))->rIn X.K neg x y H Q:=λ{i p ds xs F} ex ey r hs g=>by
  subst ex ey
  obtain ⟨b,h,g⟩:=Qt g
  obtain ⟨e1,e2⟩:=Qk2 r h
  refine ⟨p,xs,rfl,hs,rfl,e1,?_⟩
  rw [e2]
  have:=q _ _ _ _ (.flat (.bl _)) g
  cases neg <;> simpa using this
 have seqS:∀{i:Str} {p:Addr} {ds:List D} {xs:List V} {F:List Addr},x=.str i->y=.ref p->Reps X.K H ds xs F->(SqL X.K H p xs\/SqT X.K H p xs)->oget (inD (.str i) ds) (λb=>k (.bl (xor neg b)))->rIn X.K neg x y H Q:=λ{i p ds xs F} ex ey r hs g=>by
  subst ex ey
  obtain ⟨b,h,g⟩:=Qt g
  obtain ⟨e1,e2⟩:=Qk1 r h
  refine ⟨p,xs,rfl,hs,rfl,e1,?_⟩
  rw [e2]
  have:=q _ _ _ _ (.flat (.bl _)) g
  cases neg <;> simpa using this
 rcases Qts g with ⟨i,z,rfl,rfl⟩ | ⟨i,z,rfl,rfl⟩ | ⟨i,ds,rfl,rfl⟩ | ⟨i,z,rfl,rfl⟩ | ⟨i,z,rfl,rfl⟩ | ⟨i,z,rfl,rfl⟩ | ⟨i,ds,rfl,rfl⟩ | ⟨l,ds,rfl,rfl⟩
 ·obtain ⟨p,xs,ey,e,r⟩:=rb.iTup
  exact .inr (.inl (seqI ra.iInt ey r (.inr (.of e)) g))
 ·obtain ⟨p,xs,G,ey,_,e,r⟩:=rb.iLst
  exact .inr (.inl (seqI ra.iInt ey r (.inl (.of e)) g))
 ·obtain ⟨a,kvs,G,rfl,_,e,r⟩:=rb.iDik
  obtain rfl:=ra.iInt
  obtain ⟨o,h1,h2⟩:=Qec (k:=.inl i) e r
  refine .inl ⟨a,o,rfl,h1,?_⟩
  rw [h2]
  exact q _ _ _ _ (.flat (.bl _)) g
 ·exact .inr (.inr ⟨_,_,ra.iStr,rb.iStr,q _ _ _ _ (.flat (.bl _)) g⟩)
 ·obtain ⟨p,xs,ey,e,r⟩:=rb.iTup
  exact .inr (.inl (seqS ra.iStr ey r (.inr (.of e)) g))
 ·obtain ⟨p,xs,G,ey,_,e,r⟩:=rb.iLst
  exact .inr (.inl (seqS ra.iStr ey r (.inl (.of e)) g))
 ·obtain ⟨a,kvs,G,rfl,_,e,r⟩:=rb.iDik
  obtain rfl:=ra.iStr
  obtain ⟨o,h1,h2⟩:=Qec (k:=.inr i) e r
  refine .inl ⟨a,o,rfl,h1,?_⟩
  rw [h2]
  exact q _ _ _ _ (.flat (.bl _)) g
 ·obtain ⟨b,xs,rfl,e2,r2⟩:=ra.iTup
  obtain ⟨a,kvs,G,rfl,_,e,r⟩:=rb.iDit
  obtain ⟨ks,hk,g⟩:=Qt g
  have hx:=r2.keys hk
  subst hx
  refine .inl ⟨a,valV kvs ks,rfl,DGet.t (k:=ks) e e2,?_⟩
  have h2:(valV kvs ks).isSome=(valD ds ks).isSome:=by
   rcases r.val ks with ⟨h1,h2⟩ | ⟨d,v,B,h1,h2,_⟩ <;> simp [h1,h2]
  rw [h2]
  exact q _ _ _ _ (.flat (.bl _)) g
theorem Q1f (hu:X.A.units+1<cLine):OpD X (compareOp .In) (dIn false):=Qpk false hu
theorem Qpj (hu:X.A.units+1<cLine):OpD X (compareOp .NotIn) (dIn true):=Qpk true hu
abbrev WA:=Env->(List D->Env->Prop)->Prop
structure PostA (K:Frag) (T:Tg) (z:Nat->V) (R:Addr->Prop) (m o:Bool) (H:Hp) (W:Addr->Prop) (σ:St) (ρ:Env) (H':Hp) (W':Addr->Prop) (ρ':Env) (ds:List D) (vs:List V) (F:List Addr):Prop where
 sr:SR K T z R H' W' σ ρ'
 fr:FrW H W H' W'
 calm:m=false->Same H H'/\W'=W/\ρ'=ρ
 rep:Reps K H' ds vs F
 own:o=true->F.Nodup/\∀a∈F,H a=none/\¬W' a
def AV (X:Cx) (T:Tg) (m o:Bool) (es:List Expr) (w:WA):Prop :=
 ∃ta,PA X es ta/\∀(z:Nat->V) (R:Addr->Prop) (σ:St) (H:Hp) (W:Addr->Prop) (ρ:Env) (Q:List D->Env->Prop) (Q':List V->Hp->Prop),SR X.K T z R H W σ ρ->w ρ Q ->
  (∀vs H' W' ds ρ' F,PostA X.K T z R m o H W σ ρ H' W' ρ' ds vs F->Q ds ρ'->Q' vs H')->ta σ H Q'
end
section
variable {o2:Bool} {b:Expr} {w:WE} {wr:WA}
def wNil:WA:=λρ Q=>Q [] ρ
def Qd (w:WE) (wr:WA):WA:=λρ Q=>w ρ λd ρ1=>wr ρ1 λds ρ2=>Q (d::ds) ρ2
theorem Qg:AV X T false true [] wNil:=⟨_,Qj7,λz R σ H W ρ Q Q' s hw k=>k [] H W [] ρ [] ⟨s,FrW.refl H W,λ_=>⟨Same.refl H,rfl,rfl⟩,.nil,λ_=>⟨List.nodup_nil,λa m=>nomatch m⟩⟩ hw⟩
theorem Qa (he:EV X T m1 o1 e w) (hr:AV X T m2 o2 es wr) (hc:o1=true\/m2=false:=by first | exact .inl rfl | exact .inr rfl) (hs:starEach (e::es) X.env=(false,eval e X.env)::starEach es X.env:=by rfl) :
  AV X T (m1 || m2) (o1 && o2) (e::es) (Qd w wr):=by
 obtain ⟨te,pe,ge⟩:=he
 obtain ⟨ta,pa,ga⟩:=hr
 refine ⟨_,Um pe pa hs,λz R σ H W ρ Q Q' s hw k=>?_⟩
 refine ge z R σ H W ρ _ _ s hw λv1 H1 W1 d1 ρ1 F1 p q1=>?_
 refine ga z R σ H1 W1 ρ1 _ _ p.sr q1 λvs H2 W2 ds ρ2 F2 q q2=>?_
 have r1:Rep X.K H2 d1 v1 F1:=by
  rcases hc with hc | hc
  ·exact p.rep.keep q.fr λa h=>((p.own hc).2 a h).2
  ·exact p.rep.same (q.calm hc).1
 refine k (v1::vs) H2 W2 (d1::ds) ρ2 (F1++F2) ⟨q.sr,p.fr.trans q.fr,λh=>?_,.cons r1 q.rep,λh=>?_⟩ q2
 ·rw [Bool.or_eq_false_iff] at h
  obtain ⟨a1,a2,a3⟩:=p.calm h.1
  obtain ⟨b1,b2,b3⟩:=q.calm h.2
  exact ⟨a1.trans b1,b2.trans a2,b3.trans a3⟩
 ·rw [Bool.and_eq_true] at h
  obtain ⟨n1,k1⟩:=p.own h.1
  obtain ⟨n2,k2⟩:=q.own h.2
  refine ⟨List.nodup_append.mpr ⟨n1,n2,λa ma b mb e=>?_⟩,λa ma=>?_⟩
  ·subst e
   obtain ⟨ob,e,_⟩:=p.rep.dom a ma
   rw [(k2 a mb).1] at e;cases e
  ·rcases List.mem_append.mp ma with ma | ma
   ·refine ⟨(k1 a ma).1,λw=>?_⟩
    rcases q.fr.new a w with w | w
    ·exact (k1 a ma).2 w
    ·obtain ⟨ob,e,_⟩:=p.rep.dom a ma
     rw [w] at e;cases e
   ·exact ⟨p.fr.dom a (k2 a ma).1,(k2 a ma).2⟩
def wTup (wr:WA):WE:=λρ Q=>wr ρ λds ρ'=>ds.length<=sizeLine/\Q (.tup ds) ρ'
def wLst (wr:WA):WE:=λρ Q=>wr ρ λds ρ'=>ds.length<=sizeLine/\Q (.lst ds) ρ'
theorem Ui {x1} (h:AV X T m o es wr):EV X T m o (.Tuple es x1 pos) (wTup wr):=by
 obtain ⟨ta,pa,ga⟩:=h
 refine ⟨_,Qwv pa,λz R σ H W ρ Q Q' s hw k=>?_⟩
 refine ga z R σ H W ρ _ _ s hw λvs H1 W1 ds ρ1 F p q=>?_
 obtain ⟨hz,q⟩:=q
 refine ⟨by rw [p.rep.length];exact hz,λa ha=>k _ _ W1 (.tup ds) ρ1 F ⟨p.sr.same (Qj ha),p.fr.trans (FrW.same W1 (Qj ha)),λh=>⟨(p.calm h).1.trans (Qj ha),(p.calm h).2⟩,.tup Ql (p.rep.same (Qj ha)),p.own⟩ q⟩
theorem Yw (h:AV X T m o es wr):EV X T m o (.List es pos) (wLst wr):=by
 obtain ⟨ta,pa,ga⟩:=h
 refine ⟨_,Qw0 pa,λz R σ H W ρ Q Q' s hw k=>?_⟩
 refine ga z R σ H W ρ _ _ s hw λvs H1 W1 ds ρ1 F p q=>?_
 obtain ⟨hz,q⟩:=q
 refine ⟨by rw [p.rep.length];exact hz,λa ha=>k _ _ W1 (.lst ds) ρ1 (a::F) ⟨p.sr.same (Qj ha),p.fr.trans (FrW.same W1 (Qj ha)),λh=>⟨(p.calm h).1.trans (Qj ha),(p.calm h).2⟩,.lst Ql (p.rep.same (Qj ha)),λh=>?_⟩ q⟩
 obtain ⟨n1,k1⟩:=p.own h
 refine ⟨List.nodup_cons.mpr ⟨λm=>?_,n1⟩,λb mb=>?_⟩
 ·obtain ⟨ob,e,_⟩:=p.rep.dom a m
  rw [ha] at e;cases e
 ·rcases List.mem_cons.mp mb with rfl | mb
  ·exact ⟨p.fr.dom _ ha,p.sr.nw ha⟩
  ·exact k1 b mb
abbrev GA:=List D->(D->Prop)->Prop
end
end PV
variable {Q:PV.D->PV.Env->Prop} {g:PV.GA} {Q':L2.VK} {T':String}
namespace PV
open PySem PySem.Spec L2
open PyProof.Rows (subscriptTail)
section
variable {wr:WA}
def Qbu (X:Cx) (f:Value) (g:GA):Prop :=
 ∃r,Vf X f r/\∀(H:Hp) (ds:List D) (xs:List V) (F:List Addr) (k:D->Prop) (Q:VK),Reps X.K H ds xs F->g ds k->(∀v H' d F',Fin X.K H H' d v F'->k d->Q v H')->r xs H Q
def Qs (g:GA) (wr:WA):WE:=λρ Q=>wr ρ λds ρ'=>g ds λd=>Q d ρ'
end
section
variable {b:Expr} {wr:WA} {id:String}
theorem Qhu {r:List V->Hp->VK->Prop} (gr:∀(H:Hp) (ds:List D) (xs:List V) (F:List Addr) (k:D->Prop) (Q:VK),Reps X.K H ds xs F->g ds k->(∀v H' d F',Fin X.K H H' d v F'->k d->Q v H')->r xs H Q) (ga:∀(z:Nat->V) (R:Addr->Prop) (σ:St) (H:Hp) (W:Addr->Prop) (ρ:Env) (Q:List D->Env->Prop) (Q':List V->Hp->Prop),SR X.K T z R H W σ ρ->wr ρ Q ->
   (∀vs H' W' ds ρ' F,PostA X.K T z R m o H W σ ρ H' W' ρ' ds vs F->Q ds ρ'->Q' vs H')->ta σ H Q') {W:Addr->Prop} (s:SR X.K T z R H W σ ρ) (hw:Qs g wr ρ Q)
  (k:∀v H' W' d ρ' F,Post X.K T z R m true H W σ ρ H' W' ρ' d v F->Q d ρ'->Q' v H'):ta σ H λvs H1=>r vs H1 Q':=by
 refine ga z R σ H W ρ _ _ s hw λvs H1 W1 ds ρ1 F p q=>?_
 exact gr H1 ds vs F _ Q' p.rep q λv H' d F' fi hk=>k v H' W1 d ρ1 F' (Post.fin p.sr p.fr p.calm fi.same fi.rep fi.nd fi.new) hk
theorem J1 (hc:Qbu X (.builtin id) g) (hm:X.mg x=none) (hv:bootBuiltins x=some (.builtin id)) (ha:AV X T m o (e::es) wr) (hg:Gl X x:=by rfl) (hn:x ≠ "__name__":=by decide) (hdb:(x == ("__debug__" : Str))=false:=by decide)
  (he:starEach (e::es) X.env=(false,eval e X.env)::starEach es X.env:=by rfl) (hpl:(backTo pos (starEach es X.env)).any (·.1)=false:=by rfl):EV X T m true (.Call (.Name x p) (e::es) [] pos) (Qs g wr):=by
 obtain ⟨r,rc,gr⟩:=hc
 obtain ⟨ta,pa,ga⟩:=ha
 exact ⟨_,Qhe rc hg hm hv pa hn hdb he hpl,λz R σ H W ρ Q Q' s hw k=>Qhu gr ga s hw k⟩
theorem Zf (hc:Qbu X (.type T') g) (hm:X.mg x=none) (hv:bootBuiltins x=some (.type T')) (ha:AV X T m o (e::es) wr) (hg:Gl X x:=by rfl) (hn:x ≠ "__name__":=by decide) (hdb:(x == ("__debug__" : Str))=false:=by decide)
  (he:starEach (e::es) X.env=(false,eval e X.env)::starEach es X.env:=by rfl) (hpl:(backTo pos (starEach es X.env)).any (·.1)=false:=by rfl):EV X T m true (.Call (.Name x p) (e::es) [] pos) (Qs g wr):=by
 obtain ⟨r,rc,gr⟩:=hc
 obtain ⟨ta,pa,ga⟩:=ha
 exact ⟨_,Qen rc hg hm hv pa hn hdb he hpl,λz R σ H W ρ Q Q' s hw k=>Qhu gr ga s hw k⟩
theorem Qli (t:Ty) (hm:X.mg x=none) (hv:bootBuiltins x=some (.type t.nm)) (hg:Gl X x:=by rfl) (hn:x ≠ "__name__":=by decide) (hdb:(x == ("__debug__" : Str))=false:=by decide):EV X T false true (.Name x pos) (wC (.ty t)) :=
 Vk (Qj6 hg hm hv (v:=.ty t.nm) rfl hn hdb) λ_=>.ty t
theorem Reps.at1 (r:Reps K H [d] xs F):∃v,xs=[v]/\Rep K H d v F:=by
 cases r with
 | cons h r=>cases r;rw [List.append_nil];exact ⟨_,rfl,h⟩
theorem Reps.at2 {e:D} (r:Reps K H [d,e] xs F):∃v u F1 F2,xs=[v,u]/\Rep K H d v F1/\Rep K H e u F2:=by
 cases r with
 | cons h r =>
  obtain ⟨u,rfl,h2⟩:=r.at1
  exact ⟨_,_,_,_,rfl,h,h2⟩
def dLen:GA
 | [.lst xs],k=>k (.int xs.length)
 | [.tup xs],k=>k (.int xs.length)
 | [.kls xs],k=>k (.int xs.length)
 | [.dik xs],k=>k (.int xs.length)
 | [.str z],k=>z.length<=sizeLine/\k (.int z.length)
 | _,_=>False
theorem Qbl:Qbu X (.builtin "len") dLen:=by
 refine ⟨_,Vf.or Qoo Ql9,λH ds xs F k Q r g q=>?_⟩
 cases ds with
 | nil=>exact (show False from g).elim
 | cons d ds =>
  cases ds with
  | cons _ _=>cases d <;> exact (show False from g).elim
  | nil =>
   cases d with
   | lst es =>
    obtain ⟨v,rfl,rd⟩:=r.at1
    clear r
    cases rd with
    | lst e r9=>exact .inl ⟨_,_,rfl,.inl ⟨_,.of e,rfl⟩,by rw [r9.length];exact q _ _ _ _ (.flat (.int _)) g⟩
   | tup es =>
    obtain ⟨v,rfl,rd⟩:=r.at1
    clear r
    cases rd with
    | tup e r9=>exact .inl ⟨_,_,rfl,.inr ⟨_,.of e,rfl⟩,by rw [r9.length];exact q _ _ _ _ (.flat (.int _)) g⟩
   | kls es =>
    obtain ⟨v,rfl,rd⟩:=r.at1
    clear r
    cases rd with
    | kls e r9=>exact .inl ⟨_,_,rfl,.inl ⟨_,e.sq,rfl⟩,by rw [r9.length];exact q _ _ _ _ (.flat (.int _)) g⟩
   | dik es =>
    obtain ⟨v,rfl,rd⟩:=r.at1
    clear r
    cases rd with
    | dik e r9=>exact .inr ⟨_,_,rfl,e,by rw [r9.length];exact q _ _ _ _ (.flat (.int _)) g⟩
   | str es =>
    obtain ⟨v,rfl,rd⟩:=r.at1
    clear r
    cases rd
    exact .inl ⟨_,_,rfl,⟨g.1,rfl⟩,q _ _ _ _ (.flat (.int _)) g.2⟩
   | _=>exact (show False from g).elim
def dInt:GA
 | [.int i],k=>k (.int i)
 | [.bl b],k=>k (.int (if b then 1 else 0))
 | _,_=>False
theorem Qp7:Qbu X (.type "int") dInt:=by
 refine ⟨_,Qmc,λH ds xs F k Q r g q=>?_⟩
 cases ds with
 | nil=>exact (show False from g).elim
 | cons d ds =>
  cases ds with
  | cons _ _=>cases d <;> exact (show False from g).elim
  | nil =>
   cases d with
   | int i =>
    obtain ⟨v,rfl,rd⟩:=r.at1
    cases rd
    exact .inl ⟨_,rfl,q _ _ _ _ (.flat (.int _)) g⟩
   | bl i =>
    obtain ⟨v,rfl,rd⟩:=r.at1
    cases rd
    exact .inr ⟨_,rfl,q _ _ _ _ (.flat (.int _)) g⟩
   | _=>exact (show False from g).elim
def dAbs:GA
 | [.int i],k=>k (.int (if i<0 then -i else i))
 | _,_=>False
theorem Qy3:Qbu X (.builtin "abs") dAbs:=by
 refine ⟨_,Qor,λH ds xs F k Q r g q=>?_⟩
 cases ds with
 | nil=>exact (show False from g).elim
 | cons d ds =>
  cases ds with
  | cons _ _=>cases d <;> exact (show False from g).elim
  | nil =>
   cases d with
   | int i =>
    obtain ⟨v,rfl,rd⟩:=r.at1
    cases rd
    exact ⟨_,rfl,q _ _ _ _ (.flat (.int _)) g⟩
   | _=>exact (show False from g).elim
def Q14:GA
 | [.int i,.int j],k=>k (.int (if j<i then j else i))
 | _,_=>False
def Q16:GA
 | [.int i,.int j],k=>k (.int (if j > i then j else i))
 | _,_=>False
def Qtr:GA
 | [.lst xs],k=>Qi xs=true/\k (.lst xs)
 | [.tup xs],k=>Qi xs=true/\k (.lst xs)
 | [.kls xs],k=>Qi xs=true/\k (.lst xs)
 | _,_=>False
def Qbj:GA
 | [.lst xs],k=>Qi xs=true/\k (.tup xs)
 | [.tup xs],k=>Qi xs=true/\k (.tup xs)
 | [.kls xs],k=>Qi xs=true/\k (.tup xs)
 | _,_=>False
theorem Qds:Qbu X (.type "tuple") Qbj:=by
 refine ⟨_,Qdt,λH ds xs F k Q r g q=>?_⟩
 cases ds with
 | nil=>exact (show False from g).elim
 | cons d ds =>
  cases ds with
  | cons _ _=>cases d <;> exact (show False from g).elim
  | nil =>
   cases d with
   | lst es =>
    obtain ⟨v,rfl,rd⟩:=r.at1
    clear r
    cases rd with
    | lst e r9=>exact ⟨_,_,rfl,.inl ⟨.of e,λl hl=>q _ _ _ [] ⟨Qj hl,.tup Ql ((r9.pure g.1).2.same (Qj hl)),by simp,λb m=>nomatch m⟩ g.2⟩⟩
   | tup es =>
    obtain ⟨v,rfl,rd⟩:=r.at1
    clear r
    cases rd with
    | tup e r9=>exact ⟨_,_,rfl,.inr ⟨.of e,q _ _ _ _ (.flat (.tup e (r9.pure g.1).2)) g.2⟩⟩
   | kls es =>
    obtain ⟨v,rfl,rd⟩:=r.at1
    clear r
    cases rd with
    | kls e r9=>exact ⟨_,_,rfl,.inl ⟨e.sq,λl hl=>q _ _ _ [] ⟨Qj hl,.tup Ql ((r9.pure g.1).2.same (Qj hl)),by simp,λb m=>nomatch m⟩ g.2⟩⟩
   | _=>exact (show False from g).elim
end
end PV
variable {b:PySem.Expr} {w:PV.WE} {i:Nat} {t:String} {fp:Nat->List PySem.Addr} {F':List PySem.Addr} {ob':L2.HO} {wr:PV.WA} {wt:PV.WT}
namespace PV
open PySem PySem.Spec L2
def isiD:D->Ty->Option Bool
 | .non,_=>some false
 | .bl _,t=>some (t == .bool || t == .int)
 | .int _,t=>some (t == .int)
 | .str _,t=>some (t == .str)
 | .tup _,t=>some (t == .tuple)
 | .lst _,t=>some (t == .list)
 | .dik _,t=>some (t == .dict)
 | .dit _,t=>some (t == .dict)
 | .kls _,_=>none
 | .ty _,_=>none
 | .fdk _,t=>some (t == .dict)
 | .ftp _,_=>none
 | .fls _,t=>some (t == .list)
 | .fdt _,_=>none
 | .obj _ _,_=>none
 | .clo _ _,_=>none
 | .kc _,_=>none
 | .dmx _,_=>none
 | .fmx _,_=>none
def dIsi:GA
 | [d,.ty t],k=>oget (isiD d t) λb=>k (.bl b)
 | _,_=>False
theorem Qxv (t:Ty):kitOne K (.type "NoneType") (.type t.nm)=some false:=by
 cases t <;> (unfold kitOne;rw [if_neg (by decide)];rfl)
theorem Qxx (t:Ty):kitOne K (.type "bool") (.type t.nm)=some (t == .bool || t == .int):=by
 cases t <;> first | (unfold kitOne;rw [if_pos (by decide)];rfl) | (unfold kitOne;rw [if_neg (by decide)];rfl)
theorem Qxw (t:Ty):kitOne K (.type "int") (.type t.nm)=some (t == .int):=by
 cases t <;> first | (unfold kitOne;rw [if_pos (by decide)];rfl) | (unfold kitOne;rw [if_neg (by decide)];rfl)
theorem Qxu (t:Ty):kitOne K (.type "str") (.type t.nm)=some (t == .str):=by
 cases t <;> first | (unfold kitOne;rw [if_pos (by decide)];rfl) | (unfold kitOne;rw [if_neg (by decide)];rfl)
theorem Qxt (t:Ty):kitOne K (.type "tuple") (.type t.nm)=some (t == .tuple):=by
 cases t <;> first | (unfold kitOne;rw [if_pos (by decide)];rfl) | (unfold kitOne;rw [if_neg (by decide)];rfl)
theorem Qpr (t:Ty):kitOne K (.type "list") (.type t.nm)=some (t == .list):=by
 cases t <;> first | (unfold kitOne;rw [if_pos (by decide)];rfl) | (unfold kitOne;rw [if_neg (by decide)];rfl)
theorem Qko (t:Ty):kitOne K (.type "dict") (.type t.nm)=some (t == .dict):=by
 cases t <;> first | (unfold kitOne;rw [if_pos (by decide)];rfl) | (unfold kitOne;rw [if_neg (by decide)];rfl)
theorem Qma:Vf X (.builtin "isinstance") (λxs H Q=>∃a o kvs T b,xs=[.ref a,.ty T]/\H a=some (.frz o (.dK kvs))/\kitOne X.K (.type "dict") (.type T)=some b/\Q (.bl b) H):=by
 intro pins s σ H xs us Q I r h
 obtain ⟨a,o,kvs,T,b,rfl,ea,e,q⟩:=h
 obtain ⟨u,c,rfl,ru,rc⟩:=Qhy r
 cases (show c=Value.type T from rc)
 cases (show u=Value.ref a from ru)
 obtain ⟨_,_,_,vs,_,p⟩:=(show Ye X.prog X.w H s.heap a (.frz o (.dK kvs)) from I.hok a _ ea)
 obtain ⟨o',es,ep,h1,h2,_⟩:=p
 exact kia_one kitx_dict I.kIn ⟨o',h1,h2.1⟩ e (λz=>nomatch z) λtk=>⟨.bl b,H,I.tok _,rfl,q⟩
theorem Qfc:Qbu X (.builtin "isinstance") dIsi:=by
 refine ⟨_,Vf.or Qgp Qma,λH ds xs F k Q r g q=>?_⟩
 match ds,r,g with
 | [d,.ty t],r,g =>
  obtain ⟨v,u,F1,F2,rfl,r1,r2⟩:=r.at2
  obtain ⟨b,hb,g⟩:=Qt g
  cases r2
  have fin:=q _ _ _ _ (.flat (.bl b)) g
  cases r1 with
  | non=>exact .inl ⟨_,_,_,_,rfl,.non,Qxv t,by cases hb;exact fin⟩
  | bl c=>exact .inl ⟨_,_,_,_,rfl,.bl c,Qxx t,by cases hb;exact fin⟩
  | int c=>exact .inl ⟨_,_,_,_,rfl,.int c,Qxw t,by cases hb;exact fin⟩
  | str c=>exact .inl ⟨_,_,_,_,rfl,.str c,Qxu t,by cases hb;exact fin⟩
  | tup e _=>exact .inl ⟨_,_,_,_,rfl,.tup e,Qxt t,by cases hb;exact fin⟩
  | lst e _=>exact .inl ⟨_,_,_,_,rfl,.lst e,Qpr t,by cases hb;exact fin⟩
  | dik e _=>exact .inl ⟨_,_,_,_,rfl,.dK e,Qko t,by cases hb;exact fin⟩
  | dit e _=>exact .inl ⟨_,_,_,_,rfl,.dT e,Qko t,by cases hb;exact fin⟩
  | kls _ _=>cases hb
  | ty _=>cases hb
  | fdk e _=>exact .inr ⟨_,_,_,_,_,rfl,e,Qko t,by cases hb;exact fin⟩
  | ftp _ _ _=>cases hb
  | fls e _=>exact .inl ⟨_,_,_,_,rfl,.frz e,Qpr t,by cases hb;exact fin⟩
  | fdt _ _=>cases hb
  | obj _ _ _=>cases hb
  | clo _ _=>cases hb
  | kc _=>cases hb
  | dmx _ _ _ _=>cases hb
  | fmx _ _ _ _=>cases hb
theorem SR0.write {W:Addr->Prop} {d':D} (s:SR0 K T z R H W σ ρ fp)
  (hl:look ρ i=some d) (ht:T.own i=true) (hv:σ[i]? = some (some v)) (hm:l∈fp i) (hk:∀b u,H b=some u->b≠l->H' b=some u) (hnew:∃ob,H' l=some ob/\imm ob=false) (r:Rep K H' d' v F') (nd:F'.Nodup)
  (sub:∀a∈F',a∈fp i\/(¬W a/\¬R a)):SR K T z R H' (λa=>W a\/a∈F') σ (ρ.set i (some d')):=by
 have hW:W l:=(s.own i d hl ht).2 l hm
 have hi:ImmK H H':=λb ob' e im=>by
  obtain ⟨ol,e1,e2⟩:=s.wd l hW
  have:b≠l:=λz=>by rw [z,e1] at e;cases e;rw [e2] at im;cases im
  exact hk b _ e this
 refine ⟨λj=>if j=i then F' else fp j,?_,?_,?_,?_,?_,?_,?_,?_,s.fix⟩
 ·rw [List.length_set];exact s.len
 ·intro a ha
  by_cases e:a=l
  ·subst e;exact hnew
  ·rcases ha with ha | ha
   ·exact (s.wd a ha).imp λob q=>⟨hk a ob q.1 e,q.2⟩
   ·exact r.dom a ha
 ·intro j e hj
  by_cases hji:j=i
  ·subst hji
   rw [Qdl (Qge hl)] at hj
   cases hj
   exact ⟨v,hv,by rw [if_pos rfl];exact r⟩
  ·rw [Jq hji] at hj
   obtain ⟨u,h1,h2⟩:=s.at_ j e hj
   refine ⟨u,h1,?_⟩
   rw [if_neg hji]
   refine h2.frame hi λa ha=>?_
   obtain ⟨oa,e1,_⟩:=h2.dom a ha
   rw [e1]
   refine hk a _ e1 λz=>?_
   subst z
   cases hto:T.own j with
   | true=>exact s.dis i j d e hl hj ht hto (λz=>hji z.symm) _ hm ha
   | false=>exact s.wr _ hW (s.ro j e hj hto _ ha)
 ·intro j e hj hto
  by_cases hji:j=i
  ·subst hji;simp only [if_pos];exact ⟨nd,λa h=>.inr h⟩
  ·rw [Jq hji] at hj
   simp only [if_neg hji]
   exact ⟨(s.own j e hj hto).1,λa h=>.inl ((s.own j e hj hto).2 a h)⟩
 ·intro j e hj hto
  have hji:j≠i:=λz=>by subst z;rw [ht] at hto;cases hto
  rw [Jq hji] at hj
  simp only [if_neg hji]
  exact s.ro j e hj hto
 ·intro a ha hr
  rcases ha with ha | ha
  ·exact s.wr a ha hr
  ·rcases sub a ha with h | h
   ·exact s.wr a ((s.own i d hl ht).2 a h) hr
   ·exact h.2 hr
 ·intro a hr
  have:a≠l:=λz=>by subst z;exact s.wr _ hW hr
  exact (s.rd a hr).imp λob q=>⟨hk a ob q.1 this,q.2⟩
 ·intro j k e e' hj hk tj tk hne a ha ha'
  by_cases hji:j=i
  ·subst hji
   have hkj:k≠j:=λz=>hne z.symm
   rw [Jq hkj] at hk
   simp only [if_pos,if_neg hkj] at ha ha'
   rcases sub a ha with h | h
   ·exact s.dis j k d e' hl hk ht tk hne a h ha'
   ·exact h.1 ((s.own k e' hk tk).2 a ha')
  ·rw [Jq hji] at hj
   simp only [if_neg hji] at ha
   by_cases hki:k=i
   ·subst hki
    simp only [if_pos] at ha'
    rcases sub a ha' with h | h
    ·exact s.dis j k e d hj hl tj ht hne a ha h
    ·exact h.1 ((s.own j e hj tj).2 a ha)
   ·rw [Jq hki] at hk
    simp only [if_neg hki] at ha'
    exact s.dis j k e e' hj hk tj tk hne a ha ha'
theorem FrW.write {H0:Hp} {W0 W:Addr->Prop} (f:FrW H0 W0 H W) (hl:W l) (hm:∃ol,H l=some ol/\PV.imm ol=false) (hk:∀b u,H b=some u->b≠l->H' b=some u) (hnew:∃ob,H' l=some ob/\PV.imm ob=false)
  (sub:∀a∈F',W a\/H0 a=none):FrW H0 W0 H' (λa=>W a\/a∈F') where
 keep:=λb ob' e n=>by
  have:b≠l:=λz=>by
   subst z
   rcases f.new _ hl with h | h
   ·exact n h
   ·rw [h] at e;cases e
  exact hk b _ (f.keep b ob' e n) this
 dom:=λb e=>by
  by_cases h:b=l
  ·subst h
   obtain ⟨ob,e1,_⟩:=hnew
   rw [e1] at e;cases e
  ·refine f.dom b ?_
   cases q:H b with
   | none=>rfl
   | some u=>rw [hk b u q h] at e;cases e
 imm:=λb ob' e im=>by
  have e':=f.imm b ob' e im
  obtain ⟨ol,e1,e2⟩:=hm
  have:b≠l:=λz=>by rw [z,e1] at e';cases e';rw [e2] at im;cases im
  exact hk b _ e' this
 new:=λb h=>by
  rcases h with h | h
  ·exact f.new b h
  ·rcases sub b h with h | h
   ·exact f.new b h
   ·exact .inr h
theorem Qab:∀b u,H b=some u->b≠l->upd H l ob b=some u:=λb u e n=>by rw [Qk n];exact e
abbrev GM:=D->List D->(D->D->Prop)->Prop
def MtD (X:Cx) (id:String) (g:GM):Prop :=
 ∃r,MtR X id r/\∀(H:Hp) (d:D) (ds:List D) (v:V) (xs:List V) (F G:List Addr) (k:D->D->Prop) (Q:VK),Rep X.K H d v F->F.Nodup->Reps X.K H ds xs G->G.Nodup->(∀a∈G,a∉F)->g d ds k ->
  (∀u l ob e d' F',l∈F->imm ob=false->Rep X.K (upd H l ob) d' v F'->F'.Nodup->(∀a∈F',a∈F\/a∈G)->Rep X.K (upd H l ob) e u []->k e d'->Q u (upd H l ob))->r v xs H Q
def tyD:Option D->String->Bool
 | some (.lst _),t=>t == "list"
 | some (.dik _),t=>t == "dict"
 | some (.dit _),t=>t == "dict"
 | some (.dmx _),t=>t == "dict"
 | _,_=>false
theorem Quo (r:Rep K H d v F) (h:tyD (some d) t=true):tyV K t v H:=by
 cases r <;> try (simp [tyD] at h)
 ·subst h;exact .inl ⟨rfl,_,.of ‹_›⟩
 ·subst h;exact .inr (.inr (.inl ⟨rfl,.inl ⟨_,‹_›⟩⟩))
 ·subst h;exact .inr (.inr (.inl ⟨rfl,.inr ⟨_,‹_›⟩⟩))
 ·rename_i e hk hm r
  subst h
  refine .inr (.inr (.inr (.inr ⟨Mx.phi _ _,e,λh p=>?_⟩)))
  obtain ⟨_,_,_,_,_,o,_,_,e,x,_⟩:=p
  exact ⟨o,e,x.1,x.2.1⟩
def wMt (i:Nat) (t:String) (g:GM) (wr:WA):WE:=λρ Q=>tyD (look ρ i) t=true/\wr ρ λds ρ1=>oget (look ρ1 i) λd=>g d ds λe d'=>Q e (ρ1.set i (some d'))
theorem Qxl {g:GM} (ht:T.own i=true)
  (gr:∀(H:Hp) (d:D) (ds:List D) (v:V) (xs:List V) (F G:List Addr) (k:D->D->Prop) (Q:VK),Rep X.K H d v F->F.Nodup->Reps X.K H ds xs G->G.Nodup->(∀a∈G,a∉F)->g d ds k ->
   (∀u l ob e d' F',l∈F->imm ob=false->Rep X.K (upd H l ob) d' v F'->F'.Nodup->(∀a∈F',a∈F\/a∈G)->Rep X.K (upd H l ob) e u []->k e d'->Q u (upd H l ob))->r v xs H Q) (ga:∀(z:Nat->V) (R:Addr->Prop) (σ:St) (H:Hp) (W:Addr->Prop) (ρ:Env) (Q:List D->Env->Prop) (Q':List V->Hp->Prop),SR X.K T z R H W σ ρ->wr ρ Q ->
   (∀vs H' W' ds ρ' F,PostA X.K T z R m true H W σ ρ H' W' ρ' ds vs F->Q ds ρ'->Q' vs H')->ta σ H Q') {W:Addr->Prop} (s:SR X.K T z R H W σ ρ) (hw:wMt i t g wr ρ Q)
  (k:∀v H' W' d ρ' F,Post X.K T z R true true H W σ ρ H' W' ρ' d v F->Q d ρ'->Q' v H'):tVar i σ H λx H1=>tyV X.K t x H1/\ta σ H1 λxs H2=>r x xs H2 Q':=by
 obtain ⟨hty,hw⟩:=hw
 obtain ⟨fp0,s0⟩:=id s
 cases hl:look ρ i with
 | none=>rw [hl] at hty;cases hty
 | some d0 =>
  obtain ⟨v,hv,r0⟩:=s0.at_ i d0 hl
  refine ⟨v,hv,Quo r0 (by rw [hl] at hty;exact hty),?_⟩
  refine ga z R σ H W ρ _ _ s hw λvs H1 W1 ds ρ1 G p q=>?_
  obtain ⟨d,hd,q⟩:=Qt q
  obtain ⟨fp,s1⟩:=id p.sr
  obtain ⟨v',hv',r1⟩:=s1.at_ i d hd
  have:v'=v:=by rw [hv] at hv';cases hv';rfl
  subst this
  obtain ⟨nd1,sw⟩:=s1.own i d hd ht
  obtain ⟨ndG,kG⟩:=p.own rfl
  refine gr H1 d ds v' vs (fp i) G _ Q' r1 nd1 p.rep ndG (λa ha hf=>(kG a ha).2 (sw a hf)) q λu l ob e d' F' hlF him rd' ndF sub re hk=>?_
  have hWl:=sw l hlF
  refine k u _ (λa=>W1 a\/a∈F') e _ [] ⟨s1.write hd ht hv' hlF Qab ⟨ob,Ql,him⟩ rd' ndF (λa ha=>?_),p.fr.write hWl (s1.wd l hWl) Qab ⟨ob,Ql,him⟩ (λa ha=>?_),(λh=>nomatch h),re,λ_=>⟨List.nodup_nil,λa m=>nomatch m⟩⟩ hk
  ·rcases sub a ha with h | h
   ·exact .inl h
   ·exact .inr ⟨(kG a h).2,s.nr (kG a h).1⟩
  ·rcases sub a ha with h | h
   ·exact .inl (sw a h)
   ·exact .inr (kG a h).1
section
variable {id:String}
theorem Qtf {g:GM} (hm:MtD X id g) (pa:PlainAttrs T') (slot:Slot T' name id) (hty:typeOf (.builtin id)=pure (.type "method_descriptor")) (ha:AV X T m true (e::es) wr)
  (ht:T.own i=true:=by rfl) (hN:X.N[i]? = some x:=by rfl) (hv:Vis X.env.scope x:=by first | exact Or.inl rfl | exact Or.inr (Or.inl rfl) | exact Or.inr (Or.inr rfl)) (hd:(x == ("__debug__" : Str))=false:=by decide)
  (hcd:(x == ("__classdict__" : Str))=false:=by decide)
  (hbase:attributeBase (.Name x p) name X.env (eval (.Name x p) X.env)=eval (.Name x p) X.env:=by rfl)
  (hfew:((backTo cpos (starEach (e::es) X.env)).all (λx=>!x.1) && (backToKw cpos (keywordEach [] X.env)).all (λx=>x.1.isSome)
   && decide ((e::es).length+([]:List Keyword).length+(if ([]:List Keyword).isEmpty then 0 else 1)<30))=true:=by rfl)
  (hline:(apos.endLine == cpos.line)=true:=by rfl) (hs:starEach (e::es) X.env=(false,eval e X.env)::starEach es X.env:=by rfl) (hplain:(backTo cpos (starEach es X.env)).any (·.1)=false:=by rfl) :
  EV X T true true (.Call (.Attribute (.Name x p) name apos) (e::es) [] cpos) (wMt i T' g wr):=by
 obtain ⟨r,mr,gr⟩:=hm
 obtain ⟨ta,pa',ga⟩:=ha
 exact ⟨_,Qw4 pa slot hty mr (Xx hN hv hd hcd) pa' hbase hfew hline hs hplain,λz R σ H W ρ Q Q' s hw k=>Qxl ht gr ga s hw k⟩
def Qbg:GM
 | .lst xs,[d],k=>xs.length<sizeLine/\k .non (.lst (xs++[d]))
 | _,_,_=>False
theorem Gi {α:Type} {F G:List α} (h:F.Nodup) (h':G.Nodup) (d:∀a∈G,a∉F):(F++G).Nodup :=
 List.nodup_append.mpr ⟨h,h',λa ha b hb e=>d b hb (e ▸ ha)⟩
theorem Qbf (h:H l=some ob) (hi:imm ob=false):ImmK H (upd H l ob'):=λb u e im=>by
 have:b≠l:=λz=>by rw [z,h] at e;cases e;rw [hi] at im;cases im
 rw [Qk this];exact e
theorem Reps.upd {ds:List D} (r:Reps K H ds xs F) (h:H l=some ob) (hi:imm ob=false) (hn:l∉F):Reps K (L2.upd H l ob') ds xs F :=
 r.frame (Qbf h hi) λa ha=>Qk λz=>hn (z ▸ ha)
theorem Rep.upd {x:V} (r:Rep K H d x F) (h:H l=some ob) (hi:imm ob=false) (hn:l∉F):Rep K (L2.upd H l ob') d x F :=
 r.frame (Qbf h hi) λa ha=>Qk λz=>hn (z ▸ ha)
theorem RepK.upd {xs:List (Key × V)} (r:RepK K H ds xs F) (h:H l=some ob) (hi:imm ob=false) (hn:l∉F):RepK K (L2.upd H l ob') ds xs F :=
 r.frame (Qbf h hi) λa ha=>Qk λz=>hn (z ▸ ha)
theorem RepT.upd {ds:List (List Key × D)} {xs:List (List Key × V)} (r:RepT K H ds xs F) (h:H l=some ob) (hi:imm ob=false) (hn:l∉F):RepT K (L2.upd H l ob') ds xs F :=
 r.frame (Qbf h hi) λa ha=>Qk λz=>hn (z ▸ ha)
theorem Qex:MtD X "list.append" Qbg:=by
 refine ⟨_,Qkk,λH d ds v xs F G k Q r nd rs ndG dis g q=>?_⟩
 cases d with
 | lst es =>
  cases ds with
  | nil=>exact (show False from g).elim
  | cons d ds =>
   cases ds with
   | cons _ _=>exact (show False from g).elim
   | nil =>
    obtain ⟨u,rfl,rd⟩:=rs.at1
    cases r with
    | @lst l ys _ F e r9 =>
     obtain ⟨hz,g⟩:=g
     obtain ⟨nl,nd⟩:=List.nodup_cons.mp nd
     have hG:l∉G:=λh=>dis l h List.mem_cons_self
     refine ⟨l,ys,u,rfl,rfl,e,by rw [r9.length];exact hz,?_⟩
     refine q .non l _ .non _ (l::(F++G)) List.mem_cons_self rfl (.lst Ql ((r9.upd e rfl nl).snoc (rd.upd e rfl hG))) (List.nodup_cons.mpr ⟨λh=>(List.mem_append.mp h).elim nl hG,Gi nd ndG λa ha hf=>dis a ha (List.mem_cons_of_mem _ hf)⟩) (λa ha=>?_) .non g
     rcases List.mem_cons.mp ha with rfl | ha
     ·exact .inl List.mem_cons_self
     ·rcases List.mem_append.mp ha with ha | ha
      ·exact .inl (List.mem_cons_of_mem _ ha)
      ·exact .inr ha
 | _=>exact (show False from g).elim
def Qyd:GM
 | .lst xs,[.int i],k=>-(2 ^ 63)<=i/\i<2 ^ 63/\oget (seqIndex? i xs.length) λj=>oget xs[j]? λd=>d.pure=true/\k d (.lst (xs.eraseIdx j))
 | _,_,_=>False
theorem sub3 {α:Type} {F A B C:List α} (h:F=A++B++C):(A++C).Sublist F:=by
 rw [h,List.append_assoc]
 exact List.Sublist.append (List.Sublist.refl _) (List.sublist_append_right _ _)
def gPop:GM
 | .lst xs,[],k=>oget xs[xs.length-1]? λd=>d.pure=true/\k d (.lst xs.dropLast)
 | _,_,_=>False
def Qyg:GM
 | .lst _,[],k=>k .non (.lst [])
 | _,_,_=>False
end
def spR (K:Frag) (g:GA):Sp:=λvs H Q _=>∃(ds:List D) (F:List Addr) (k:D->Prop),Reps K H ds vs F/\g ds k/\∀v H' d F',Fin K H H' d v F'->k d->Q v H'
abbrev GI:=List D->(D->D->Prop)->Prop
def spI (K:Frag) (p:Nat) (g:GI):Sp:=λvs H Q _=>∃(ds:List D) (a:Addr) (k:D->D->Prop),Reps K H ds vs [a]/\vs[p]? = some (.ref a)/\g ds k /\
 ∀v H' d d' F',Rep K H' d' (.ref a) [a]->Rep K H' d v F'->F'.Nodup->(∀b∈F',H b=none)->(∀b o,H b=some o->b≠a->H' b=some o)->k d d'->Q v H'
def Zw:D->Bool
 | .lst xs=>Qi xs
 | .dik kvs=>kvs.all λkv=>kv.2.pure
 | .dit kvs=>kvs.all λkv=>kv.2.pure
 | .dmx _=>true
 | _=>false
theorem RepK.pure {K:Frag} {H:Hp}:∀{ds:List (Key × D)} {xs:List (Key × V)} {F:List Addr},RepK K H ds xs F->(ds.all λkv=>kv.2.pure)=true->F=[]
 | [],_,_,r,_=>by cases r;rfl
 | d::ds,_,_,r,h=>by
  rw [List.all_cons,Bool.and_eq_true] at h
  cases r with
  | cons p r=>rw [(p.pure h.1).1,RepK.pure r h.2];rfl
theorem RepT.pure {K:Frag} {H:Hp}:∀{ds:List (List Key × D)} {xs:List (List Key × V)} {F:List Addr},RepT K H ds xs F->(ds.all λkv=>kv.2.pure)=true->F=[]
 | [],_,_,r,_=>by cases r;rfl
 | d::ds,_,_,r,h=>by
  rw [List.all_cons,Bool.and_eq_true] at h
  cases r with
  | cons p r=>rw [(p.pure h.1).1,RepT.pure r h.2];rfl
theorem Rep.flat1 (r:Rep K H d v F) (h:Zw d=true):∃a,v=.ref a/\F=[a]:=by
 cases r with
 | lst e r=>exact ⟨_,rfl,by rw [(r.pure (by simpa [Zw] using h)).1]⟩
 | dik e r=>exact ⟨_,rfl,by rw [r.pure (by simpa [Zw] using h)]⟩
 | dit e r=>exact ⟨_,rfl,by rw [r.pure (by simpa [Zw] using h)]⟩
 | dmx e _ _ _=>exact ⟨_,rfl,rfl⟩
 | _=>simp [Zw] at h
section
variable {k:Nat}
theorem Qtk (F:FnOk X.prog X.w X.K X.mg X.base CX0 k f fd ps (spR X.K g)) (hr:Room k X.A) (hm:X.mg x=some (.ref f)) (hk:keepIn X.K (.ref f)=true) (hb:Xm X.K fd ps []) (ha:AV X T m o (e::es) wr) (hg:Gl X x:=by rfl)
  (hdb:(x == ("__debug__" : Str))=false:=by decide) (he:starEach (e::es) X.env=(false,eval e X.env)::starEach es X.env:=by rfl) (hpl:(backTo pos (starEach es X.env)).any (·.1)=false:=by rfl) :
  EV X T m true (.Call (.Name x p) (e::es) [] pos) (Qs g wr):=by
 obtain ⟨ta,pa,ga⟩:=ha
 refine ⟨_,Qf3 F hr hg hm hk hb .nil Qsh pa hdb he hpl,λz R σ H W ρ Q Q' s hw k=>?_⟩
 refine ga z R σ H W ρ _ _ s hw λvs H1 W1 ds ρ1 F p q=>?_
 refine ⟨ds,F,_,by rw [List.append_nil];exact p.rep,q,λv H' d F' fi hk=>k v H' W1 d ρ1 F' (Post.fin p.sr p.fr p.calm fi.same fi.rep fi.nd fi.new) hk⟩
abbrev WI:=Env->(List D->List D->Env->Prop)->Prop
def AI (X:Cx) (T:Tg) (m:Bool) (i p:Nat) (es:List Expr) (w:WI):Prop :=
 ∃ta,PA X es ta/\∀(z:Nat->V) (R:Addr->Prop) (σ:St) (H:Hp) (W:Addr->Prop) (ρ:Env) (Q:List D->List D->Env->Prop) (Q':List V->Hp->Prop),SR X.K T z R H W σ ρ->w ρ Q ->
  (∀v xs ys H' W' pre post ρ',PostT X.K T z R m H W σ ρ H' W' ρ'->σ[i]? = some (some v)->Reps X.K H' pre xs []->Reps X.K H' post ys []->pre.length=p->Q pre post ρ'->Q' (xs++v::ys) H')->ta σ H Q'
def Yx (i:Nat) (wr:WA):WI:=λρ Q=>(look ρ i).isSome=true/\wr ρ λds ρ'=>Qi ds=true/\Q [] ds ρ'
theorem J2 (hr:AV X T m o es wr) (hN:X.N[i]? = some x:=by rfl) (hv:Vis X.env.scope x:=by first | exact Or.inl rfl | exact Or.inr (Or.inl rfl) | exact Or.inr (Or.inr rfl)) (hd:(x == ("__debug__" : Str))=false:=by decide)
  (hcd:(x == ("__classdict__" : Str))=false:=by decide) (hs:starEach (.Name x p::es) X.env=(false,eval (.Name x p) X.env)::starEach es X.env:=by rfl):AI X T m i 0 (.Name x p::es) (Yx i wr):=by
 obtain ⟨ta,pa,ga⟩:=hr
 refine ⟨_,Um (Xx hN hv hd hcd) pa hs,λz R σ H W ρ Q Q' s hw k=>?_⟩
 obtain ⟨h1,hw⟩:=hw
 obtain ⟨d,hl⟩:=Option.isSome_iff_exists.mp h1
 obtain ⟨fp,s0⟩:=id s
 obtain ⟨v,hv',_⟩:=s0.at_ i d hl
 refine ⟨v,hv',ga z R σ H W ρ _ _ s hw λvs H1 W1 ds ρ1 F p q=>?_⟩
 exact k v [] vs H1 W1 [] ds ρ1 ⟨p.sr,p.fr,p.calm⟩ hv' .nil (p.rep.pure q.1).2 rfl q.2
def Qzg (w:WE) (wi:WI):WI:=λρ Q=>w ρ λd ρ1=>d.pure=true/\wi ρ1 λpre post ρ2=>Q (d::pre) post ρ2
def Jr (i:Nat) (g:GI) (wi:WI):WE:=λρ Q=>wi ρ λpre post ρ1=>oget (look ρ1 i) λd0=>Zw d0=true/\g (pre++d0::post) λd d'=>Q d (ρ1.set i (some d'))
theorem Qoe {q:Nat} {g:GI} {wi:WI} (F:FnOk X.prog X.w X.K X.mg X.base CX0 k f fd ps (spI X.K q g)) (hr:Room k X.A) (hm:X.mg x=some (.ref f)) (hk:keepIn X.K (.ref f)=true) (hb:Xm X.K fd ps []) (ha:AI X T m i q (e::es) wi)
  (ht:T.own i=true:=by rfl) (hg:Gl X x:=by rfl)
  (hdb:(x == ("__debug__" : Str))=false:=by decide) (he:starEach (e::es) X.env=(false,eval e X.env)::starEach es X.env:=by rfl) (hpl:(backTo pos (starEach es X.env)).any (·.1)=false:=by rfl) :
  EV X T true true (.Call (.Name x p) (e::es) [] pos) (Jr i g wi):=by
 obtain ⟨ta,pa,ga⟩:=ha
 refine ⟨_,Qf3 F hr hg hm hk hb .nil Qsh pa hdb he hpl,λz R σ H W ρ Q Q' s hw k=>?_⟩
 refine ga z R σ H W ρ _ _ s hw λv xs ys H1 W1 pre post ρ1 p hv rp rq hl q=>?_
 obtain ⟨d0,hd,hf,q⟩:=Qt q
 obtain ⟨fp,s1⟩:=id p.sr
 obtain ⟨v',hv',r0⟩:=s1.at_ i d0 hd
 have:v'=v:=by rw [hv] at hv';cases hv';rfl
 subst this
 obtain ⟨a,rfl,hF⟩:=r0.flat1 hf
 rw [hF] at r0
 have sw:=(s1.own i d0 hd ht).2
 have hWa:W1 a:=sw a (by rw [hF];exact List.mem_singleton.mpr rfl)
 refine ⟨pre++d0::post,a,_,?_,?_,q,λv H' d d' F' rd' rd nd new kp hk=>?_⟩
 ·rw [List.append_nil]
  have:=rp.append (.cons r0 rq)
  simpa using this
 ·rw [List.append_nil]
  have hx:=rp.length
  rw [List.getElem?_append_right (by omega),show _-xs.length=0 by omega]
  rfl
 ·obtain ⟨oa,ea,ia⟩:=s1.wd a hWa
  have hnew:∃ob,H' a=some ob/\imm ob=false:=rd'.dom a (List.mem_singleton.mpr rfl)
  have nd1:([a]:List Addr).Nodup:=by simp
  have sN:=s1.write (H':=H') (d':=d') (F':=[a]) hd ht hv' (by rw [hF];exact List.mem_singleton.mpr rfl) (λb u e n=>kp b u e n) hnew rd' nd1 (λb hb=>.inl (by rw [hF];exact hb))
  have fN:=p.fr.write (H':=H') (F':=[a]) hWa ⟨oa,ea,ia⟩ (λb u e n=>kp b u e n) hnew (λb hb=>.inl (by rw [List.mem_singleton.mp hb];exact hWa))
  refine k v H' _ d _ F' ⟨sN,fN,(λh=>nomatch h),rd,λ_=>⟨nd,λb hb=>⟨p.fr.dom b (new b hb),λhw=>?_⟩⟩⟩ hk
  rcases hw with hw | hw
  ·exact p.sr.nw (new b hb) hw
  ·rw [List.mem_singleton.mp hw] at hb
   rw [new a hb] at ea;cases ea
abbrev WL:=Env->(List D->Env->Prop)->Prop
def JD (K:Frag) (J:It) (H:Hp) (W:Addr->Prop) (ds:List D):Prop :=
 ∀(i:Nat) (H1:Hp) (W1:Addr->Prop),FrW H W H1 W1->(ds.length<=i->J.stop i H1)/\∀d,ds[i]? = some d->J.go i H1/\∀v H2,J.yld i H1 v H2->Same H1 H2/\∃F,Rep K H2 d v F/\∀a∈F,¬W1 a
def wz (pr:Bool) (W:Addr->Prop):Addr->Prop:=λa=>pr=true/\W a
def IV (X:Cx) (T:Tg) (m pr:Bool) (tg iter:Expr) (w:WL):Prop :=
 ∃wi,PI X tg iter wi/\∀(z:Nat->V) (R:Addr->Prop) (σ:St) (H:Hp) (W:Addr->Prop) (ρ:Env) (Q:List D->Env->Prop) (RR:It->Hp->Prop),SR X.K T z R H W σ ρ->w ρ Q ->
  (∀J H' W' ds ρ',PostT X.K T z R m H W σ ρ H' W' ρ'->JD X.K J H' (wz pr W') ds->Q ds ρ'->RR J H')->wi σ H RR
end
section
variable {k:Nat}
theorem Qpi {l:Expr} {tl:TE} (hl:PE X l tl):PI X tg l (λσ H R=>tl σ H λx H1=>∃a,x=.ref a/\(((∃xs,SqL X.K H1 a xs)/\R (Itl X.K a) H1)\/((∃xs,SqT X.K H1 a xs)/\R (Itt X.K a) H1))):=by
 intro pins s σ H R I h
 refine thn (hl pins s σ H _ I h) λv s1 ⟨x,H1,I1,r1,q1⟩=>?_
 obtain ⟨a,e,q⟩:=q1
 subst e
 cases r1
 rcases q with ⟨⟨xs,hq⟩,q⟩ | ⟨⟨xs,hq⟩,q⟩
 ·obtain ⟨its,rv,p,hz⟩:=I1.list hq
  refine wpAny_pyIter_list p.isList ?_
  refine ⟨s1.heap.objs.size,[s1.heap.objs.size],_,_,H1,rfl,I1.kept (t':=s1.toks) λb o e=>Heap.get?_push_of_some _ e,Qi8 a _,⟨_,Heap.get?_push_size _ rfl,rfl,rfl⟩,λb hb=>?_,q⟩
  have e:b=s1.heap.objs.size:=by simpa using hb
  subst e
  exact I1.fpOk (Nat.le_refl _) (I1.hok.fresh (Nat.le_refl _))
 ·obtain ⟨its,rv,p,hz⟩:=I1.tuple hq
  refine wpAny_pyIter_tuple (show s1.heap.IsTuple a its.toArray from p) ?_
  refine ⟨s1.heap.objs.size,[s1.heap.objs.size],_,_,H1,rfl,I1.kept (t':=s1.toks) λb o e=>Heap.get?_push_of_some _ e,Qhz a _,⟨_,Heap.get?_push_size _ rfl,rfl,rfl⟩,λb hb=>?_,q⟩
  have e:b=s1.heap.objs.size:=by simpa using hb
  subst e
  exact I1.fpOk (Nat.le_refl _) (I1.hok.fresh (Nat.le_refl _))
def Qi2 (w:WE):WL:=λρ Q=>w ρ λd ρ'=>match d with
 | .tup ds=>Qi ds=true/\Q ds ρ'
 | .lst ds=>Q ds ρ'
 | .kc (.tup ks)=>Q (ks.map kcD) ρ'
 | _=>False
theorem Q1j {W:Addr->Prop} {a:Addr} (hs:∀H,SqT K H a xs) (ar:AreKC K ks xs):JD K (Itt K a) H W (ks.map kcD):=by
 intro i H2 W2 f
 have r:Reps K H2 (ks.map kcD) xs []:=ar.reps
 refine ⟨λhi=>⟨xs,hs H2,by rw [r.length];exact hi⟩,λd hd=>?_⟩
 obtain ⟨x,B,hx,rx,sx⟩:=r.get hd
 refine ⟨⟨xs,x,hs H2,hx⟩,λv H3 y=>?_⟩
 obtain ⟨rfl,y⟩:=y
 have:=y xs (hs _)
 rw [hx] at this
 cases this
 exact ⟨Same.refl _,B,rx,λa ha=>nomatch sx.subset ha⟩
theorem Qkw (h:EV X T m o e w):IV X T m o tg e (Qi2 w):=by
 obtain ⟨te,pe,ge⟩:=h
 refine ⟨_,Qpi pe,λz R σ H W ρ Q RR s hw k=>?_⟩
 refine ge z R σ H W ρ _ _ s hw λv H1 W1 d ρ1 F p q=>?_
 cases d with
 | tup ds =>
  obtain ⟨hp,q⟩:=q
  obtain ⟨hF,rp⟩:=p.rep.pure (by simpa [D.pure] using hp)
  cases rp with
  | @tup a xs _ _ e1 r =>
   refine ⟨a,rfl,.inr ⟨⟨xs,.of e1⟩,k _ H1 W1 ds ρ1 ⟨p.sr,p.fr,p.calm⟩ (λi H2 W2 f=>?_) q⟩⟩
   have e2:H2 a=some (.tup xs):=f.imm _ _ e1 rfl
   refine ⟨λhi=>⟨xs,.of e2,by rw [r.length];exact hi⟩,λd hd=>?_⟩
   obtain ⟨x,B,hx,rx,sx⟩:=r.get hd
   refine ⟨⟨xs,x,.of e2,hx⟩,λv H3 y=>?_⟩
   obtain ⟨rfl,y⟩:=y
   have:=y xs (.of e2)
   rw [hx] at this
   cases this
   exact ⟨Same.refl _,B,rx.keep f (λa ha=>(nomatch sx.subset ha)),(λa ha=>(nomatch sx.subset ha))⟩
 | lst ds =>
  obtain ⟨p1,p2,p3,p4,p5⟩:=p
  cases p4 with
  | @lst a xs _ F e1 r =>
   refine ⟨a,rfl,.inl ⟨⟨xs,.of e1⟩,k _ H1 W1 ds ρ1 ⟨p1,p2,p3⟩ (λi H2 W2 f=>?_) q⟩⟩
   have nW:∀b∈a::F,¬wz o W1 b:=λb hb hw=>by
    obtain ⟨h1,h2⟩:=hw
    exact ((p5 h1).2 b hb).2 h2
   have e2:H2 a=some (.lst xs):=f.keep _ _ e1 (nW a List.mem_cons_self)
   refine ⟨λhi=>⟨xs,.of e2,by rw [r.length];exact hi⟩,λd hd=>?_⟩
   obtain ⟨x,B,hx,rx,sx⟩:=r.get hd
   refine ⟨⟨xs,x,.of e2,hx⟩,λv H3 y=>?_⟩
   obtain ⟨rfl,y⟩:=y
   have:=y xs (.of e2)
   rw [hx] at this
   cases this
   refine ⟨Same.refl _,B,rx.keep f λb hb=>nW b (List.mem_cons_of_mem _ (sx.subset hb)),λb hb hw=>?_⟩
   have hb':b∈a::F:=List.mem_cons_of_mem _ (sx.subset hb)
   rcases f.new b hw with h | h
   ·exact nW b hb' h
   ·obtain ⟨ob,e3,_⟩:=rx.dom b hb
    rw [h] at e3;cases e3
 | kc c =>
  cases c with
  | tup ks =>
   obtain ⟨-,rp⟩:=p.rep.pure (by rw [D.pure])
   cases rp with
   | kc h =>
    obtain ⟨a,xs,rfl,hs,ar⟩:=h.sqT
    exact ⟨a,rfl,.inr ⟨⟨xs,hs H1⟩,k _ H1 W1 (ks.map kcD) ρ1 ⟨p.sr,p.fr,p.calm⟩ (Q1j hs ar) q⟩⟩
  | _=>exact (show False from q).elim
 | _=>exact q.elim
def Qqf (w:WE):WL:=λρ Q=>w ρ λd ρ'=>match d with
 | .kls ds=>Q ds ρ'
 | _=>False
theorem Qx7 (h:EV X T m o e w):IV X T m true tg e (Qqf w):=by
 obtain ⟨te,pe,ge⟩:=h
 refine ⟨_,Qpi pe,λz R σ H W ρ Q RR s hw k=>?_⟩
 refine ge z R σ H W ρ _ _ s hw λv H1 W1 d ρ1 F p q=>?_
 cases d with
 | kls ds =>
  obtain ⟨p1,p2,p3,p4,p5⟩:=p
  cases p4 with
  | @kls a xs _ e1 r =>
   refine ⟨a,rfl,.inl ⟨⟨xs,e1.sq⟩,k _ H1 W1 ds ρ1 ⟨p1,p2,p3⟩ (λi H2 W2 f=>?_) q⟩⟩
   have e2:=f.imm.fzL e1
   refine ⟨λhi=>⟨xs,e2.sq,by rw [r.length];exact hi⟩,λd hd=>?_⟩
   obtain ⟨x,B,hx,rx,sx⟩:=r.get hd
   refine ⟨⟨xs,x,e2.sq,hx⟩,λv H3 y=>?_⟩
   obtain ⟨rfl,y⟩:=y
   have:=y xs e2.sq
   rw [hx] at this
   cases this
   exact ⟨Same.refl _,B,rx.keep f (λa ha=>(nomatch sx.subset ha)),(λa ha=>(nomatch sx.subset ha))⟩
 | _=>exact q.elim
def rngD (lo:Int) (n:Nat):List D:=(List.range n).map λ(i:Nat)=>.int (lo+(i:Int))
theorem Qn3 {W:Addr->Prop} {lo:Int}:JD K (Itr lo n) H W (rngD lo n):=by
 intro i H1 W1 f
 have hl:(rngD lo n).length=n:=by simp [rngD]
 refine ⟨λh=>by rw [hl] at h;exact h,λd hd=>?_⟩
 have hi:i<n:=by have:=(List.getElem?_eq_some_iff.mp hd).1;rwa [hl] at this
 have hd':d=.int (lo+(i:Int)):=by
  simp only [rngD,List.getElem?_map,List.getElem?_range hi,Option.map_some,Option.some.injEq] at hd
  exact hd.symm
 refine ⟨hi,λv H2 y=>?_⟩
 obtain ⟨rfl,rfl⟩:=y
 exact ⟨Same.refl _,[],by rw [hd'];exact .int _,λa m=>nomatch m⟩
def Qfo (wr:WA):WL:=λρ Q=>wr ρ λds ρ'=>match ds with
 | [.int j]=>-(2 ^ 62)<=j/\j<2 ^ 62/\Q (rngD 0 j.toNat) ρ'
 | _=>False
theorem Gn (hm:X.mg "range" = none) (ha:AV X T m o [a] wr) (hg:Gl X "range":=by rfl) (hs:starEach [a] X.env=[(false,eval a X.env)]:=by rfl):IV X T m true tg (.Call (.Name "range" p) [a] [] pos) (Qfo wr):=by
 obtain ⟨ta,pa,ga⟩:=ha
 refine ⟨_,Qj5 hg hm pa hs,λz R σ H W ρ Q RR s hw k=>?_⟩
 refine ga z R σ H W ρ _ _ s hw λvs H1 W1 ds ρ1 F p q=>?_
 obtain ⟨j,rfl⟩:∃j,ds=[D.int j]:=by
  clear p
  cases ds with
  | nil=>exact (show False from q).elim
  | cons d0 r0 =>
   cases r0 with
   | nil =>
    cases d0 with
    | int j=>exact ⟨j,rfl⟩
    | _=>exact (show False from q).elim
   | cons _ _=>cases d0 <;> exact (show False from q).elim
 obtain ⟨v,rfl,rd⟩:=p.rep.at1
 cases rd
 exact ⟨j,rfl,q.1,q.2.1,k _ H1 W1 _ ρ1 ⟨p.sr,p.fr,p.calm⟩ Qn3 q.2.2⟩
def Qzk (wr:WA):WL:=λρ Q=>wr ρ λds ρ'=>match ds with
 | [.int i,.int j]=>(-(2 ^ 62)<=i/\i<2 ^ 62 /\ -(2 ^ 62)<=j/\j<2 ^ 62)/\Q (rngD i (j-i).toNat) ρ'
 | _=>False
def Qgk:Nat->List D->List D
 | _,[]=>[]
 | n,d::r=>.tup [.int (n:Int),d]::Qgk (n+1) r
def Qzu (wr:WA):WL:=λρ Q=>wr ρ λds ρ'=>match ds with
 | [.tup es]=>Qi es=true/\Q (Qgk 0 es) ρ'
 | _=>False
end
structure EndsP where
 nx:Env->Prop
 rt:D->Env->Prop
 bk:Env->Prop:=λ_=>False
 ct:Env->Prop:=λ_=>False
 xc:D->Env->Prop:=λ_ _=>False
abbrev WS:=EndsP->Env->Prop
structure Lk (K:Frag) (T:Tg) (z:Nat->V) (H:Hp) (W:Addr->Prop) (P:EndsP) (E:Ends):Prop where
 nx:∀R σ' H' W' ρ',SR K T z R H' W' σ' ρ'->FrW H W H' W'->P.nx ρ'->E.nx σ' H'
 bk:∀R σ' H' W' ρ',SR K T z R H' W' σ' ρ'->FrW H W H' W'->P.bk ρ'->E.bk σ' H'
 ct:∀R σ' H' W' ρ',SR K T z R H' W' σ' ρ'->FrW H W H' W'->P.ct ρ'->E.ct σ' H'
 rt:∀R v σ' H' W' ρ' d F,SR K T z R H' W' σ' ρ'->FrW H W H' W'->Rep K H' d v F->F.Nodup->(∀a∈F,¬W' a/\(W a\/H a=none))->P.rt d ρ'->E.rt v H'
 xc:∀R σ' H' W' ρ' d,SR K T z R H' W' σ' ρ'->FrW H W H' W'->P.xc d ρ'->T.xe d σ' H'
theorem Lk.step {W:Addr->Prop} {P:EndsP} {E:Ends} (l:Lk K T z H W P E) (f:FrW H W H1 W1):Lk K T z H1 W1 P E where
 nx:=λR σ' H' W' ρ' s g q=>l.nx R σ' H' W' ρ' s (f.trans g) q
 bk:=λR σ' H' W' ρ' s g q=>l.bk R σ' H' W' ρ' s (f.trans g) q
 ct:=λR σ' H' W' ρ' s g q=>l.ct R σ' H' W' ρ' s (f.trans g) q
 rt:=λR v σ' H' W' ρ' d F s g r nd k q=>l.rt R v σ' H' W' ρ' d F s (f.trans g) r nd (λa ha=>⟨(k a ha).1,by
  rcases (k a ha).2 with h | h
  ·exact f.new a h
  ·exact .inr (f.dom a h)⟩) q
 xc:=λR σ' H' W' ρ' d s g q=>l.xc R σ' H' W' ρ' d s (f.trans g) q
def SV (X:Cx) (T:Tg) (st:Stmt) (w:WS):Prop :=
 ∃ts,PS X st ts/\∀(z:Nat->V) (R:Addr->Prop) (σ:St) (H:Hp) (W:Addr->Prop) (ρ:Env) (P:EndsP) (E:Ends),SR X.K T z R H W σ ρ->w P ρ->Lk X.K T z H W P E->ts E σ H
def SVs (X:Cx) (T:Tg) (st:List Stmt) (w:WS):Prop :=
 ∃ts,PSs X st ts/\∀(z:Nat->V) (R:Addr->Prop) (σ:St) (H:Hp) (W:Addr->Prop) (ρ:Env) (P:EndsP) (E:Ends),SR X.K T z R H W σ ρ->w P ρ->Lk X.K T z H W P E->ts E σ H
section
variable {o2:Bool} {rest:List Stmt} {ws wu:WS}
def Qx:WS:=λP ρ=>P.nx ρ
def wSeq (w u:WS):WS:=λP ρ=>w { P with nx:=u P } ρ
theorem Qv:SVs X T [] Qx:=⟨_,Qr5,λz R σ H W ρ P E s hw l=>l.nx R σ H W ρ s (FrW.refl H W) hw⟩
theorem Qh (h:SV X T st ws):SVs X T [st] ws:=by
 obtain ⟨t,pt,g⟩:=h
 exact ⟨_,Qj0 pt,g⟩
theorem Qf (h:SV X T st ws) (hr:SVs X T rest wu):SVs X T (st::rest) (wSeq ws wu):=by
 obtain ⟨t,pt,g⟩:=h
 obtain ⟨u,pu,gu⟩:=hr
 refine ⟨_,Qg9 pt pu,λz R σ H W ρ P E s hw l=>g z R σ H W ρ _ _ s hw ⟨λR' σ' H' W' ρ' s' f q=>gu z R' σ' H' W' ρ' P E s' q (l.step f),l.bk,l.ct,l.rt,l.xc⟩⟩
def Qbv (w:WE):WS:=λP ρ=>w ρ λ_ ρ'=>P.nx ρ'
theorem Qfw (he:EV X T m o e w) (hs:swapsWith e none pos.line X.env=pure false:=by rfl):SV X T (.Expr e pos) (Qbv w):=by
 obtain ⟨te,pe,ge⟩:=he
 exact ⟨_,Qr8 pe hs,λz R σ H W ρ P E s hw l=>ge z R σ H W ρ _ _ s hw λv H1 W1 d ρ1 F p q=>l.nx R σ H1 W1 ρ1 p.sr p.fr q⟩
def wRet (w:WE):WS:=λP ρ=>w ρ λd ρ'=>P.rt d ρ'
theorem Qu (he:EV X T m true e w):SV X T (.Return (some e) pos) (wRet w):=by
 obtain ⟨te,pe,ge⟩:=he
 exact ⟨_,Qph pe,λz R σ H W ρ P E s hw l=>ge z R σ H W ρ _ _ s hw λv H1 W1 d ρ1 F p q=>l.rt R v σ H1 W1 ρ1 d F p.sr p.fr p.rep (p.own rfl).1 (λa ha=>⟨((p.own rfl).2 a ha).2,.inr ((p.own rfl).2 a ha).1⟩) q⟩
def Qzm (i:Nat):WS:=λP ρ=>oget (look ρ i) λd=>P.rt d (ρ.set i none)
theorem SR0.bindE {W:Addr->Prop} (s:SR0 K T z R H W σ ρ fp) (hio:i∉T.io) (r:Rep K H d v F) (nd:F.Nodup) (nw:∀a∈F,¬W a/\¬R a) :
  SR K T z (λa=>R a\/(T.own i=false/\a∈F)) H (λa=>W a\/(T.own i=true/\a∈F)) (σ.set i (some v)) (ρ.set i (some d)):=by
 refine ⟨λj=>if j=i then F else fp j,?_,?_,?_,?_,?_,?_,?_,?_,?_⟩
 ·rw [List.length_set,List.length_set];exact s.len
 ·intro a ha
  rcases ha with ha | ⟨_,ha⟩
  ·exact s.wd a ha
  ·exact r.dom a ha
 ·intro j e hj
  rw [Gm] at hj
  split at hj
  ·rename_i h
   obtain ⟨rfl,hlt⟩:=h
   cases hj
   exact ⟨v,by rw [List.getElem?_set_self (by rw [← s.len];exact hlt)],by rw [if_pos rfl];exact r⟩
  ·rename_i h
   obtain ⟨u,h1,h2⟩:=s.at_ j e hj
   have hji:j≠i:=λz=>h ⟨z,by rw [← z];exact Qge hj⟩
   exact ⟨u,by rw [List.getElem?_set_ne (Ne.symm hji)];exact h1,by rw [if_neg hji];exact h2⟩
 ·intro j e hj hto
  by_cases hji:j=i
  ·subst hji;simp only [if_pos];exact ⟨nd,λa h=>.inr ⟨hto,h⟩⟩
  ·rw [Jq hji] at hj
   simp only [if_neg hji]
   exact ⟨(s.own j e hj hto).1,λa h=>.inl ((s.own j e hj hto).2 a h)⟩
 ·intro j e hj hto
  by_cases hji:j=i
  ·subst hji;simp only [if_pos];exact λa h=>.inr ⟨hto,h⟩
  ·rw [Jq hji] at hj
   simp only [if_neg hji]
   exact λa h=>.inl (s.ro j e hj hto a h)
 ·intro a ha hr
  rcases ha with ha | ⟨t,ha⟩
  ·rcases hr with hr | ⟨_,hr⟩
   ·exact s.wr a ha hr
   ·exact (nw a hr).1 ha
  ·rcases hr with hr | ⟨t',hr⟩
   ·exact (nw a ha).2 hr
   ·rw [t] at t';cases t'
 ·intro a hr
  rcases hr with hr | ⟨_,hr⟩
  ·exact s.rd a hr
  ·exact r.dom a hr
 ·intro j k e e' hj hk tj tk hne a ha ha'
  by_cases hji:j=i
  ·subst hji
   have hkj:k≠j:=λz=>hne z.symm
   rw [Jq hkj] at hk
   simp only [if_pos,if_neg hkj] at ha ha'
   exact (nw a ha).1 ((s.own k e' hk tk).2 a ha')
  ·rw [Jq hji] at hj
   simp only [if_neg hji] at ha
   by_cases hki:k=i
   ·subst hki
    simp only [if_pos] at ha'
    exact (nw a ha').1 ((s.own j e hj tj).2 a ha)
   ·rw [Jq hki] at hk
    simp only [if_neg hki] at ha'
    exact s.dis j k e e' hj hk tj tk hne a ha ha'
 ·intro j hj
  have hji:j≠i:=λz=>hio (z ▸ hj)
  rw [List.getElem?_set_ne (Ne.symm hji)]
  exact s.fix j hj
theorem SR0.bind {W:Addr->Prop} (s:SR0 K T z R H W σ ρ fp) (hio:i∉T.io) (r:Rep K H d v F) (nd:F.Nodup) (nw:∀a∈F,¬W a/\¬R a) :
  ∃R',SR K T z R' H (λa=>W a\/(T.own i=true/\a∈F)) (σ.set i (some v)) (ρ.set i (some d)):=⟨_,s.bindE hio r nd nw⟩
def wSet (i:Nat) (w:WE):WS:=λP ρ=>w ρ λd ρ'=>P.nx (ρ'.set i (some d))
theorem Qah {W:Addr->Prop} {G:Addr->Prop} (f:FrW H W H' W') (n:∀a,G a->H a=none):FrW H W H' (λa=>W' a\/G a) :=
 ⟨f.keep,f.dom,f.imm,λb h=>h.elim (f.new b) λh=>.inr (n b h)⟩
theorem Q1 (he:EV X T m true e w) (hN:X.N.Nodup) (hi:X.N[i]? = some x:=by rfl) (hio:i∉T.io:=by decide) (hx:Loc X.env.scope x:=by first | exact Or.inl rfl | exact Or.inr rfl) (hs:swapsWith e (some (.Name x pos')) pos.line X.env=pure false:=by rfl)
  (hf:X.fn x=true\/X.env.scope.names.lookup x=some .local:=by first | exact .inl rfl | exact .inr rfl | assumption):SV X T (.Assign [.Name x pos'] e pos) (wSet i w):=by
 obtain ⟨te,pe,ge⟩:=he
 refine ⟨_,Qpg hN hi hx pe hs hf,λz R σ H W ρ P E s hw l=>ge z R σ H W ρ _ _ s hw λv H1 W1 d ρ1 F p q=>?_⟩
 obtain ⟨fp,s1⟩:=p.sr
 obtain ⟨nd,nw⟩:=p.own rfl
 obtain ⟨R',s2⟩:=s1.bind (i:=i) hio p.rep nd (λa ha=>⟨(nw a ha).2,s.nr (nw a ha).1⟩)
 exact l.nx R' _ H1 _ _ s2 (Qah p.fr λa h=>(nw a h.2).1) q
abbrev WG:=D->Env->(Env->Prop)->Prop
def GV (X:Cx) (T:Tg) (tg:Expr) (wg:WG):Prop :=
 ∃t,PG X tg t/\∀(z:Nat->V) (R:Addr->Prop) (σ:St) (H:Hp) (W:Addr->Prop) (ρ:Env) (d:D) (v:V) (Q:Env->Prop) (Q':St->Hp->Prop),SR X.K T z R H W σ ρ->Rep X.K H d v []->d.pure=true->wg d ρ Q ->
  (∀R' W' σ' ρ',SR X.K T z R' H W' σ' ρ'->FrW H W H W'->Q ρ'->Q' σ' H)->t v σ H Q'
def gN (i:Nat):WG:=λd ρ Q=>Q (ρ.set i (some d))
theorem V1 (hN:X.N.Nodup) (hi:X.N[i]? = some x:=by rfl) (hio:i∉T.io:=by decide) (hx:Loc X.env.scope x:=by first | exact Or.inl rfl | exact Or.inr rfl) (hf:X.fn x=true\/X.env.scope.names.lookup x=some .local:=by first | exact .inl rfl | exact .inr rfl | assumption):GV X T (.Name x pos) (gN i):=by
 refine ⟨_,Qdd hN hi hx hf,λz R σ H W ρ d v Q Q' s r hp hw k=>?_⟩
 obtain ⟨fp,s1⟩:=s
 obtain ⟨R',s2⟩:=s1.bind (i:=i) hio r List.nodup_nil (λa ha=>nomatch ha)
 exact k R' _ _ _ s2 (Qah (FrW.refl H W) λa h=>nomatch h.2) hw
def Q1t:List D->Env->(Env->Prop)->Prop
 | [],ρ,Q=>Q ρ
 | _,_,_=>False
def Qyf (wg:WG) (wgs:List D->Env->(Env->Prop)->Prop):List D->Env->(Env->Prop)->Prop
 | d::r,ρ,Q=>wg d ρ λρ'=>wgs r ρ' Q
 | _,_,_=>False
def Q1r (n:Nat) (wgs:List D->Env->(Env->Prop)->Prop):WG:=λd ρ Q=>match d with
 | .tup ds=>ds.length=n/\wgs ds ρ Q
 | _=>False
def wAsg (w:WE) (wg:WG):WS:=λP ρ=>w ρ λd ρ'=>d.pure=true/\wg d ρ' P.nx
def dSet (s c d:D) (k:D->Prop):Prop:=match s with
 | .lst xs=>onI c λj=>oget (ixN xs.length j) λn=>k (.lst (xs.set n d))
 | .dik kvs=>onK c λkey=>kvs.length<sizeLine/\k (.dik (putD kvs key d))
 | .dit kvs=>onT c λl=>kvs.length<sizeLine/\oget (Zb l) λks=>k (.dit (putD kvs ks d))
 | _=>False
theorem Qm0 (hu:X.A.units+1<cLine):PSet X (λo i v H Q=>∃a H',o=.ref a/\DPut H a i v H'/\Q H'):=by
 intro pins s σ H o i v ov iv u Q I ro ri rv h
 obtain ⟨a,H',rfl,g,q⟩:=h
 cases ro
 exact Qlw hu I g ri rv λs' I'=>⟨H',I',q⟩
theorem PSet.or {t u:TSet} (h:PSet X t) (h':PSet X u):PSet X (λo i v H Q=>t o i v H Q\/u o i v H Q):=by
 intro pins s σ H o i v ov iv u Q I ro ri rv q
 rcases q with q | q
 ·exact h pins s σ H o i v ov iv u Q I ro ri rv q
 ·exact h' pins s σ H o i v ov iv u Q I ro ri rv q
def Xr (i:Nat) (wv wi:WE):WS:=λP ρ=>wv ρ λd ρ1=>d.pure=true/\(look ρ1 i).isSome=true/\wi ρ1 λc ρ2=>oget (look ρ2 i) λs=>dSet s c d λs'=>P.nx (ρ2.set i (some s'))
theorem Qc0 {v ix:Expr} {wv wi:WE} {ps':Pos} (hu:X.A.units+1<cLine) (hv:EV X T m1 o1 v wv) (hi:EV X T m2 o2 ix wi) (ht:T.own i=true:=by rfl) (hN:X.N[i]? = some x:=by rfl)
  (hvis:Vis X.env.scope x:=by first | exact Or.inl rfl | exact Or.inr (Or.inl rfl) | exact Or.inr (Or.inr rfl)) (hd:(x == ("__debug__" : Str))=false:=by decide) (hcd:(x == ("__classdict__" : Str))=false:=by decide)
  (ha:∀v,assign (.Subscript (.Name x px) ix ps') X.env v=(do
   let ov ← holding [v] (eval (.Name x px) X.env)
   let iv ← holding [v,ov] (eval ix X.env)
   standAt ps'
   holding [v,ov,iv] (setItem ov iv v)
   release [v,ov,iv] []):=by intro _;rfl) (hs:swapsWithSole [.Subscript (.Name x px) ix ps'] v pos.line X.env=pure false:=by rfl) (hw:swappedStores [.Subscript (.Name x px) ix ps'] v X.env=pure none:=by rfl)
  (h1:(assignEach [.Subscript (.Name x px) ix ps'] X.env).map (·.2)=[assign (.Subscript (.Name x px) ix ps') X.env]:=by rfl):SV X T (.Assign [.Subscript (.Name x px) ix ps'] v pos) (Xr i wv wi):=by
 obtain ⟨tv,pv,gv⟩:=hv
 obtain ⟨ti,pi,gi⟩:=hi
 refine ⟨_,Qwo pv (Qwt (Xx hN hvis hd hcd) pi (PSet.or Qmz (Qm0 hu)) ha) hs hw h1,λz R σ H W ρ P E s hw l=>?_⟩
 refine gv z R σ H W ρ _ _ s hw λv1 H1 W1 d ρ1 F1 p ⟨hp,hso,q⟩=>?_
 obtain ⟨-,rv⟩:=p.rep.pure hp
 obtain ⟨d0,hl0⟩:=Option.isSome_iff_exists.mp hso
 obtain ⟨fp0,s0⟩:=id p.sr
 obtain ⟨u,hu',_⟩:=s0.at_ i d0 hl0
 refine ⟨u,hu',gi z R σ H1 W1 ρ1 _ _ p.sr q λv2 H2 W2 c ρ2 F2 p2 q2=>?_⟩
 obtain ⟨d1,hl,q2⟩:=Qt q2
 obtain ⟨fp,s2⟩:=id p2.sr
 obtain ⟨u',hu2,ru⟩:=s2.at_ i d1 hl
 have:u'=u:=by rw [hu'] at hu2;cases hu2;rfl
 subst this
 have rv2:Rep X.K H2 d v1 []:=rv.keep p2.fr λa m=>nomatch m
 obtain ⟨nd,sw⟩:=s2.own i d1 hl ht
 have fin:∀(lad:Addr) (ob:HO) (d':D) (F':List Addr),lad∈fp i->imm ob=false->Rep X.K (upd H2 lad ob) d' u' F'->F'.Nodup->(∀a∈F',a∈fp i)->P.nx (ρ2.set i (some d'))->E.nx σ (upd H2 lad ob):=λlad ob d' F' hm him r' nd' sub hq=>by
  have hW:=sw lad hm
  exact l.nx R σ _ _ _ (s2.write hl ht hu2 hm Qab ⟨ob,Ql,him⟩ r' nd' λa ha=>.inl (sub a ha)) ((p.fr.trans p2.fr).write hW (s2.wd lad hW) Qab ⟨ob,Ql,him⟩ λa ha=>.inl (sw a (sub a ha))) hq
 have nilnot:∀a:Addr,a∉([]:List Addr):=λa h=>nomatch h
 generalize hF:fp i=F at *
 cases d1 with
 | lst ds =>
  obtain ⟨j,rfl,q2⟩:=Qa3 q2
  obtain ⟨a,xs,G,rfl,rfl,e,r⟩:=ru.iLst
  obtain ⟨n,hn,hq⟩:=Qt q2
  have rc:=p2.rep.iInt
  subst rc
  have hlt:=(Qdp hn).2.1
  obtain ⟨dn,hdn⟩:∃dn,ds[n]? = some dn:=⟨ds[n],List.getElem?_eq_getElem hlt⟩
  obtain ⟨y,A,B,C,hy,hG,rB,rA,rC⟩:=r.split hdn
  obtain ⟨na,ndG⟩:=List.nodup_cons.mp nd
  have sub:=sub3 hG
  have nAC:a∉A++C:=λh=>na (sub.subset h)
  have hxl:n<xs.length:=by rw [r.length];exact hlt
  refine .inl ⟨a,xs,j,n,rfl,rfl,e,by rw [r.length];exact hn,?_⟩
  refine fin a _ _ (a::(A++C)) List.mem_cons_self rfl (.lst Ql ?_) (List.nodup_cons.mpr ⟨nAC,ndG.sublist sub⟩) (λb hb=>?_) hq
  ·rw [U4 hlt,U4 hxl]
   have:=(rA.upd (ob':=.lst (xs.take n++v1::xs.drop (n+1))) e rfl (λh=>nAC (List.mem_append.mpr (.inl h)))).append (.cons (rv2.upd e rfl (nilnot a)) (rC.upd e rfl λh=>nAC (List.mem_append.mpr (.inr h))))
   simpa using this
  ·rcases List.mem_cons.mp hb with rfl | hb
   ·exact List.mem_cons_self
   ·exact List.mem_cons_of_mem _ (sub.subset hb)
 | dik ds =>
  obtain ⟨key,⟨hz,hq⟩,hy⟩:=Qf4 (show onK c (λkey=>ds.length<sizeLine/\P.nx (ρ2.set i (some (.dik (putD ds key d))))) from q2)
  obtain ⟨a,kvs,G,rfl,rfl,e,r⟩:=ru.iDik
  obtain rfl:=hy p2.rep
  obtain ⟨na,ndG⟩:=List.nodup_cons.mp nd
  obtain ⟨G',rp,sub⟩:=(r.upd (ob':=.dK (putK kvs key v1)) e rfl na).put (k:=key) (rv2.upd e rfl (nilnot a))
  refine .inr ⟨a,_,rfl,DPut.k (k:=key) e (by rw [r.length];exact hz),?_⟩
  refine fin a _ _ (a::G') List.mem_cons_self rfl (.dik Ql rp) (List.nodup_cons.mpr ⟨λh=>na (sub.subset h),ndG.sublist sub⟩) (λb hb=>?_) hq
  rcases List.mem_cons.mp hb with rfl | hb
  ·exact List.mem_cons_self
  ·exact List.mem_cons_of_mem _ (sub.subset hb)
 | dit ds =>
  obtain ⟨l',rfl,hz,q2⟩:=Qkb q2
  obtain ⟨a,kvs,G,rfl,rfl,e,r⟩:=ru.iDit
  obtain ⟨na,ndG⟩:=List.nodup_cons.mp nd
  obtain ⟨ks,hk,hq⟩:=Qt q2
  obtain ⟨b,ys,rfl,e2,r2⟩:=p2.rep.iTup
  have hx:=r2.keys hk
  subst hx
  obtain ⟨G',rp,sub⟩:=(r.upd (ob':=.dT (putK kvs ks v1)) e rfl na).put (k:=ks) (rv2.upd e rfl (nilnot a))
  refine .inr ⟨a,_,rfl,DPut.t (k:=ks) e e2 (by rw [r.length];exact hz),?_⟩
  refine fin a _ _ (a::G') List.mem_cons_self rfl (.dit Ql rp) (List.nodup_cons.mpr ⟨λh=>na (sub.subset h),ndG.sublist sub⟩) (λb hb=>?_) hq
  rcases List.mem_cons.mp hb with rfl | hb
  ·exact List.mem_cons_self
  ·exact List.mem_cons_of_mem _ (sub.subset hb)
 | _=>exact (show False from q2).elim
def wIf (wt:WT) (w u:WS):WS:=λP ρ=>wt ρ λb ρ'=>if b=true then w P ρ' else u P ρ'
theorem Yc {sa sb:List Stmt} (hc:TV X T m c wt) (ha:SVs X T sa ws) (hb:SVs X T sb wu):SV X T (.If c sa sb pos) (wIf wt ws wu):=by
 obtain ⟨tc,pc,gc⟩:=hc
 obtain ⟨ta,pa,ga⟩:=ha
 obtain ⟨tb,pb,gb⟩:=hb
 refine ⟨_,Q02 pc pa pb,λz R σ H W ρ P E s hw l=>gc z R σ H W ρ _ _ s hw λb H1 W1 ρ1 p q=>?_⟩
 cases b with
 | true=>exact ga z R σ H1 W1 ρ1 P E p.sr q (l.step p.fr)
 | false=>exact gb z R σ H1 W1 ρ1 P E p.sr q (l.step p.fr)
def wFor (wl:WL) (wg:WG) (wb:WS):WS:=λP ρ=>wl ρ λds ρ1=>Qi ds=true/\∃I:Nat->Env->Prop,I 0 ρ1 /\
 (∀i d ρ,ds[i]? = some d->I i ρ->wg d ρ λρ'=>wb { P with nx:=I (i+1),ct:=I (i+1),bk:=P.nx } ρ')/\∀ρ,I ds.length ρ->P.nx ρ
theorem Qix (W:Addr->Prop):wz true W=W:=by funext a;simp [wz]
theorem Xv {wl:WL} {wg:WG} (hp:PassesOwn (model X.prog X.w) X.A X.env X.xe) (hi:IV X T m true tg iter wl) (hg:GV X T tg wg) (hb:SVs X T body ws) (hc:X.calm=true:=by rfl)
  (hs:∀x,foldedSetIterable iter X.env x=pure x:=by intro _;rfl):SV X T (.For tg iter body [] pos) (wFor wl wg ws):=by
 obtain ⟨ti,pi,gi⟩:=hi
 obtain ⟨tt,pt,gt⟩:=hg
 obtain ⟨tb,pb,gb⟩:=hb
 refine ⟨_,Qwn hp hc pi pt pb hs,λz R σ H W ρ P E s hw l=>gi z R σ H W ρ _ _ s hw λJ H1 W1 ds ρ1 p jd q=>?_⟩
 rw [Qix] at jd
 obtain ⟨hpu,I,h0,hI,hd⟩:=q
 refine ⟨λi n σ' H'=>n=ds.length-i/\i<=ds.length/\∃R' W' ρ',SR X.K T z R' H' W' σ' ρ'/\FrW H1 W1 H' W'/\I i ρ',⟨ds.length,by simp,Nat.zero_le _,R,W1,ρ1,p.sr,FrW.refl _ _,h0⟩,?_⟩
 rintro i n σ2 H2 ⟨rfl,hi,R2,W2,ρ2,s2,f2,i2⟩
 obtain ⟨j1,j2⟩:=jd i H2 W2 f2
 by_cases hlt:i<ds.length
 ·have hdi:ds[i]? = some ds[i]:=List.getElem?_eq_getElem hlt
  obtain ⟨hgo,hy⟩:=j2 _ hdi
  have hpd:(ds[i]).pure=true:=Qel.mp hpu _ (List.getElem_mem hlt)
  refine .inr ⟨hgo,λσ' H'=>i+1<=ds.length/\∃R' W' ρ',SR X.K T z R' H' W' σ' ρ'/\FrW H1 W1 H' W'/\I (i+1) ρ',λσ' H' ⟨h1,h2⟩=>⟨ds.length-(i+1),by omega,rfl,h1,h2⟩,λv H3 yl=>?_⟩
  obtain ⟨sm,F,rv,_⟩:=hy v H3 yl
  obtain ⟨-,rv⟩:=rv.pure hpd
  have f3:FrW H1 W1 H3 W2:=f2.trans (FrW.same W2 sm)
  refine gt z R2 σ2 H3 W2 ρ2 _ v _ _ (s2.same sm) rv hpd (hI i _ ρ2 hdi i2) λR4 W4 σ4 ρ4 s4 f4 q4=>?_
  refine gb z R4 σ4 H3 W4 ρ4 _ _ s4 q4 ⟨?_,?_,?_,?_,?_⟩
  ·exact λR' σ' H' W' ρ' s' f' h=>⟨hlt,R',W',ρ',s',(f3.trans f4).trans f',h⟩
  ·exact λR' σ' H' W' ρ' s' f' h=>l.nx R' σ' H' W' ρ' s' (((p.fr.trans f3).trans f4).trans f') h
  ·exact λR' σ' H' W' ρ' s' f' h=>⟨hlt,R',W',ρ',s',(f3.trans f4).trans f',h⟩
  ·exact (((l.step p.fr).step f3).step f4).rt
  ·exact (((l.step p.fr).step f3).step f4).xc
 ·have e:i=ds.length:=by omega
  subst e
  exact .inl ⟨j1 (Nat.le_refl _),l.nx R2 σ2 H2 W2 ρ2 s2 (p.fr.trans f2) (hd ρ2 i2)⟩
end
end PV
variable {g:PV.GI} {wl:PV.WL} {pr:Bool} {we:PV.WE} {ww:PV.WS}
namespace PV
open PySem PySem.Spec L2
open PyProof.Rows (envOfC)
def TR:Tg:={ own:=λ_=>false,io:=[] }
def Any (H:Hp):Addr->Prop:=λa=>∃ob,H a=some ob/\imm ob=false
theorem SR.readonly (hio:T.io=[]) (hlen:ρ.length=σ.length) (h:∀i d,look ρ i=some d->T.own i=false/\∃v F,σ[i]? = some (some v)/\Rep K H d v F) :
  SR K T z (Any H) H (λ_=>False) σ ρ:=by
 have ch:∀i,∃F,∀d,look ρ i=some d->∃v,σ[i]? = some (some v)/\Rep K H d v F:=λi=>by
  cases hl:look ρ i with
  | none=>exact ⟨[],λd e=>nomatch e⟩
  | some d =>
   obtain ⟨_,v,F,h1,h2⟩:=h i d hl
   exact ⟨F,λd' e=>by cases e;exact ⟨v,h1,h2⟩⟩
 refine ⟨λi=>Classical.choose (ch i),hlen,λa h=>h.elim,λi d hl=>Classical.choose_spec (ch i) d hl,λi d hl ht=>?_,λi d hl ht a ha=>?_,λa h=>h.elim,λa h=>h,λi j d e hl hl' ht=>?_,λi hi=>?_⟩
 ·rw [(h i d hl).1] at ht;cases ht
 ·obtain ⟨v,_,r⟩:=Classical.choose_spec (ch i) d hl
  exact r.dom a ha
 ·rw [(h i d hl).1] at ht;cases ht
 ·rw [hio] at hi;cases hi
theorem Vd:∀{ds:List D} {n i:Nat},look (ds.map some++List.replicate n none) i=ds[i]?
 | [],0,i=>by simp [look]
 | [],n+1,0=>by simp [look,List.replicate_succ]
 | [],n+1,i+1=>by
  have:=Vd (ds:=[]) (n:=n) (i:=i)
  simpa [look,List.replicate_succ] using this
 | d::ds,n,0=>by simp [look]
 | d::ds,n,i+1=>by
  have:=Vd (ds:=ds) (n:=n) (i:=i)
  simpa [look] using this
theorem Vu (h:vs[i]? = some v):(L2.start N vs)[i]? = some (some v):=by
 have hi:=(List.getElem?_eq_some_iff.mp h).1
 unfold L2.start
 rw [List.getElem?_append_left (by simpa using hi),List.getElem?_map,h]
 rfl
section
variable {w:World} {k:Nat}
def env0 (N:List Str) (ds:List D):Env:=ds.map some++List.replicate (N.length-ds.length) none
theorem Gp {g:GA} (F:Fun K x qual st f fd) (S:FnScope N ps (Qb st)) (hio:T.io=[]) (hown:∀i,i<ps.length->T.own i=false) (hg:∀ds kk,g ds kk->ds.length=ps.length)
  (hb:∀(cdv:Value) (A:Around) (outer:List PySem.Env) (s:Shared) (H:Hp) (E:XK),Room k (A.deeper (envOfC qual (Qb st) s.heap.objs.size f cdv))->SVs (cxOf CX0 P w K mg base N qual (Qb st) f cdv A outer s H E).nox T (Qw st) ww)
  (hr:∀ds kk,g ds kk->ww { nx:=λ_=>kk .non,rt:=λd _=>kk d } (env0 N ds)):FnOk P w K mg base CX0 (k+1) f fd ps (spR K g):=by
 refine F.ok S (λvs H Q E h=>?_) (λcdv A outer s H vs Q E hroom h=>?_)
 ·obtain ⟨ds,Fp,kk,rep,hgk,_⟩:=h
  rw [rep.length];exact hg ds kk hgk
 ·obtain ⟨ds,Fp,kk,rep,hgk,q⟩:=h
  obtain ⟨ts,pts,gts⟩:=hb cdv A outer s H E hroom
  have hl:=rep.length
  have hds:=hg ds kk hgk
  refine ⟨ts,pts,gts (λ_=>.non) (Any H) (L2.start N vs) H (λ_=>False) (env0 N ds) _ _ (SR.readonly hio ?_ λi d hli=>?_) (hr ds kk hgk) ⟨?_,?_,?_,?_,λ_ _ _ _ _ _ _ _ hk=>hk.elim⟩⟩
  ·unfold env0 L2.start;simp [hl]
  ·unfold env0 at hli
   rw [Vd] at hli
   obtain ⟨v,B,h1,h2,_⟩:=rep.get hli
   exact ⟨hown i (by rw [← hds];exact (List.getElem?_eq_some_iff.mp hli).1),v,B,Vu h1,h2⟩
  ·intro R' σ' H' W' ρ' s' fr hk
   have sm:Same H H':=λb o e=>fr.keep b o e (λz=>z)
   exact q .non H' .non [] ⟨sm,.non,List.nodup_nil,λ_ m=>nomatch m⟩ hk
  ·exact λR' σ' H' W' ρ' s' fr hk=>hk.elim
  ·exact λR' σ' H' W' ρ' s' fr hk=>hk.elim
  ·intro R' v σ' H' W' ρ' d F' s' fr r nd nw hk
   have sm:Same H H':=λb o e=>fr.keep b o e (λz=>z)
   exact q v H' d F' ⟨sm,r,nd,λa ha=>(nw a ha).2.resolve_left id⟩ hk
theorem Qn9 {p:Nat} (F:Fun K x qual st f fd) (S:FnScope N ps (Qb st)) (hio:T.io=[p]) (hown:T.own p=true) (hg:∀ds kk,g ds kk->ds.length=ps.length/\∃d0,ds[p]? = some d0/\Zw d0=true)
  (hb:∀(cdv:Value) (A:Around) (outer:List PySem.Env) (s:Shared) (H:Hp) (E:XK),Room k (A.deeper (envOfC qual (Qb st) s.heap.objs.size f cdv))->SVs (cxOf CX0 P w K mg base N qual (Qb st) f cdv A outer s H E).nox T (Qw st) ww)
  (hr:∀ds kk,g ds kk->ww { nx:=λρ=>oget (look ρ p) λd'=>Zw d'=true/\kk .non d',rt:=λd ρ=>oget (look ρ p) λd'=>Zw d'=true/\kk d d' } (env0 N ds)):FnOk P w K mg base CX0 (k+1) f fd ps (spI K p g):=by
 refine F.ok S (λvs H Q E h=>?_) (λcdv A outer s H vs Q E hroom h=>?_)
 ·obtain ⟨ds,a,kk,rep,hp,hgk,_⟩:=h
  rw [rep.length];exact (hg ds kk hgk).1
 ·obtain ⟨ds,a,kk,rep,hp,hgk,q⟩:=h
  obtain ⟨ts,pts,gts⟩:=hb cdv A outer s H E hroom
  have hl:=rep.length
  obtain ⟨hds,d0,hd0,hf0⟩:=hg ds kk hgk
  obtain ⟨v0,A',B,C,h1,h2,r0,rA,rC⟩:=rep.split hd0
  rw [hp] at h1;cases h1
  obtain ⟨a',e1,e2⟩:=r0.flat1 hf0
  cases e1
  subst e2
  have hA:A'=[]:=by
   cases A' with
   | nil=>rfl
   | cons y A'=>simp at h2
  subst hA
  have hC:C=[]:=by
   cases C with
   | nil=>rfl
   | cons y C=>simp at h2
  subst hC
  have oth:∀i d,i≠p->ds[i]? = some d->∃v,vs[i]? = some v/\Rep K H d v []:=λi d hne hd=>by
   rcases Nat.lt_or_gt_of_ne hne with h | h
   ·obtain ⟨v,B,h1,h2,h3⟩:=rA.get (i:=i) (by rw [List.getElem?_take_of_lt h];exact hd)
    rw [List.getElem?_take_of_lt h] at h1
    have:=List.sublist_nil.mp h3
    subst this
    exact ⟨v,h1,h2⟩
   ·obtain ⟨v,B,h1,h2,h3⟩:=rC.get (i:=i-(p+1)) (by rw [List.getElem?_drop,show p+1+(i-(p+1))=i by omega];exact hd)
    rw [List.getElem?_drop,show p+1+(i-(p+1))=i by omega] at h1
    have:=List.sublist_nil.mp h3
    subst this
    exact ⟨v,h1,h2⟩
  obtain ⟨oa,ea,ia⟩:=r0.dom a (List.mem_singleton.mpr rfl)
  have fin:∀R' v σ' H' W' ρ' d F',SR K T (λ_=>.ref a) R' H' W' σ' ρ'->FrW H (λb=>b=a) H' W'->Rep K H' d v F'->F'.Nodup->(∀b∈F',¬W' b/\(b=a\/H b=none))->(oget (look ρ' p) λd'=>Zw d'=true/\kk d d')->Q v H':=λR' v σ' H' W' ρ' d F' s' fr r nd nw hk=>by
   obtain ⟨d',hl',hf',hk⟩:=Qt hk
   obtain ⟨fp,s0⟩:=s'
   obtain ⟨u,hu,ru⟩:=s0.at_ p d' hl'
   have hfx:=s0.fix p (by rw [hio];exact List.mem_singleton.mpr rfl)
   rw [hu] at hfx
   cases hfx
   obtain ⟨a'',e1,e2⟩:=ru.flat1 hf'
   cases e1
   rw [e2] at ru
   have hWa:W' a:=(s0.own p d' hl' hown).2 a (by rw [e2];exact List.mem_singleton.mpr rfl)
   refine q v H' d d' F' ru r nd (λb hb=>?_) (λb o e hne=>fr.keep b o e hne) hk
   rcases (nw b hb).2 with h | h
   ·exact absurd hWa (by rw [← h];exact (nw b hb).1)
   ·exact h
  refine ⟨ts,pts,gts (λ_=>.ref a) (λb=>b≠a/\Any H b) (L2.start N vs) H (λb=>b=a) (env0 N ds) _ _ ⟨λi=>if i=p then [a] else [],?_,?_,?_,?_,?_,?_,?_,?_,?_⟩ (hr ds kk hgk) ⟨?_,?_,?_,?_,λ_ _ _ _ _ _ _ _ hk=>hk.elim⟩⟩
  ·unfold env0 L2.start;simp [hl]
  ·rintro b rfl;exact ⟨oa,ea,ia⟩
  ·intro i d hli
   unfold env0 at hli
   rw [Vd] at hli
   by_cases hip:i=p
   ·subst hip
    rw [hd0] at hli;cases hli
    exact ⟨.ref a,Vu hp,by rw [if_pos rfl];exact r0⟩
   ·obtain ⟨v,h1,h2⟩:=oth i d hip hli
    exact ⟨v,Vu h1,by rw [if_neg hip];exact h2⟩
  ·intro i d _ _
   by_cases hip:i=p
   ·rw [if_pos hip];exact ⟨by simp,λb hb=>List.mem_singleton.mp hb⟩
   ·rw [if_neg hip];exact ⟨by simp,λb hb=>nomatch hb⟩
  ·intro i d _ ht b hb
   have hip:i≠p:=λz=>by subst z;rw [hown] at ht;cases ht
   rw [if_neg hip] at hb;cases hb
  ·rintro b rfl ⟨h,_⟩;exact h rfl
  ·exact λb h=>h.2
  ·intro i j d e _ _ _ _ hne b hb hb'
   by_cases hip:i=p
   ·have hjp:j≠p:=λz=>hne (hip.trans z.symm)
    rw [if_neg hjp] at hb';cases hb'
   ·rw [if_neg hip] at hb;cases hb
  ·intro i hi
   rw [hio] at hi
   rw [List.mem_singleton.mp hi]
   exact Vu hp
  ·exact λR' σ' H' W' ρ' s' fr hk=>fin R' .non σ' H' W' ρ' .non [] s' fr .non List.nodup_nil (λb hb=>nomatch hb) hk
  ·exact λR' σ' H' W' ρ' s' fr hk=>hk.elim
  ·exact λR' σ' H' W' ρ' s' fr hk=>hk.elim
  ·exact λR' v σ' H' W' ρ' d F' s' fr r nd nw hk=>fin R' v σ' H' W' ρ' d F' s' fr r nd nw hk
end
def CV (X:Cx) (ifs:List Expr) (w:WT):Prop :=
 ∃tt,PIfs X ifs tt/\∀(z:Nat->V) (R:Addr->Prop) (σ:St) (H:Hp) (W:Addr->Prop) (ρ:Env) (Q:Bool->Env->Prop) (Q':Bool->Hp->Prop),SR X.K TR z R H W σ ρ->w ρ Q ->
  (∀b H' W' ρ',PostT X.K TR z R false H W σ ρ H' W' ρ'->Q b ρ'->Q' b H')->tt σ H Q'
def wAll:WT:=λρ Q=>Q true ρ
theorem Qlz:CV X [] wAll:=⟨_,Qha,λz R σ H W ρ Q Q' s hw k=>k true H W ρ ⟨s,FrW.refl H W,λ_=>⟨Same.refl H,rfl,rfl⟩⟩ hw⟩
def blkE (ρ:Env) (d:D) (ix:List Nat):Env:=some d::ix.map (look ρ)
theorem Qdm {f:Nat->Option D}:∀{ix:List Nat} {j:Nat},look (ix.map f) j=ix[j]?.bind f
 | [],_=>by simp [look]
 | i::r,0=>by simp [look]
 | i::r,j+1=>by simpa [look] using Qdm (f:=f) (ix:=r) (j:=j)
def Qmr (wl:WL) (wt:WT) (we:WE) (ix:List Nat):WE:=λρ Q=>wl ρ λds ρ1=>∃I:Nat->List D->Prop,I 0 [] /\
 (∀i d ys,ds[i]? = some d->I i ys->ys.length<sizeLine/\wt (blkE ρ1 d ix) λb _=>if b=true then we (blkE ρ1 d ix) (λy _=>I (i+1) (ys++[y])) else I (i+1) ys) /\
 ∀ys,I ds.length ys->ys.length<=sizeLine/\Q (.lst ys) ρ1
def Qmk (X:Cx) (T:Tg) (m:Bool) (elt iter:Expr) (x:Str) (px:Pos) (scope:Scope) (ifs:List Expr) (ix:List Nat) (w:WE):Prop :=
 ∃(wi:TI) (tt:TT) (te:TE),PI X (.Name x px) iter wi/\(∀cl C s₀ H₀ fp,PIfs (J7 X scope cl C (bN X.N x ix) s₀ H₀ fp) ifs tt)/\(∀cl C s₀ H₀ fp,PE (J7 X scope cl C (bN X.N x ix) s₀ H₀ fp) elt te) /\
  ∀(z:Nat->V) (R:Addr->Prop) (σ:St) (H:Hp) (W:Addr->Prop) (ρ:Env) (Q:D->Env->Prop) (Q':VK),SR X.K T z R H W σ ρ->w ρ Q ->
   (∀v H' W' d ρ' F,Post X.K T z R m true H W σ ρ H' W' ρ' d v F->Q d ρ'->Q' v H')->Quv wi tt te ix σ H Q'
theorem Ql1 (ix:List Nat) (hi:IV X T m pr (.Name x px) iter wl)
  (ht:∀cl C s₀ H₀ fp,CV (J7 X scope cl C (bN X.N x ix) s₀ H₀ fp) ifs wt) (he:∀cl C s₀ H₀ fp,EV (J7 X scope cl C (bN X.N x ix) s₀ H₀ fp) TR false true elt we) :
  Qmk X T m elt iter x px scope ifs ix (Qmr wl wt we ix):=by
 obtain ⟨wi,pi,gi⟩:=hi
 refine ⟨wi,λσ H Q=>∀cl C s₀ H₀ fp,Classical.choose (ht cl C s₀ H₀ fp) σ H Q,λσ H Q=>∀cl C s₀ H₀ fp,Classical.choose (he cl C s₀ H₀ fp) σ H Q,pi,
  λcl C s₀ H₀ fp pins s σ H Q I h=>(Classical.choose_spec (ht cl C s₀ H₀ fp)).1 pins s σ H Q I (h cl C s₀ H₀ fp),λcl C s₀ H₀ fp pins s σ H Q I h=>(Classical.choose_spec (he cl C s₀ H₀ fp)).1 pins s σ H Q I (h cl C s₀ H₀ fp),?_⟩
 intro z R σ H W ρ Q Q' s hw k
 refine gi z R σ H W ρ _ _ s hw λJ H1 W1 ds ρ1 p jd q=>?_
 obtain ⟨I,h0,hI,hd⟩:=q
 refine ⟨λi n ys H2=>n=ds.length-i/\i<=ds.length/\Same H1 H2/\∃es F,Reps X.K H2 es ys F/\F.Nodup/\(∀a∈F,H1 a=none)/\I i es,ds.length,⟨by simp,Nat.zero_le _,Same.refl _,[],[],.nil,List.nodup_nil,(λa m=>(nomatch m)),h0⟩,?_⟩
 rintro i n ys H2 ⟨rfl,hi,sm,es,F,re,nd,nw,i2⟩
 obtain ⟨j1,j2⟩:=jd i H2 (wz pr W1) (FrW.same _ sm)
 by_cases hlt:i<ds.length
 ·have hdi:ds[i]? = some ds[i]:=List.getElem?_eq_getElem hlt
  obtain ⟨hgo,hy⟩:=j2 _ hdi
  obtain ⟨hz,q1⟩:=hI i _ es hdi i2
  refine .inr ⟨hgo,by rw [re.length];exact hz,λv H3 yl=>?_⟩
  obtain ⟨sm3,Fv,rv,_⟩:=hy v H3 yl
  have srB:∀z',SR X.K TR z' (Any H3) H3 (λ_=>False) (bS σ (some v) ix) (blkE ρ1 ds[i] ix):=λz'=>by
   refine SR.readonly rfl (by simp [bS,blkE]) λj d hj=>⟨rfl,?_⟩
   cases j with
   | zero =>
    simp only [blkE,look,Option.some.injEq] at hj
    subst hj
    exact ⟨v,Fv,rfl,rv⟩
   | succ j =>
    have hj':look (ix.map (look ρ1)) j=some d:=hj
    rw [Qdm] at hj'
    cases hx:ix[j]? with
    | none=>rw [hx] at hj';cases hj'
    | some q =>
     rw [hx] at hj'
     obtain ⟨fp,s1⟩:=(p.sr.same sm).same sm3
     obtain ⟨u,hu,ru⟩:=s1.at_ q d hj'
     refine ⟨u,fp q,?_,ru⟩
     show (ix.map λi=>(σ[i]?).getD none)[j]? = some (some u)
     rw [List.getElem?_map,hx]
     simp [hu]
  intro cl C s₀ H₀ fp
  refine (Classical.choose_spec (ht cl C s₀ H₀ fp)).2 (λ_=>.non) (Any H3) (bS σ (some v) ix) H3 (λ_=>False) (blkE ρ1 ds[i] ix) _ _ (srB _) q1 λbb H4 W4 ρ4 p4 q4=>?_
  obtain ⟨sm4,hW4,hρ4⟩:=p4.calm rfl
  have re4:=((re.same sm3).same sm4)
  cases bb with
  | false=>exact ⟨ds.length-(i+1),by omega,rfl,hlt,(sm.trans sm3).trans sm4,es,F,re4,nd,nw,q4⟩
  | true =>
   show if true=true then _ else _
   rw [if_pos rfl]
   intro cl C s₀ H₀ fp
   refine (Classical.choose_spec (he cl C s₀ H₀ fp)).2 (λ_=>.non) (Any H3) (bS σ (some v) ix) H4 W4 (blkE ρ1 ds[i] ix) _ _ (hρ4 ▸ p4.sr) (by simpa using q4) λu H5 W5 y ρ5 Fy p5 q5=>?_
   obtain ⟨sm5,_,_⟩:=p5.calm rfl
   obtain ⟨ny,ky⟩:=p5.own rfl
   have sm15:Same H1 H5:=((sm.trans sm3).trans sm4).trans sm5
   refine ⟨ds.length-(i+1),by omega,rfl,hlt,sm15,es++[y],F++Fy,(re4.same sm5).snoc p5.rep,Gi nd ny λa ha hf=>?_,λa ha=>?_,q5⟩
   ·obtain ⟨ob,e1,_⟩:=re4.dom a hf
    rw [(ky a ha).1] at e1;cases e1
   ·rcases List.mem_append.mp ha with ha | ha
    ·exact nw a ha
    ·exact ((sm.trans sm3).trans sm4).free (ky a ha).1
 ·have e:i=ds.length:=by omega
  subst e
  obtain ⟨hz,q1⟩:=hd es i2
  refine .inl ⟨j1 (Nat.le_refl _),by rw [re.length];exact hz,λl hl=>?_⟩
  have hl1:H1 l=none:=sm.free hl
  refine k _ _ W1 (.lst es) ρ1 (l::F) ⟨(p.sr.same sm).same (Qj hl),(p.fr.trans (FrW.same W1 sm)).trans (FrW.same W1 (Qj hl)),λh=>⟨((p.calm h).1.trans sm).trans (Qj hl),(p.calm h).2⟩,.lst Ql (re.same (Qj hl)),λ_=>⟨List.nodup_cons.mpr ⟨λh=>?_,nd⟩,λb hb=>?_⟩⟩ q1
  ·obtain ⟨ob,e1,_⟩:=re.dom l h
   rw [hl] at e1;cases e1
  ·rcases List.mem_cons.mp hb with rfl | hb
   ·exact ⟨p.fr.dom _ hl1,p.sr.nw hl1⟩
   ·exact ⟨p.fr.dom _ (nw b hb),p.sr.nw (nw b hb)⟩
theorem Qtj (h:Qmk X T m elt iter x px scope ifs ix w) (B:BlkScope X.env scope x)
  (hix:∀i∈ix,∃y,X.N[i]? = some y/\scope.names.lookup y=some .free) (hN:(bN X.N x ix).Nodup) (hc:X.calm=true:=by rfl)
  (hs:∀x,foldedSetIterable iter X.env x=pure x:=by intro _;rfl):EV X T m true (.ListComp elt [⟨.Name x px,iter,ifs,0⟩] scope pos) w:=by
 obtain ⟨wi,tt,te,h1,h2,h3,h4⟩:=h
 exact ⟨_,Qsf ix hc B hix hN h1 h2 h3 hs,h4⟩
end PV
variable {ds:List PV.D}
namespace PV
open PySem PySem.Spec L2
abbrev WO:=Env->(Option Int->Env->Prop)->Prop
def OV (X:Cx) (T:Tg) (m:Bool) (e:Option Expr) (w:WO):Prop :=
 ∃t,PO X e t/\∀(z:Nat->V) (R:Addr->Prop) (σ:St) (H:Hp) (W:Addr->Prop) (ρ:Env) (Q:Option Int->Env->Prop) (Q':Option Int->Hp->Prop),SR X.K T z R H W σ ρ->w ρ Q ->
  (∀b H' W' ρ',PostT X.K T z R m H W σ ρ H' W' ρ'->Q b ρ'->Q' b H')->t σ H Q'
def X5:WO:=λρ Q=>Q none ρ
def Y2 (w:WE):WO:=λρ Q=>w ρ λd ρ'=>match d with
 | .int i=>Q (some i) ρ'
 | _=>False
theorem Qa2:OV X T false none X5:=⟨_,Qf2,λz R σ H W ρ Q Q' s hw k=>k none H W ρ ⟨s,FrW.refl H W,λ_=>⟨Same.refl H,rfl,rfl⟩⟩ hw⟩
theorem Jp (h:EV X T m o e w):OV X T m (some e) (Y2 w):=by
 obtain ⟨t,pt,g⟩:=h
 refine ⟨_,Qsa pt,λz R σ H W ρ Q Q' s hw k=>g z R σ H W ρ _ _ s hw λv H1 W1 d ρ1 F p q=>?_⟩
 cases d with
 | int i=>exact ⟨i,Qq2 p.rep,k (some i) H1 W1 ρ1 ⟨p.sr,p.fr,p.calm⟩ q⟩
 | _=>exact q.elim
def cutD (xs:List D) (lo hi:Option Int):List D:=(xs.drop (HT.sIx xs.length 0 lo)).take (HT.sIx xs.length xs.length hi-HT.sIx xs.length 0 lo)
def dSl:D->Option Int->Option Int->(D->Prop)->Prop
 | .lst xs,lo,hi,k=>Qi xs=true/\k (.lst (cutD xs lo hi))
 | .kls xs,lo,hi,k=>Qi xs=true/\k (.lst (cutD xs lo hi))
 | .tup xs,lo,hi,k=>Qi xs=true/\¬(HT.sIx xs.length 0 lo=0/\HT.sIx xs.length xs.length hi=xs.length)/\k (.tup (cutD xs lo hi))
 | _,_,_,_=>False
theorem Reps.cut {lo:Option Int} (r:Reps K H ds xs []):Reps K H (cutD ds lo hi) (cutV xs lo hi) []:=by
 unfold cutD cutV
 rw [r.length]
 obtain ⟨G,r1,s1⟩:=r.drop (HT.sIx ds.length 0 lo)
 obtain ⟨G',r2,s2⟩:=r1.take (HT.sIx ds.length ds.length hi-HT.sIx ds.length 0 lo)
 have:=List.sublist_nil.mp s1
 subst this
 have:=List.sublist_nil.mp s2
 subst this
 exact r2
theorem Qu0:SlR X (λx lo hi H Q=>rSlL X.K x lo hi H Q\/rSlT X.K x lo hi H Q):=SlR.or Qqt Quz
def wSl (w:WE) (wl wh:WO):WE:=λρ Q=>w ρ λd ρ1=>wl ρ1 λlo ρ2=>wh ρ2 λhi ρ3=>dSl d lo hi λd'=>Q d' ρ3
def Qyw:GA
 | [.int j],k=>0<=j/\j<=1000/\k (.lst (rngD 0 j.toNat))
 | _,_=>False
def Qtt:D->D->D->(D->Prop)->Prop
 | .dik kvs,.int i,d,k=>k ((valD kvs (.inl i)).getD d)
 | .dik kvs,.str i,d,k=>k ((valD kvs (.inr i)).getD d)
 | .dit kvs,.tup l,d,k=>oget (Zb l) λks=>k ((valD kvs ks).getD d)
 | _,_,_,_=>False
def Qzd (w:WE):WL:=λρ Q=>w ρ λd ρ'=>match d with
 | .dik kvs=>Q (kvs.map (·.2)) ρ'
 | _=>False
def Qzt (wl:WL) (i₀:Nat) (wb:WS):WS:=λP ρ=>wl ρ λds ρ1=>∃I:Nat->Env->Prop,I 0 ρ1 /\
 (∀i d ρ,ds[i]? = some d->I i ρ->wb { P with nx:=I (i+1),ct:=I (i+1),bk:=P.nx } (ρ.set i₀ (some d)))/\∀ρ,I ds.length ρ->P.nx ρ
def Qnz:D->Option Key
 | .int i=>some (.inl i)
 | .str i=>some (.inr i)
 | _=>none
def Up (out:List (List Int)):Prop:=∀(i j:Nat) x y,i<=j->out[i]? = some x->out[j]? = some y->HT.Qxp y x=false
def Qfq (wa wb:WE):WE:=λρ Q=>wa ρ λd ρ1=>match d with
 | .bl c=>if c=true then wb ρ1 Q else Q (.bl false) ρ1
 | _=>False
def wOrV (wa wb:WE):WE:=λρ Q=>wa ρ λd ρ1=>match d with
 | .bl c=>if c=true then Q (.bl true) ρ1 else wb ρ1 Q
 | _=>False
section
variable {o2:Bool}
theorem Post.after {W:Addr->Prop} {d1 d2:D} {v1 v2:V} (p:Post K T z R m1 o1 H W σ ρ H1 W1 ρ1 d1 v1 F1) (q:Post K T z R m2 o2 H1 W1 σ ρ1 H2 W2 ρ2 d2 v2 F2) :
  Post K T z R (m1 || m2) o2 H W σ ρ H2 W2 ρ2 d2 v2 F2:=⟨q.sr,p.fr.trans q.fr,p.calm2 q,q.rep,p.lastOwn q⟩
theorem Qhm {op} (h:EV X T m o a w):EV X T m o (.BoolOp op [a] pos) w:=by
 obtain ⟨t,pt,g⟩:=h
 exact ⟨t,Qwx pt,g⟩
theorem Qe5 (ha:EV X T m1 o1 a wa) (hb:EV X T m2 true (.BoolOp .And (b::rest) pos) wb):EV X T (m1 || m2) true (.BoolOp .And (a::b::rest) pos) (Qfq wa wb):=by
 obtain ⟨ta,pa,ga⟩:=ha
 obtain ⟨tb,pb,gb⟩:=hb
 refine ⟨_,Qw5 pa pb,λz R σ H W ρ Q Q' s hw k=>ga z R σ H W ρ _ _ s hw λv H1 W1 d ρ1 F p q=>?_⟩
 cases d with
 | bl c =>
  refine ⟨c,Qau p.rep,?_⟩
  cases c with
  | true=>exact gb z R σ H1 W1 ρ1 Q Q' p.sr q λv2 H2 W2 d2 ρ2 F2 q2 hq=>k v2 H2 W2 d2 ρ2 F2 (p.after q2) hq
  | false=>exact k _ H1 W1 (.bl false) ρ1 [] ⟨p.sr,p.fr,λh=>p.calm (Bool.or_eq_false_iff.mp h).1,.bl false,λ_=>⟨List.nodup_nil,λa m=>nomatch m⟩⟩ q
 | _=>exact q.elim
theorem Q1v (ha:EV X T m1 o1 a wa) (hb:EV X T m2 true (.BoolOp .Or (b::rest) pos) wb):EV X T (m1 || m2) true (.BoolOp .Or (a::b::rest) pos) (wOrV wa wb):=by
 obtain ⟨ta,pa,ga⟩:=ha
 obtain ⟨tb,pb,gb⟩:=hb
 refine ⟨_,Q06 pa pb,λz R σ H W ρ Q Q' s hw k=>ga z R σ H W ρ _ _ s hw λv H1 W1 d ρ1 F p q=>?_⟩
 cases d with
 | bl c =>
  refine ⟨c,Qau p.rep,?_⟩
  cases c with
  | false=>exact gb z R σ H1 W1 ρ1 Q Q' p.sr q λv2 H2 W2 d2 ρ2 F2 q2 hq=>k v2 H2 W2 d2 ρ2 F2 (p.after q2) hq
  | true=>exact k _ H1 W1 (.bl true) ρ1 [] ⟨p.sr,p.fr,λh=>p.calm (Bool.or_eq_false_iff.mp h).1,.bl true,λ_=>⟨List.nodup_nil,λa m=>nomatch m⟩⟩ q
 | _=>exact q.elim
def Qqh (wa:WE):WE:=λρ Q=>wa ρ λd ρ1=>match d with
 | .bl c=>Q (.bl (!c)) ρ1
 | _=>False
theorem Qyo (ha:EV X T m o a wa):EV X T m true (.UnaryOp .Not a pos) (Qqh wa):=by
 obtain ⟨ta,pa,ga⟩:=ha
 refine ⟨_,Qwy pa,λz R σ H W ρ Q Q' s hw k=>ga z R σ H W ρ _ _ s hw λv H1 W1 d ρ1 F p q=>?_⟩
 cases d with
 | bl c=>exact ⟨c,Qau p.rep,k _ H1 W1 (.bl (!c)) ρ1 [] (Post.flat p.sr p.fr p.calm (.bl _)) q⟩
 | _=>exact q.elim
end
theorem Yq:bootBuiltins "isinstance" = some (.builtin "isinstance"):=by decide +kernel
theorem Qy4:bootBuiltins "abs" = some (.builtin "abs"):=by decide +kernel
theorem Qbn:bootBuiltins "len" = some (.builtin "len"):=by decide +kernel
theorem Qcw:bootBuiltins "int" = some (.type "int"):=by decide +kernel
theorem Qtx:bootBuiltins "bool" = some (.type "bool"):=by decide +kernel
theorem Qp8:bootBuiltins "str" = some (.type "str"):=by decide +kernel
theorem Gr:bootBuiltins "tuple" = some (.type "tuple"):=by decide +kernel
def Yl (w:WE):WE:=λρ Q=>w ρ λd ρ'=>d.pure=true/\Q d ρ'
def Cal (P:Program) (w:World) (K:Frag) (mg:Str->Option Value) (base:Heap) (x:Str) (k:Nat) (ps:List Str) (sp:Sp):Prop :=
 ∃f fd,FnOk P w K mg base CX0 k f fd ps sp/\mg x=some (.ref f)/\keepIn K (.ref f)=true/\Xm K fd ps []
section
variable {k:Nat}
theorem Yr (h:EV X T m o e w):EV X T m true e (Yl w):=h.lift
theorem Jg {g:GA} (C:Cal X.prog X.w X.K X.mg X.base x k ps (spR X.K g)) (hr:Room k X.A) (ha:AV X T m o (e::es) wr) (hg:Gl X x:=by rfl)
  (hdb:(x == ("__debug__" : Str))=false:=by decide) (he:starEach (e::es) X.env=(false,eval e X.env)::starEach es X.env:=by rfl) (hpl:(backTo pos (starEach es X.env)).any (·.1)=false:=by rfl) :
  EV X T m true (.Call (.Name x p) (e::es) [] pos) (Qs g wr):=by
 obtain ⟨f,fd,F,h1,h2,h3⟩:=C
 exact Qtk F hr h1 h2 h3 ha hg hdb he hpl
theorem Q6 {q:Nat} {wi:WI} (C:Cal X.prog X.w X.K X.mg X.base x k ps (spI X.K q g)) (hr:Room k X.A) (ha:AI X T m i q (e::es) wi) (ht:T.own i=true:=by rfl) (hg:Gl X x:=by rfl)
  (hdb:(x == ("__debug__" : Str))=false:=by decide) (he:starEach (e::es) X.env=(false,eval e X.env)::starEach es X.env:=by rfl) (hpl:(backTo pos (starEach es X.env)).any (·.1)=false:=by rfl) :
  EV X T true true (.Call (.Name x p) (e::es) [] pos) (Jr i g wi):=by
 obtain ⟨f,fd,F,h1,h2,h3⟩:=C
 exact Qoe F hr h1 h2 h3 ha ht hg hdb he hpl
def nonD:D->Bool
 | .non=>true
 | _=>false
def nonB (b:D) (k:Prop):Prop:=match b with
 | .non=>k
 | _=>False
def dIs (neg:Bool):G2:=λa b k=>nonB b (k (.bl (xor (nonD a) neg)))
theorem Qke:OpD X (compareOp .Is) (dIs false):=by
 refine ⟨_,Qxc,λH a b x y F1 F2 k Q ra rb g q=>?_⟩
 cases rb <;> first | (exact (show False from g).elim) | (refine ⟨rfl,?_⟩;cases ra <;> first | exact q _ _ _ _ (.flat (.bl _)) g | (rename_i h;cases h <;> exact q _ _ _ _ (.flat (.bl _)) g))
theorem Qnr:OpD X (compareOp .IsNot) (dIs true):=by
 refine ⟨_,Qsi,λH a b x y F1 F2 k Q ra rb g q=>?_⟩
 cases rb <;> first | (exact (show False from g).elim) | (refine ⟨rfl,?_⟩;cases ra <;> first | exact q _ _ _ _ (.flat (.bl _)) g | (rename_i h;cases h <;> exact q _ _ _ _ (.flat (.bl _)) g))
def Qol (sc scope:Scope) (N:List Str) (x:Str) (ix:List Nat):Bool :=
 (scope.kind == .function) && scope.names.all (λy=>y.2 != .cell) && scope.names.all (λy=>y.2 != .local || scope.names.lookup y.1 == some .local) && (scope.names.lookup x == some .local) &&
  scope.names.all (λy=>y.2 != .free || (sc.names.lookup y.1 == some .cell || sc.names.lookup y.1 == some .free)) &&
  ix.all (λi=>match N[i]? with | some y=>scope.names.lookup y == some .free | none=>false) && decide (bN N x ix).Nodup
structure CompB (X:Cx) (scope:Scope) (x:Str) (ix:List Nat):Prop where
 B:BlkScope X.env scope x
 hix:∀i∈ix,∃y,X.N[i]? = some y/\scope.names.lookup y=some .free
 hN:(bN X.N x ix).Nodup
theorem Qai (sc:Scope) (N:List Str) (h:Qol sc scope N x ix=true) (h1:X.env.scope=sc:=by rfl) (h2:X.N=N:=by rfl):CompB X scope x ix:=by
 subst h1 h2
 simp only [Qol,Bool.and_eq_true,List.all_eq_true,Bool.or_eq_true,decide_eq_true_eq,beq_iff_eq,bne_iff_ne] at h
 obtain ⟨⟨⟨⟨⟨⟨a1,a2⟩,a3⟩,a4⟩,a5⟩,a6⟩,a7⟩:=h
 refine ⟨⟨a1,a2,λy hy e=>(a3 y hy).resolve_left (λz=>z e),a4,λy hy e=>(a5 y hy).resolve_left (λz=>z e)⟩,λi hi=>?_,a7⟩
 have:=a6 i hi
 cases q:X.N[i]? with
 | none=>rw [q] at this;cases this
 | some y =>
  rw [q] at this
  exact ⟨y,rfl,by simpa using this⟩
theorem Qhn (h:Qmk X T m elt iter x px scope ifs ix w) (B:CompB X scope x ix) (hc:X.calm=true:=by rfl)
  (hs:∀x,foldedSetIterable iter X.env x=pure x:=by intro _;rfl):EV X T m true (.ListComp elt [⟨.Name x px,iter,ifs,0⟩] scope pos) w:=Qtj h B.B B.hix B.hN hc hs
end
def Qqi (wd wk wx:WE):WE:=λρ Q=>wd ρ λd ρ1=>noDct d=false/\wk ρ1 λk ρ2=>wx ρ2 λx ρ3=>x.pure=true/\Qtt d k x λr=>r.pure=true/\Q r ρ3
where noDct:D->Bool
 | .dik _=>false
 | .dit _=>false
 | _=>true
def kD:Key->D
 | .inl i=>.int i
 | .inr x=>.str x
def Qgf (kvs:List (Key × D)):List D:=kvs.map λkv=>kD kv.1
def Qzr (w:WE):WL:=λρ Q=>w ρ λd ρ'=>match d with
 | .dik kvs=>Q (Qgf kvs) ρ'
 | _=>False
end PV
namespace PV
open PySem PySem.Spec L2
open PySem.W (Dat kqdP kqdPs kqdOk)
def Qh7 (ds es:List (Key × D)):Prop:=ds.length=es.length/\∀p∈ds,valD es p.1=some p.2
def eqK (ds es:List (Key × D)):Prop:=(∀p∈ds,eqOk 9 p.2=true)/\∀k d,valD es k=some d->eqOk 9 d=true
def dkD:D->Option (List (Key × D))
 | .dik ds=>some ds
 | .fdk ds=>some ds
 | _=>none
def dEqK (neg:Bool):G2:=λx y k=>oget (dkD x) λds=>oget (dkD y) λes=>eqK ds es/\(Qh7 ds es->k (.bl (!neg)))/\(¬Qh7 ds es->k (.bl neg))
end PV
variable {xs:List PV.D} {wh:PV.WS} {me:Bool}
namespace PV
open PySem PySem.Spec L2
def Qyx:GA
 | [.dik kvs],k=>k (.lst (Qgf kvs))
 | _,_=>False
def J6:G2
 | .int i,.int j,k=>k (.int (i+j))
 | .str x,.str y,k=>x.length+y.length<=sizeLine/\k (.str (x++y))
 | .tup xs,.tup ys,k=>Qi xs=true/\Qi ys=true/\xs.length+ys.length<=sizeLine/\k (.tup (xs++ys))
 | .lst xs,.lst ys,k=>Qi xs=true/\Qi ys=true/\xs.length+ys.length<=sizeLine/\k (.lst (xs++ys))
 | _,_,_=>False
theorem Qov {a b:D} (g:J6 a b k):(∃i j,a=.int i/\b=.int j)\/(∃i j,a=.str i/\b=.str j)\/(∃i j,a=.lst i/\b=.lst j)\/∃i j,a=.tup i/\b=.tup j:=by
 cases a with
 | int i=>cases b with
  | int j=>exact .inl ⟨i,j,rfl,rfl⟩
  | _=>exact (show False from g).elim
 | str i=>cases b with
  | str j=>exact .inr (.inl ⟨i,j,rfl,rfl⟩)
  | _=>exact (show False from g).elim
 | lst i=>cases b with
  | lst j=>exact .inr (.inr (.inl ⟨i,j,rfl,rfl⟩))
  | _=>exact (show False from g).elim
 | tup i=>cases b with
  | tup j=>exact .inr (.inr (.inr ⟨i,j,rfl,rfl⟩))
  | _=>cases i <;> exact (show False from g).elim
 | _=>exact (show False from g).elim
theorem Q4:OpD X (binaryOp .Add) J6:=by
 obtain ⟨r0,o0,g0⟩:=Qxh (X:=X)
 refine ⟨_,OpR.or Qsm o0,λH a b x y F1 F2 k Q ra rb g q=>?_⟩
 rcases Qov g with ⟨i,j,rfl,rfl⟩ | ⟨i,j,rfl,rfl⟩ | ⟨i,j,rfl,rfl⟩ | ⟨i,ys,rfl,rfl⟩
 ·exact .inr (g0 H _ _ x y F1 F2 k Q ra rb g q)
 ·exact .inr (g0 H _ _ x y F1 F2 k Q ra rb g q)
 ·exact .inr (g0 H _ _ x y F1 F2 k Q ra rb g q)
 ·cases i with
  | nil =>
   cases ra with
   | @tup p _ _ _ e1 r1 =>
    cases r1
    cases rb with
    | @tup p' us _ _ e2 r2=>exact .inl ⟨p,p',us,rfl,rfl,.of e1,.of e2,q _ _ _ _ (.flat (.tup e2 (r2.pure g.2.1).2)) g.2.2.2⟩
  | cons d xs=>exact .inr (g0 H _ _ x y F1 F2 k Q ra rb ⟨g.1,g.2.1,by simp,g.2.2⟩ q)
def dSlT:D->Option Int->Option Int->(D->Prop)->Prop
 | .lst xs,lo,hi,k=>Qi xs=true/\k (.lst (cutD xs lo hi))
 | .kls xs,lo,hi,k=>Qi xs=true/\k (.lst (cutD xs lo hi))
 | .tup xs,lo,hi,k=>Qi xs=true/\k (.tup (cutD xs lo hi))
 | _,_,_,_=>False
theorem Qqv {lo:Option Int} (g:dSlT d lo hi k):(∃ds,d=.lst ds)\/(∃ds,d=.kls ds)\/∃ds,d=.tup ds:=by
 cases d with
 | lst ds=>exact .inl ⟨ds,rfl⟩
 | kls ds=>exact .inr (.inl ⟨ds,rfl⟩)
 | tup ds=>exact .inr (.inr ⟨ds,rfl⟩)
 | _=>exact (show False from g).elim
theorem Qqu:SlR X (λx lo hi H Q=>(rSlL X.K x lo hi H Q\/rSlT X.K x lo hi H Q)\/rSlW X.K x lo hi H Q):=SlR.or Qu0 Qqr
def wSlT (w:WE) (wl wh:WO):WE:=λρ Q=>w ρ λd ρ1=>wl ρ1 λlo ρ2=>wh ρ2 λhi ρ3=>dSlT d lo hi λd'=>Q d' ρ3
theorem Ql0 {lo:Option Int} (h:HT.sIx xs.length 0 lo=0/\HT.sIx xs.length xs.length hi=xs.length):cutD xs lo hi=xs:=by
 unfold cutD
 rw [h.1,h.2]
 simp
theorem Qlj {lo hi:Option Expr} {wl wh:WO} (he:EV X T m1 o1 e w) (hl:OV X T m2 lo wl) (hh:OV X T m3 hi wh) (hc:o1=true\/(m2 || m3)=false:=by first | exact .inl rfl | exact .inr rfl) :
  EV X T (m1 || (m2 || m3)) true (.Subscript e (.Slice lo hi none p2) pos) (wSlT w wl wh):=by
 obtain ⟨te,pe,ge⟩:=he
 obtain ⟨tl,pl,gl⟩:=hl
 obtain ⟨th,ph,gh⟩:=hh
 refine ⟨_,Qde Qqu pe pl ph,λz R σ H W ρ Q Q' s hw k=>?_⟩
 refine ge z R σ H W ρ _ _ s hw λv H1 W1 d ρ1 F p q=>?_
 refine gl z R σ H1 W1 ρ1 _ _ p.sr q λlo H2 W2 ρ2 p2 q2=>?_
 refine gh z R σ H2 W2 ρ2 _ _ p2.sr q2 λhi H3 W3 ρ3 p3 q3=>?_
 have pp:=p2.seq p3
 have r3:Rep X.K H3 d v F:=by
  rcases hc with hc | hc
  ·exact p.rep.keep pp.fr λa h=>((p.own hc).2 a h).2
  ·exact p.rep.same (pp.calm hc).1
 have fin:∀ad d' v' Fn,Fin X.K H3 ad d' v' Fn->Q d' ρ3->Q' v' ad:=λH' d' v' F' fi hq=>by
  refine k v' H' W3 d' ρ3 F' (Post.fin p3.sr (p.fr.trans pp.fr) (λh=>?_) fi.same fi.rep fi.nd fi.new) hq
  rw [Bool.or_eq_false_iff] at h
  obtain ⟨a1,a2,a3⟩:=p.calm h.1
  obtain ⟨b1,b2,b3⟩:=pp.calm h.2
  exact ⟨a1.trans b1,b2.trans a2,b3.trans a3⟩
 have q4:dSlT d lo hi λd'=>Q d' ρ3:=q3
 clear q3
 rcases Qqv q4 with ⟨ds,rfl⟩ | ⟨ds,rfl⟩ | ⟨ds,rfl⟩
 ·have q3:=q4
  cases r3 with
  | @lst a xs _ F e1 r9 =>
   obtain ⟨hp,hq⟩:=q3
   obtain ⟨_,r9⟩:=r9.pure hp
   exact .inl (.inl ⟨a,xs,rfl,.of e1,λl hl=>fin _ _ _ [l] ⟨Qj hl,.lst Ql (r9.cut.same (Qj hl)),by simp,λb m=>by rw [List.mem_singleton.mp m];exact hl⟩ hq⟩)
 ·have q3:=q4
  cases r3 with
  | @kls a xs _ e1 r9 =>
   obtain ⟨hp,hq⟩:=q3
   exact .inl (.inl ⟨a,xs,rfl,e1.sq,λl hl=>fin _ _ _ [l] ⟨Qj hl,.lst Ql (r9.cut.same (Qj hl)),by simp,λb m=>by rw [List.mem_singleton.mp m];exact hl⟩ hq⟩)
 ·have q3:=q4
  cases r3 with
  | @tup a xs _ F e1 r9 =>
   obtain ⟨hp,hq⟩:=q3
   obtain ⟨_,r9⟩:=r9.pure hp
   by_cases hn:HT.sIx ds.length 0 lo=0/\HT.sIx ds.length ds.length hi=ds.length
   ·rw [Ql0 hn] at hq
    exact .inr ⟨a,xs,rfl,.of e1,by rw [r9.length];exact hn,fin _ _ _ [] (.flat (.tup e1 r9)) hq⟩
   ·exact .inl (.inr ⟨a,xs,rfl,.of e1,by rw [r9.length];exact hn,λl hl=>fin _ _ _ [] ⟨Qj hl,.tup Ql (r9.cut.same (Qj hl)),by simp,λb m=>nomatch m⟩ hq⟩)
def Qzs (wd wk wx:WE):WE:=λρ Q=>wd ρ λd ρ1=>Qqi.noDct d=false/\wk ρ1 λk ρ2=>wx ρ2 λx ρ3=>Qtt d k x λr=>Q r ρ3
def Qta:GM
 | .dik _,[],k=>k .non (.dik [])
 | _,_,_=>False
def Qlq (d:D) (k:List (Key × D)->Prop):Prop:=match d with
 | .dik kvs=>k kvs
 | _=>False
def Qzh (i:Nat) (wv wi:WE):WS:=λP ρ=>wv ρ λd ρ1=>(look ρ1 i).isSome=true/\wi ρ1 λc _=>oget (look ρ1 i) λs=>Qlq s λkvs=>kvs.length<sizeLine/\(kvs.map (·.1)).Nodup /\
 oget (Qnz c) λk=>P.nx (ρ1.set i (some (.dik (putD kvs k d))))
def Qhi (d:D) (k:List D->Prop):Prop:=match d with
 | .lst xs=>k xs
 | _=>False
def wDka (i:Nat) (wk wv:WE):WS:=λP ρ=>oget (look ρ i) λs=>Qlq s λkvs=>(kvs.map (·.1)).Nodup/\wk ρ λkd _=>oget (Qnz kd) λk=>oget (valD kvs k) λl=>Qhi l λxs =>
 xs.length<sizeLine/\wv ρ λd _=>d.pure=true/\P.nx (ρ.set i (some (.dik (putD kvs k (.lst (xs++[d]))))))
def Que (s:Nat):WL:=λρ Q=>oget (look ρ s) λc=>Qlq c λkvs=>Q (Qgf kvs) (ρ.set s (some (.fdk kvs)))
def zipD (kvs:List (Key × D)) (xs:List D):List D:=(kvs.zip xs).map λp=>.tup [kD p.1.1,p.2]
def wZip (wr:WA):WL:=λρ Q=>wr ρ λds ρ'=>match ds with
 | [.dik kvs,.lst xs]=>Qi xs=true/\Q (zipD kvs xs) ρ'
 | _=>False
def Qyb (i:Nat) (wi:WE):WG:=λd ρ Q=>(look ρ i).isSome=true/\wi ρ λc _=>oget (look ρ i) λs=>Qhi s λxs=>match c with
 | .int j=>oget (ixN xs.length j) λn=>Q (ρ.set i (some (.lst (xs.set n d))))
 | _=>False
def dSum:GA
 | [.lst ds],k=>∃ns:List Int,ds=ns.map D.int/\k (.int ns.sum)
 | _,_=>False
def Q10:GA
 | [.lst xs],k=>Qi xs=true/\k (.ftp xs)
 | _,_=>False
def Qyu:GA
 | [.dik kvs],k=>∃ns:List Int,kvs.map (·.1)=ns.map Sum.inl/\kvs.length<64/\∀out:List Int,out.Perm ns->out.Pairwise (· <= ·)->k (.lst (out.map D.int))
 | _,_=>False
def Qp4 (d:D) (ds:List D) (k:D->Prop):Prop:=match d,ds with
 | .ftp xs,[.int n]=>∃ns:List Int,xs=ns.map D.int/\k (.int (ns.count n:Nat))
 | _,_=>False
def isFt:D->Bool
 | .ftp _=>true
 | _=>false
def Quk (w:WE) (wr:WA):WE:=λρ Q=>w ρ λd ρ1=>isFt d=true/\wr ρ1 λds ρ2=>Qp4 d ds λr=>Q r ρ2
def Quj (wk wv:WE):WE:=λρ Q=>wk ρ λkd ρ1=>wv ρ1 λd ρ2=>d.pure=true/\oget (Qnz kd) λk=>Q (.dik [(k,d)]) ρ2
def Qzn (i j:Nat):WS:=λP ρ=>oget (look ρ j) λd=>P.nx ((ρ.set j none).set i (some d))
def TB (q:Nat):Tg:={ own:=λi=>i == q,io:=[q] }
def Qul (i j:Nat) (wl:WL) (we:WE) (ix:List Nat):WE:=λρ Q=>wl ρ λds ρ1=>Qi ds=true/\oget (look ρ1 i) λd0=>Zw d0=true/\∃I:Nat->List D->D->Prop,I 0 [] d0 /\
 (∀k d ys dd,ds[k]? = some d->I k ys dd->ys.length<sizeLine/\we (blkE (ρ1.set i (some dd)) d ix) (λy ρ'=>oget (look ρ' (j+1)) λdd'=>Zw dd'=true/\I (k+1) (ys++[y]) dd')) /\
 ∀ys dd,I ds.length ys dd->ys.length<=sizeLine/\Q (.lst ys) (ρ1.set i (some dd))
end PV
namespace PV
open PySem PySem.Spec L2
open PyProof.Rows (envOfC)
def Qug (wr:WA):WI:=λρ Q=>wr ρ λds ρ'=>Q [] ds ρ'
def Qub (w:WE) (wi:WI):WI:=λρ Q=>w ρ λd ρ1=>wi ρ1 λpre post ρ2=>Q (d::pre) post ρ2
def Qum (i:Nat) (g:GI) (wi:WI):WE:=λρ Q=>oget (look ρ i) λd0=>Zw d0=true/\wi ρ λpre post ρ1=>g (pre++d0::post) λd d'=>Q d (ρ1.set i (some d'))
end PV
namespace L2
open PySem PySem.Spec PyProof.Rows
theorem Qnq:OpR X (binaryOp .FloorDiv) (rI (λ_ j=>0<j/\j<2 ^ 256) λi j=>.int (i / j)):=opI λi j _ _ _ _ _ hc q=>by
 have h1:(0:Int)<j:=hc.1
 refine floordiv_int (by omega) (by rw [Int.fdiv_eq_ediv_of_nonneg i (by omega)];exact q) (.inl (PyProof.noPylong_of_log2 ?_))
 have h2:j.natAbs<2 ^ 256:=by have:=hc.2;omega
 have h3:j.natAbs.log2<256:=(Nat.log2_lt (by omega)).mpr h2
 omega
end L2
variable {py:PySem.Pos}
namespace PV
open PySem PySem.Spec L2
section
variable {o2:Bool}
def Qgn:G2
 | .int i,.int j,k=>0<j/\j<2 ^ 256/\k (.int (i / j))
 | _,_,_=>False
theorem Qa7:OpD X (binaryOp .FloorDiv) Qgn:=by
 refine ⟨_,Qnq,λH a b x y F1 F2 k Q ra rb g q=>?_⟩
 (cases ra <;> first | exact (show False from g).elim | skip) <;> (cases rb <;> first | exact (show False from g).elim | skip)
 exact ⟨_,_,rfl,rfl,⟨g.1,g.2.1⟩,q _ _ _ _ (.flat (.int _)) g.2.2⟩
def Qms (i:Nat) (g:G2) (wb:WE):WE:=λρ Q=>oget (look ρ i) λd1=>wb ρ λd2 ρ2=>look ρ2 i=some d1/\g d1 d2 λd=>Q d ρ2
def dAll:GA
 | [.lst ds],k=>∃bs:List Bool,ds=bs.map D.bl/\k (.bl (bs.all id))
 | _,_=>False
theorem Reps.of_bls {K:Frag} {H:Hp}:∀{bs:List Bool} {xs:List V} {F:List Addr},Reps K H (bs.map D.bl) xs F->xs=bs.map V.bl
 | [],_,_,r=>by cases r;rfl
 | b::bs,_,_,r=>by
  cases r with
  | cons h r=>cases h;rw [Reps.of_bls r];rfl
theorem Ql4 (hc:X.calm=true):Qbu X (.builtin "all") dAll:=by
 refine ⟨_,Qoq hc,λH ds xs F k Q r g q=>?_⟩
 cases ds with
 | nil=>exact (show False from g).elim
 | cons d ds =>
  cases ds with
  | cons _ _=>cases d <;> exact (show False from g).elim
  | nil =>
   cases d with
   | lst es =>
    obtain ⟨v,rfl,rd⟩:=r.at1
    obtain ⟨bs,rfl,g⟩:=g
    cases rd with
    | lst e r9 =>
    have:=r9.of_bls
    subst this
    exact ⟨_,bs,rfl,e,q _ _ _ _ (.flat (.bl _)) g⟩
   | _=>exact (show False from g).elim
def Qzp (wr:WA):WE:=λρ Q=>wr ρ λds ρ'=>Qi ds=true/\ds.length<=sizeLine/\Q (.fls ds) ρ'
def Ua (xs ys:List D):List D:=(xs.zip ys).map λp=>.tup [p.1,p.2]
def Qoy (ds:List D) (k:List D->Prop):Prop:=match ds with
 | [.tup xs,.tup ys]=>Qi xs=true/\Qi ys=true/\k (Ua xs ys)
 | _=>False
def Qmq (wr:WA):WL:=λρ Q=>wr ρ λds ρ'=>Qoy ds λl=>Q l ρ'
theorem Qs3 (hm:X.mg "zip" = none) (ha:AV X T m o [a,b] wr) (hg:Gl X "zip":=by rfl) (hs:starEach [a,b] X.env=[(false,eval a X.env),(false,eval b X.env)]:=by rfl)
  (hs2:starEach [b] X.env=[(false,eval b X.env)]:=by rfl):IV X T m true (.Tuple ts kt pt) (.Call (.Name "zip" p) [a,b] [] pos) (Qmq wr):=by
 obtain ⟨ta,pa,ga⟩:=ha
 refine ⟨_,Qsb hg hm pa hs hs2,λz R σ H W ρ Q RR s hw k=>?_⟩
 refine ga z R σ H W ρ _ _ s hw λvs H1 W1 ds ρ1 F p q=>?_
 have rp:=p.rep
 match ds,rp,q with
 | [.tup xs,.tup ys],rp,q =>
  obtain ⟨hp1,hp2,q⟩:=q
  obtain ⟨v,u,F1,F2,rfl,r1,r2⟩:=rp.at2
  cases r1 with
  | @tup a1 us1 _ _ e1 q1 =>
   cases r2 with
   | @tup a2 us2 _ _ e2 q2 =>
    obtain ⟨-,q1⟩:=q1.pure hp1
    obtain ⟨-,q2⟩:=q2.pure hp2
    refine ⟨a1,a2,us1,us2,rfl,.of e1,.of e2,k _ H1 W1 (Ua xs ys) ρ1 ⟨p.sr,p.fr,p.calm⟩ (λi H2 W2 fr=>?_) q⟩
    have e1':H2 a1=some (.tup us1):=fr.imm a1 _ e1 rfl
    have e2':H2 a2=some (.tup us2):=fr.imm a2 _ e2 rfl
    have l1:=q1.length
    have l2:=q2.length
    have hlen:(Ua xs ys).length=min xs.length ys.length:=by simp [Ua]
    refine ⟨λhi=>⟨us1,us2,.of e1',.of e2',by rw [hlen] at hi;omega⟩,λd hd=>?_⟩
    unfold Ua at hd
    rw [List.getElem?_map] at hd
    cases hq:(xs.zip ys)[i]? with
    | none=>rw [hq] at hd;cases hd
    | some pr =>
     rw [hq] at hd
     cases hd
     obtain ⟨hx,hy⟩:=List.getElem?_zip_eq_some.mp hq
     obtain ⟨v1,B1,g1,g2,g3⟩:=q1.get hx
     obtain ⟨v2,B2,f1,f2,f3⟩:=q2.get hy
     have:=List.sublist_nil.mp g3
     subst this
     have:=List.sublist_nil.mp f3
     subst this
     refine ⟨⟨us1,us2,v1,v2,.of e1',.of e2',g1,f1⟩,λv H3 yl=>?_⟩
     obtain ⟨x',y',pp,h1,h2,rfl,h3,rfl⟩:=yl us1 us2 (.of e1') (.of e2')
     rw [g1] at h1
     rw [f1] at h2
     cases h1
     cases h2
     refine ⟨Qj h3,[],.tup Ql ?_,λa m=>nomatch m⟩
     have rr1:Rep X.K (upd H2 pp (.tup [v1,v2])) pr.1 v1 []:=(g2.keep fr λa m=>nomatch m).same (Qj h3)
     have rr2:Rep X.K (upd H2 pp (.tup [v1,v2])) pr.2 v2 []:=(f2.keep fr λa m=>nomatch m).same (Qj h3)
     exact .cons (F:=[]) (G:=[]) rr1 (.cons (F:=[]) (G:=[]) rr2 .nil)
def Qdv (ρ:Env) (d1 d2:D) (ix:List Nat):Env:=some d1::some d2::ix.map (look ρ)
def two2 (d:D) (k:D->D->Prop):Prop:=match d with
 | .tup [a,b]=>k a b
 | .kc (.tup [a,b])=>k (kcD a) (kcD b)
 | _=>False
theorem two2_rep {k:D->D->Prop} (r:Rep K H d v F) (q:two2 d k):∃av v1 v2 d1 d2 F1 F2,v=.ref av/\SqT K H av [v1,v2]/\Rep K H d1 v1 F1/\Rep K H d2 v2 F2/\k d1 d2:=by
 cases r with
 | @tup a xs ds F e r =>
  match ds,r,q with
  | [d1,d2],r,q =>
   obtain ⟨v1,v2,F1,F2,rfl,r1,r2⟩:=r.at2
   exact ⟨a,v1,v2,d1,d2,F1,F2,rfl,.of e,r1,r2,q⟩
 | @kc c v h =>
  match c,h,q with
  | .tup [d1,d2],h,q =>
   obtain ⟨a,xs,rfl,hs,ar⟩:=h.sqT
   have r:Reps K H [kcD d1,kcD d2] xs []:=ar.reps
   obtain ⟨v1,v2,F1,F2,rfl,r1,r2⟩:=r.at2
   exact ⟨a,v1,v2,kcD d1,kcD d2,F1,F2,rfl,hs H,r1,r2,q⟩
 | _=>exact (show False from q).elim
def Qyz (ds:List D) (wt:WT) (we:WE) (ρ1:Env) (ix:List Nat) (Q:D->Env->Prop):Prop:=∃I:Nat->List D->Prop,I 0 [] /\
 (∀i d ys,ds[i]? = some d->I i ys->ys.length<sizeLine/\two2 d λd1 d2=>wt (Qdv ρ1 d1 d2 ix) λb _=>if b=true then we (Qdv ρ1 d1 d2 ix) (λy _=>I (i+1) (ys++[y])) else I (i+1) ys) /\
 ∀ys,I ds.length ys->ys.length<=sizeLine/\Q (.lst ys) ρ1
def Qg1 (wl:WL) (wt:WT) (we:WE) (ix:List Nat):WE:=λρ Q=>wl ρ λds ρ1=>Qyz ds wt we ρ1 ix Q
def Qmj (X:Cx) (T:Tg) (m:Bool) (elt iter tg:Expr) (ts:List Str) (gt:TG) (scope:Scope) (ifs:List Expr) (ix:List Nat) (w:WE):Prop :=
 ∃(wi:TI) (tt:TT) (te:TE),PI X tg iter wi/\(∀cl C s₀ H₀ fp,PIfs (J7 X scope cl C (bN2 X.N ts ix) s₀ H₀ fp) ifs tt)/\(∀cl C s₀ H₀ fp,PE (J7 X scope cl C (bN2 X.N ts ix) s₀ H₀ fp) elt te) /\
  ∀(z:Nat->V) (R:Addr->Prop) (σ:St) (H:Hp) (W:Addr->Prop) (ρ:Env) (Q:D->Env->Prop) (Q':VK),SR X.K T z R H W σ ρ->w ρ Q ->
   (∀v H' W' d ρ' F,Post X.K T z R m true H W σ ρ H' W' ρ' d v F->Q d ρ'->Q' v H')->Qje ts wi gt tt te ix σ H Q'
theorem Qme:bootBuiltins "all" = some (.builtin "all"):=by decide +kernel
def g2 (K:Frag):TG:=gTup K 2 (Qs9 (Qk9 0) (Qs9 (Qk9 1) gNil))
theorem Qoj (ix:List Nat) (hi:IV X T m pr (.Tuple [.Name x px,.Name y py] kt pt) iter wl)
  (ht:∀cl C s₀ H₀ fp,CV (J7 X scope cl C (bN2 X.N [x,y] ix) s₀ H₀ fp) ifs wt) (he:∀cl C s₀ H₀ fp,EV (J7 X scope cl C (bN2 X.N [x,y] ix) s₀ H₀ fp) TR false true elt we) :
  Qmj X T m elt iter (.Tuple [.Name x px,.Name y py] kt pt) [x,y] (g2 X.K) scope ifs ix (Qg1 wl wt we ix):=by
 obtain ⟨wi,pi,gi⟩:=hi
 refine ⟨wi,λσ H Q=>∀cl C s₀ H₀ fp,Classical.choose (ht cl C s₀ H₀ fp) σ H Q,λσ H Q=>∀cl C s₀ H₀ fp,Classical.choose (he cl C s₀ H₀ fp) σ H Q,pi,
  λcl C s₀ H₀ fp pins s σ H Q I h=>(Classical.choose_spec (ht cl C s₀ H₀ fp)).1 pins s σ H Q I (h cl C s₀ H₀ fp),λcl C s₀ H₀ fp pins s σ H Q I h=>(Classical.choose_spec (he cl C s₀ H₀ fp)).1 pins s σ H Q I (h cl C s₀ H₀ fp),?_⟩
 intro z R σ H W ρ Q Q' s hw k
 refine gi z R σ H W ρ _ _ s hw λJ H1 W1 ds ρ1 p jd q=>?_
 obtain ⟨I,h0,hI,hd⟩:=q
 refine ⟨λi n ys H2=>n=ds.length-i/\i<=ds.length/\Same H1 H2/\∃es F,Reps X.K H2 es ys F/\F.Nodup/\(∀a∈F,H1 a=none)/\I i es,ds.length,⟨by simp,Nat.zero_le _,Same.refl _,[],[],.nil,List.nodup_nil,(λa m=>(nomatch m)),h0⟩,?_⟩
 rintro i n ys H2 ⟨rfl,hi,sm,es,F,re,nd,nw,i2⟩
 obtain ⟨j1,j2⟩:=jd i H2 (wz pr W1) (FrW.same _ sm)
 by_cases hlt:i<ds.length
 ·have hdi:ds[i]? = some ds[i]:=List.getElem?_eq_getElem hlt
  obtain ⟨hgo,hy⟩:=j2 _ hdi
  obtain ⟨hz,q1⟩:=hI i _ es hdi i2
  refine .inr ⟨hgo,by rw [re.length];exact hz,λv H3 yl o ol=>?_⟩
  obtain ⟨sm3,Fv,rv,_⟩:=hy v H3 yl
  generalize ds[i]=dd at q1 rv
  obtain ⟨av,v1,v2,d1,d2,F1,F2,rfl,ev,r1,r2,q1⟩:=two2_rep rv q1
  ··refine ⟨av,[v1,v2],rfl,ev,rfl,v1,[v2],rfl,v2,[],rfl,rfl,[some v1,some v2],?_,rfl,?_⟩
    ·match o,ol with
     | [o1,o2],_=>rfl
    have srB:∀z',SR X.K TR z' (Any H3) H3 (λ_=>False) (((bS2 σ o ix).set 0 (some v1)).set 1 (some v2)) (Qdv ρ1 d1 d2 ix):=λz'=>by
     have eS:((bS2 σ o ix).set 0 (some v1)).set 1 (some v2)=bS2 σ [some v1,some v2] ix:=by
      match o,ol with
      | [o1,o2],_=>rfl
     rw [eS]
     refine SR.readonly rfl (by simp [bS2,Qdv]) λj d hj=>⟨rfl,?_⟩
     match j with
     | 0 =>
      simp only [Qdv,look,Option.some.injEq] at hj
      subst hj
      exact ⟨v1,F1,rfl,r1⟩
     | 1 =>
      simp only [Qdv,look,Option.some.injEq] at hj
      subst hj
      exact ⟨v2,F2,rfl,r2⟩
     | j+2 =>
      have hj':look (ix.map (look ρ1)) j=some d:=hj
      rw [Qdm] at hj'
      cases hx:ix[j]? with
      | none=>rw [hx] at hj';cases hj'
      | some q =>
       rw [hx] at hj'
       obtain ⟨fp,s1⟩:=(p.sr.same sm).same sm3
       obtain ⟨u,hu,ru⟩:=s1.at_ q d hj'
       refine ⟨u,fp q,?_,ru⟩
       show (ix.map λi=>(σ[i]?).getD none)[j]? = some (some u)
       rw [List.getElem?_map,hx]
       simp [hu]
    intro cl C s₀ H₀ fp
    refine (Classical.choose_spec (ht cl C s₀ H₀ fp)).2 (λ_=>.non) (Any H3) _ H3 (λ_=>False) (Qdv ρ1 d1 d2 ix) _ _ (srB _) q1 λbb H4 W4 ρ4 p4 q4=>?_
    obtain ⟨sm4,hW4,hρ4⟩:=p4.calm rfl
    have re4:=((re.same sm3).same sm4)
    cases bb with
    | false=>exact ⟨ds.length-(i+1),by omega,rfl,hlt,(sm.trans sm3).trans sm4,es,F,re4,nd,nw,q4⟩
    | true =>
     show if true=true then _ else _
     rw [if_pos rfl]
     intro cl C s₀ H₀ fp
     refine (Classical.choose_spec (he cl C s₀ H₀ fp)).2 (λ_=>.non) (Any H3) _ H4 W4 (Qdv ρ1 d1 d2 ix) _ _ (hρ4 ▸ p4.sr) (by simpa using q4) λu H5 W5 y ρ5 Fy p5 q5=>?_
     obtain ⟨sm5,_,_⟩:=p5.calm rfl
     obtain ⟨ny,ky⟩:=p5.own rfl
     have sm15:Same H1 H5:=((sm.trans sm3).trans sm4).trans sm5
     refine ⟨ds.length-(i+1),by omega,rfl,hlt,sm15,es++[y],F++Fy,(re4.same sm5).snoc p5.rep,Gi nd ny λa ha hf=>?_,λa ha=>?_,q5⟩
     ·obtain ⟨ob,e1,_⟩:=re4.dom a hf
      rw [(ky a ha).1] at e1;cases e1
     ·rcases List.mem_append.mp ha with ha | ha
      ·exact nw a ha
      ·exact ((sm.trans sm3).trans sm4).free (ky a ha).1
 ·have e:i=ds.length:=by omega
  subst e
  obtain ⟨hz,q1⟩:=hd es i2
  refine .inl ⟨j1 (Nat.le_refl _),by rw [re.length];exact hz,λl hl=>?_⟩
  have hl1:H1 l=none:=sm.free hl
  refine k _ _ W1 (.lst es) ρ1 (l::F) ⟨(p.sr.same sm).same (Qj hl),(p.fr.trans (FrW.same W1 sm)).trans (FrW.same W1 (Qj hl)),λh=>⟨((p.calm h).1.trans sm).trans (Qj hl),(p.calm h).2⟩,.lst Ql (re.same (Qj hl)),λ_=>⟨List.nodup_cons.mpr ⟨λh=>?_,nd⟩,λb hb=>?_⟩⟩ q1
  ·obtain ⟨ob,e1,_⟩:=re.dom l h
   rw [hl] at e1;cases e1
  ·rcases List.mem_cons.mp hb with rfl | hb
   ·exact ⟨p.fr.dom _ hl1,p.sr.nw hl1⟩
   ·exact ⟨p.fr.dom _ (nw b hb),p.sr.nw (nw b hb)⟩
structure CompB2 (X:Cx) (scope:Scope) (x y:Str) (ix:List Nat):Prop where
 B1:CompB X scope x ix
 B2:CompB X scope y ix
 nd:(bN2 X.N [x,y] ix).Nodup
theorem Qfa (sc:Scope) (N:List Str) (h:(Qol sc scope N x ix && Qol sc scope N y ix && decide (bN2 N [x,y] ix).Nodup)=true) (h1:X.env.scope=sc:=by rfl) (h2:X.N=N:=by rfl):CompB2 X scope x y ix:=by
 simp only [Bool.and_eq_true,decide_eq_true_eq] at h
 exact ⟨Qai sc N h.1.1 h1 h2,Qai sc N h.1.2 h1 h2,by rw [h2];exact h.2⟩
theorem pg2 (B:CompB2 X scope x y ix) (hc:X.calm=true) (cl:List (Str × Addr)) (C:Addr) (s₀:Shared) (H₀:Hp) (fp:List Addr) :
  PG (J7 X scope cl C (bN2 X.N [x,y] ix) s₀ H₀ fp) (.Tuple [.Name x px,.Name y py] kt pt) (g2 X.K):=by
 have l1:(J7 X scope cl C (bN2 X.N [x,y] ix) s₀ H₀ fp).env.scope.names.lookup x=some .local:=lookup_relabel_local B.B1.B.lx
 have l2:(J7 X scope cl C (bN2 X.N [x,y] ix) s₀ H₀ fp).env.scope.names.lookup y=some .local:=lookup_relabel_local B.B2.B.lx
 exact Qws hc (Qhc (Qdd (i:=0) B.nd rfl (.inl l1) (.inr l1)) (Qhc (Qdd (i:=1) B.nd rfl (.inl l2) (.inr l2)) Qsd))
theorem Qod (h:Qmj X T m elt iter (.Tuple [.Name x px,.Name y py] kt pt) [x,y] (g2 X.K) scope ifs ix w) (B:CompB2 X scope x y ix) (hc:X.calm=true:=by rfl)
  (hs:∀x,foldedSetIterable iter X.env x=pure x:=by intro _;rfl):EV X T m true (.ListComp elt [⟨.Tuple [.Name x px,.Name y py] kt pt,iter,ifs,0⟩] scope pos) w:=by
 obtain ⟨wi,tt,te,h1,h2,h3,h4⟩:=h
 exact ⟨_,Qnm ix hc B.B1.B B.B1.hix B.nd h1 (pg2 B hc) h2 h3 hs,h4⟩
end
end PV
variable {oe:PySem.Expr}
namespace PV
open PySem PySem.Spec L2
open Builtin.Str (glued tooLong)
section
variable {o2:Bool} {ws:WS}
def Qx8 (kvs:List (Key × D)):List D:=kvs.map λkv=>.tup [kD kv.1,kv.2]
def Qkx (d:D) (k:List D->Prop):Prop:=match d with
 | .dik kvs=>k (Qx8 kvs)
 | _=>False
def Quf (w:WE):WL:=λρ Q=>w ρ λd ρ'=>Qkx d λds=>Q ds ρ'
def dStr:GA
 | [.int i],k=>i.natAbs.log2<1920/\k (.str (toString i))
 | _,_=>False
theorem Qy2:Qbu X (.type "str") dStr:=by
 refine ⟨_,Qfe,λH ds xs F k Q r g q=>?_⟩
 cases ds with
 | nil=>exact (show False from g).elim
 | cons d ds =>
  cases ds with
  | cons _ _=>cases d <;> exact (show False from g).elim
  | nil =>
   cases d with
   | int i =>
    obtain ⟨v,rfl,rd⟩:=r.at1
    cases rd
    exact ⟨_,rfl,g.1,q _ _ _ _ (.flat (.str _)) g.2⟩
   | _=>exact (show False from g).elim
def Qly:GA
 | [.str x],k=>oget (PySem.intText? x) λn=>x.length<=640/\k (.int n)
 | _,_=>False
theorem Qgo:Qbu X (.type "int") Qly:=by
 refine ⟨_,Qmb,λH ds xs F k Q r g q=>?_⟩
 cases ds with
 | nil=>exact (show False from g).elim
 | cons d ds =>
  cases ds with
  | cons _ _=>cases d <;> exact (show False from g).elim
  | nil =>
   cases d with
   | str x =>
    obtain ⟨v,rfl,rd⟩:=r.at1
    obtain ⟨n,hn,hl,g⟩:=Qt g
    cases rd
    exact ⟨_,n,rfl,hn,hl,q _ _ _ _ (.flat (.int _)) g⟩
   | _=>exact (show False from g).elim
theorem Reps.of_strs {K:Frag} {H:Hp}:∀{ws:List Str} {xs:List V} {F:List Addr},Reps K H (ws.map D.str) xs F->xs=ws.map V.str
 | [],_,_,r=>by cases r;rfl
 | b::bs,_,_,r=>by
  cases r with
  | cons h r=>cases h;rw [Reps.of_strs r];rfl
theorem Reps.strs {K:Frag} {H:Hp}:∀(ws:List Str),Reps K H (ws.map D.str) (ws.map V.str) []
 | []=>.nil
 | w::ws=>.cons (F:=[]) (G:=[]) (.str w) (Reps.strs ws)
abbrev GS:=Str->List D->(D->Prop)->Prop
def MsD (X:Cx) (id:String) (g:GS):Prop :=
 ∃r,MtR X id r/\∀(H:Hp) (y:Str) (ds:List D) (xs:List V) (F:List Addr) (k:D->Prop) (Q:VK),Reps X.K H ds xs F->g y ds k->(∀v H' d F',Fin X.K H H' d v F'->k d->Q v H')->r (.str y) xs H Q
def Qux (d:D) (k:Str->Prop):Prop:=match d with
 | .str y=>k y
 | _=>False
def wMs (g:GS) (w:WE) (wr:WA):WE:=λρ Q=>w ρ λd ρ1=>Qux d λy=>wr ρ1 λds ρ2=>g y ds λr=>Q r ρ2
theorem Qe3 {g:GS} {id:String} (hm:MsD X id g) (slot:Slot "str" name id) (hty:typeOf (.builtin id)=pure (.type "method_descriptor")) (ho:EV X T m1 o1 oe w) (ha:AV X T m2 o2 (e::es) wr)
  (hbase:attributeBase oe name X.env (eval oe X.env)=eval oe X.env:=by rfl)
  (hfew:((backTo cpos (starEach (e::es) X.env)).all (λx=>!x.1) && (backToKw cpos (keywordEach [] X.env)).all (λx=>x.1.isSome)
   && decide ((e::es).length+([]:List Keyword).length+(if ([]:List Keyword).isEmpty then 0 else 1)<30))=true:=by rfl)
  (hline:(apos.endLine == cpos.line)=true:=by rfl) (hs:starEach (e::es) X.env=(false,eval e X.env)::starEach es X.env:=by rfl) (hplain:(backTo cpos (starEach es X.env)).any (·.1)=false:=by rfl) :
  EV X T (m1 || m2) true (.Call (.Attribute oe name apos) (e::es) [] cpos) (wMs g w wr):=by
 obtain ⟨r,mr,gr⟩:=hm
 obtain ⟨te,pe,ge⟩:=ho
 obtain ⟨ta,pa,ga⟩:=ha
 refine ⟨_,Qw4 PySem.F.plainAttrs_str slot hty mr pe pa hbase hfew hline hs hplain,λz R σ H W ρ Q Q' s hw k=>?_⟩
 refine ge z R σ H W ρ _ _ s hw λv1 H1 W1 d1 ρ1 F1 p q1=>?_
 obtain ⟨y,rfl⟩:∃y,d1=D.str y:=by
  clear p
  cases d1 with
  | str y=>exact ⟨y,rfl⟩
  | _=>exact (show False from q1).elim
 have hv:v1=.str y:=by have:=p.rep;cases this;rfl
 subst hv
 refine ⟨rfl,ga z R σ H1 W1 ρ1 _ _ p.sr q1 λvs H2 W2 ds ρ2 F2 q q2=>?_⟩
 refine gr H2 y ds vs F2 _ Q' q.rep q2 λv H' d F' fi hk=>k v H' W2 d ρ2 F' (Post.fin q.sr (p.fr.trans q.fr) (λh=>?_) fi.same fi.rep fi.nd fi.new) hk
 rw [Bool.or_eq_false_iff] at h
 obtain ⟨a1,a2,a3⟩:=p.calm h.1
 obtain ⟨b1,b2,b3⟩:=q.calm h.2
 exact ⟨a1.trans b1,b2.trans a2,b3.trans a3⟩
def Qye:GS:=λsep ds k=>match ds with
 | [.lst xs]=>∃ws:List Str,xs=ws.map D.str/\tooLong (ws.toArray.foldl (λn w=>n+w.length+sep.length) 0)=false/\(glued sep ws).length<=sizeLine/\k (.str (glued sep ws))
 | _=>False
theorem Qss:MsD X "str.join" Qye:=by
 refine ⟨_,Qsp,λH y ds xs F k Q r g q=>?_⟩
 cases ds with
 | nil=>exact (show False from g).elim
 | cons d ds =>
  cases ds with
  | cons _ _=>cases d <;> exact (show False from g).elim
  | nil =>
   cases d with
   | lst es =>
    obtain ⟨v,rfl,rd⟩:=r.at1
    obtain ⟨ws,rfl,h1,h2,g⟩:=g
    cases rd with
    | lst e r9 =>
    have:=r9.of_strs
    subst this
    exact ⟨y,_,ws,rfl,rfl,.of e,h1,h2,q _ _ _ _ (.flat (.str _)) g⟩
   | _=>exact (show False from g).elim
def Qyc:GS:=λy ds k=>match ds with
 | [.str sep]=>sep.length=1/\Builtin.Str.strKind sep=1/\0<y.length/\y.length<=sizeLine/\(Jv y sep).length<=sizeLine/\k (.lst ((Jv y sep).map D.str))
 | _=>False
def sgn (x:Str):List D:=x.cps.toList.map λc=>.str ⟨#[c]⟩
def Qjj (d:D) (k:List D->Prop):Prop:=match d with
 | .str x=>x.cps.all (· < 128)=true/\k (sgn x)
 | _=>False
def Qcd (w:WE):WL:=λρ Q=>w ρ λd ρ'=>Qjj d λds=>Q ds ρ'
theorem Qpu (h:EV X T m o oe w):IV X T m true tg oe (Qcd w):=by
 obtain ⟨te,pe,ge⟩:=h
 refine ⟨_,Qwr pe,λz R σ H W ρ Q RR s hw k=>?_⟩
 refine ge z R σ H W ρ _ _ s hw λv H1 W1 d ρ1 F p q=>?_
 obtain ⟨x,rfl⟩:∃x,d=D.str x:=by
  clear p
  cases d with
  | str x=>exact ⟨x,rfl⟩
  | _=>exact (show False from q).elim
 have hv:v=.str x:=by have:=p.rep;cases this;rfl
 subst hv
 obtain ⟨ha,q⟩:=q
 refine ⟨x,rfl,ha,k _ H1 W1 (sgn x) ρ1 ⟨p.sr,p.fr,p.calm⟩ (λi H2 W2 f=>?_) q⟩
 have hlen:(sgn x).length=x.cps.size:=by simp [sgn]
 refine ⟨λhi=>by show x.cps.size<=i;omega,λd hd=>?_⟩
 have hi:i<x.cps.size:=by have:=(List.getElem?_eq_some_iff.mp hd).1;omega
 refine ⟨hi,λv H3 y=>?_⟩
 obtain ⟨rfl,c,hc,rfl⟩:=y
 have hd':d=.str ⟨#[c]⟩:=by
  unfold sgn at hd
  rw [List.getElem?_map,Array.getElem?_toList,hc] at hd
  exact (Option.some.inj hd).symm
 subst hd'
 exact ⟨Same.refl _,[],.str _,λa m=>nomatch m⟩
def Qgh:GM
 | .lst xs,[.lst ys],k=>Qi ys=true/\xs.length+ys.length<=sizeLine/\k .non (.lst (xs++ys))
 | _,_,_=>False
theorem Qkl:MtD X "list.extend" Qgh:=by
 refine ⟨_,Qkj,λH d ds v xs F G k Q r nd rs ndG dis g q=>?_⟩
 cases d with
 | lst es =>
  cases ds with
  | nil=>exact (show False from g).elim
  | cons d ds =>
   cases ds with
   | cons _ _=>cases d <;> exact (show False from g).elim
   | nil =>
    cases d with
    | lst fs =>
     obtain ⟨u,rfl,rd⟩:=rs.at1
     obtain ⟨hp,hz,g⟩:=g
     cases r with
     | @lst l ys _ F e r9 =>
      cases rd with
      | @lst b zs _ G' e2 r2 =>
       obtain ⟨hG,r2⟩:=r2.pure hp
       obtain ⟨nl,nd⟩:=List.nodup_cons.mp nd
       have hlG:l∉([]:List Addr):=λh=>nomatch h
       refine ⟨l,b,ys,zs,rfl,rfl,e,e2,by rw [r9.length,r2.length];exact hz,?_⟩
       refine q .non l _ .non _ (l::F) List.mem_cons_self rfl (.lst Ql ?_) (List.nodup_cons.mpr ⟨nl,nd⟩) (λa ha=>.inl ha) .non g
       have:=(r9.upd (ob':=.lst (ys++zs)) e rfl nl).append (r2.upd (ob':=.lst (ys++zs)) e rfl hlG)
       simpa using this
    | _=>exact (show False from g).elim
 | _=>exact (show False from g).elim
end
end PV
variable {wc:PV.WE}
namespace PV
open PySem PySem.Spec L2
open Builtin.Str (glued tooLong subAt)
section
variable {m4:Bool}
def Vt (y z:Str):Bool:=0+z.length<=y.length && subAt y z 0
def Qdq:GS:=λy ds k=>match ds with
 | [.str z]=>k (.bl (Vt y z))
 | _=>False
theorem Qew:MsD X "str.startswith" Qdq:=by
 refine ⟨_,Qkh,λH y ds xs F k Q r g q=>?_⟩
 cases ds with
 | nil=>exact (show False from g).elim
 | cons d ds =>
  cases ds with
  | cons _ _=>cases d <;> exact (show False from g).elim
  | nil =>
   cases d with
   | str z =>
    obtain ⟨v,rfl,rd⟩:=r.at1
    cases rd
    exact ⟨y,z,rfl,rfl,q _ _ _ _ (.flat (.bl _)) g⟩
   | _=>exact (show False from g).elim
def Qs7:GS:=λy ds k=>match ds with
 | [.str z]=>(z.length == 0)=false/\y.length<=sizeLine/\k (.tup ((Zi y z).map D.str))
 | _=>False
theorem Qsr:MsD X "str.partition" Qs7:=by
 refine ⟨_,Qso,λH y ds xs F k Q r g q=>?_⟩
 cases ds with
 | nil=>exact (show False from g).elim
 | cons d ds =>
  cases ds with
  | cons _ _=>cases d <;> exact (show False from g).elim
  | nil =>
   cases d with
   | str z =>
    obtain ⟨v,rfl,rd⟩:=r.at1
    obtain ⟨h1,h2,g⟩:=g
    cases rd
    exact ⟨y,z,rfl,rfl,h1,h2,λl hl=>q _ _ _ [] ⟨Qj hl,.tup Ql (Reps.strs _),by simp,λb m=>nomatch m⟩ g⟩
   | _=>exact (show False from g).elim
def dSlS:D->Option Int->(D->Prop)->Prop
 | .str y,some i,k=>0<=i/\i.toNat<=y.length/\y.length<=sizeLine/\k (.str (J0 y i.toNat))
 | _,_,_=>False
def wSlS (w:WE) (wl:WO):WE:=λρ Q=>w ρ λd ρ1=>wl ρ1 λlo ρ2=>dSlS d lo λd'=>Q d' ρ2
theorem Reps.pick {K:Frag} {H:Hp} {ds:List D} {xs:List V} (r:Reps K H ds xs []):∀(js:List Nat),Reps K H (js.filterMap (ds[·]?)) (js.filterMap (xs[·]?)) []
 | []=>.nil
 | j::js=>by
  cases hx:ds[j]? with
  | none =>
   have:xs[j]? = none:=by
    have h1:=r.length
    have h2:=List.getElem?_eq_none_iff.mp hx
    exact List.getElem?_eq_none_iff.mpr (by omega)
   rw [List.filterMap_cons_none hx,List.filterMap_cons_none this]
   exact Reps.pick r js
  | some d =>
   obtain ⟨v,B,h1,h2,h3⟩:=r.get hx
   have:=List.sublist_nil.mp h3
   subst this
   rw [List.filterMap_cons_some hx,List.filterMap_cons_some h1]
   exact .cons (F:=[]) (G:=[]) h2 (Reps.pick r js)
def dSt:D->Option Int->Option Int->Option Int->(D->Prop)->Prop
 | .lst xs,lo,hi,c,k=>Qi xs=true/\c≠some 0/\c≠none/\(Zk xs lo hi c).length<=sizeLine/\k (.lst (Zk xs lo hi c))
 | _,_,_,_,_=>False
def wSt (w:WE) (wl wh wc:WO):WE:=λρ Q=>w ρ λd ρ1=>wl ρ1 λlo ρ2=>wh ρ2 λhi ρ3=>wc ρ3 λc ρ4=>dSt d lo hi c λd'=>Q d' ρ4
theorem Qji {α β:Type} {xs:List α} {ys:List β} (h:xs.length=ys.length) {lo c:Option Int}:(Zk xs lo hi c).length=(Zk ys lo hi c).length:=by
 unfold Zk
 rw [h]
 generalize sliceRange _ _ _=js
 induction js with
 | nil=>rfl
 | cons j js ih =>
  cases hx:xs[j]? with
  | none =>
   have:ys[j]? = none:=List.getElem?_eq_none_iff.mpr (by have:=List.getElem?_eq_none_iff.mp hx;omega)
   rw [List.filterMap_cons_none hx,List.filterMap_cons_none this];exact ih
  | some u =>
   have hj:=(List.getElem?_eq_some_iff.mp hx).1
   have:ys[j]? = some (ys[j]'(by omega)):=List.getElem?_eq_getElem _
   rw [List.filterMap_cons_some hx,List.filterMap_cons_some this,List.length_cons,List.length_cons,ih]
theorem Qyn {lo hi:Option Expr} {wl wh wc:WO} (he:EV X T m1 o1 e w) (hl:OV X T m2 lo wl) (hh:OV X T m3 hi wh) (hs:OV X T m4 (some se) wc) (hc:o1=true\/(m2 || (m3 || m4))=false:=by first | exact .inl rfl | exact .inr rfl) :
  EV X T (m1 || (m2 || (m3 || m4))) true (.Subscript e (.Slice lo hi (some se) p2) pos) (wSt w wl wh wc):=by
 obtain ⟨te,pe,ge⟩:=he
 obtain ⟨tl,pl,gl⟩:=hl
 obtain ⟨th,ph,gh⟩:=hh
 obtain ⟨ts,ps,gs⟩:=hs
 refine ⟨_,Qid pe pl ph ps,λz R σ H W ρ Q Q' s hw k=>?_⟩
 refine ge z R σ H W ρ _ _ s hw λv H1 W1 d ρ1 F p q=>?_
 refine gl z R σ H1 W1 ρ1 _ _ p.sr q λlo H2 W2 ρ2 p2 q2=>?_
 refine gh z R σ H2 W2 ρ2 _ _ p2.sr q2 λhi H3 W3 ρ3 p3 q3=>?_
 refine gs z R σ H3 W3 ρ3 _ _ p3.sr q3 λc H4 W4 ρ4 p4 q4=>?_
 have pp:=p2.seq (p3.seq p4)
 have r3:Rep X.K H4 d v F:=by
  rcases hc with hc | hc
  ·exact p.rep.keep pp.fr λa h=>((p.own hc).2 a h).2
  ·exact p.rep.same (pp.calm hc).1
 have fin:∀ad d' v' Fn,Fin X.K H4 ad d' v' Fn->Q d' ρ4->Q' v' ad:=λH' d' v' F' fi hq=>by
  refine k v' H' W4 d' ρ4 F' (Post.fin p4.sr (p.fr.trans pp.fr) (λh=>?_) fi.same fi.rep fi.nd fi.new) hq
  rw [Bool.or_eq_false_iff] at h
  obtain ⟨a1,a2,a3⟩:=p.calm h.1
  obtain ⟨b1,b2,b3⟩:=pp.calm h.2
  exact ⟨a1.trans b1,b2.trans a2,b3.trans a3⟩
 match d,r3,q4 with
 | .lst ds,r3,q4 =>
  cases r3 with
  | @lst a xs _ F e1 r9 =>
   obtain ⟨hp,h0,h00,hz,hq⟩:=q4
   obtain ⟨_,r9⟩:=r9.pure hp
   refine ⟨a,xs,rfl,.of e1,h0,h00,by rw [Qji r9.length];exact hz,λl hl=>fin _ _ _ [l] ⟨Qj hl,.lst Ql (Reps.same ?_ (Qj hl)),by simp,λb m=>by rw [List.mem_singleton.mp m];exact hl⟩ hq⟩
   unfold Zk
   rw [r9.length]
   exact r9.pick _
def Qoz (ds:List D) (k:List D->Prop):Prop:=match ds with
 | [.lst xs,.lst ys]=>Qi xs=true/\Qi ys=true/\k (Ua xs ys)
 | _=>False
def Qi1 (wr:WA):WL:=λρ Q=>wr ρ λds ρ'=>Qoz ds λl=>Q l ρ'
theorem Qs4 (hm:X.mg "zip" = none) (ha:AV X T m true [a,b] wr) (hg:Gl X "zip":=by rfl) (hs:starEach [a,b] X.env=[(false,eval a X.env),(false,eval b X.env)]:=by rfl)
  (hs2:starEach [b] X.env=[(false,eval b X.env)]:=by rfl):IV X T m true (.Tuple ts kt pt) (.Call (.Name "zip" p) [a,b] [] pos) (Qi1 wr):=by
 obtain ⟨ta,pa,ga⟩:=ha
 refine ⟨_,Qsc hg hm pa hs hs2,λz R σ H W ρ Q RR s hw k=>?_⟩
 refine ga z R σ H W ρ _ _ s hw λvs H1 W1 ds ρ1 F p q=>?_
 match ds,p,q with
 | [.lst xs,.lst ys],p,q =>
  obtain ⟨p1,p2,p3,p4,p5⟩:=p
  obtain ⟨hp1,hp2,q⟩:=q
  obtain ⟨nd,kF⟩:=p5 rfl
  obtain ⟨a1,us1,a2,us2,rfl,e1,q1,e2,q2,n1,n2⟩:∃(a1:Addr) (us1:List V) (a2:Addr) (us2:List V),vs=[.ref a1,.ref a2]/\H1 a1=some (.lst us1)/\Reps X.K H1 xs us1 []/\H1 a2=some (.lst us2)/\Reps X.K H1 ys us2 []/\¬W1 a1/\¬W1 a2:=by
   cases p4 with
   | cons h1 h2 =>
    cases h2 with
    | cons h2 h3 =>
     cases h3
     cases h1 with
     | @lst a1 us1 _ F1 e1 r1 =>
      cases h2 with
      | @lst a2 us2 _ F2 e2 r2=>exact ⟨a1,us1,a2,us2,rfl,e1,(r1.pure hp1).2,e2,(r2.pure hp2).2,(kF a1 (by simp)).2,(kF a2 (by simp)).2⟩
  refine ⟨a1,a2,us1,us2,rfl,.of e1,.of e2,k _ H1 W1 (Ua xs ys) ρ1 ⟨p1,p2,p3⟩ ?_ q⟩
  rw [Qix]
  intro i H2 W2 fr
  have e1':H2 a1=some (.lst us1):=fr.keep a1 _ e1 n1
  have e2':H2 a2=some (.lst us2):=fr.keep a2 _ e2 n2
  have l1:=q1.length
  have l2:=q2.length
  have hlen:(Ua xs ys).length=min xs.length ys.length:=by simp [Ua]
  refine ⟨λhi=>⟨us1,us2,.of e1',.of e2',by rw [hlen] at hi;omega⟩,λd hd=>?_⟩
  unfold Ua at hd
  rw [List.getElem?_map] at hd
  cases hq:(xs.zip ys)[i]? with
  | none=>rw [hq] at hd;cases hd
  | some pr =>
   rw [hq] at hd
   cases hd
   obtain ⟨hx,hy⟩:=List.getElem?_zip_eq_some.mp hq
   obtain ⟨v1,B1,g1,g2,g3⟩:=q1.get hx
   obtain ⟨v2,B2,f1,f2,f3⟩:=q2.get hy
   have:=List.sublist_nil.mp g3
   subst this
   have:=List.sublist_nil.mp f3
   subst this
   refine ⟨⟨us1,us2,v1,v2,.of e1',.of e2',g1,f1⟩,λv H3 yl=>?_⟩
   obtain ⟨x',y',pp,h1,h2,rfl,h3,rfl⟩:=yl us1 us2 (.of e1') (.of e2')
   rw [g1] at h1
   rw [f1] at h2
   cases h1
   cases h2
   refine ⟨Qj h3,[],.tup Ql ?_,λa m=>nomatch m⟩
   have rr1:Rep X.K (upd H2 pp (.tup [v1,v2])) pr.1 v1 []:=(g2.keep fr λa m=>nomatch m).same (Qj h3)
   have rr2:Rep X.K (upd H2 pp (.tup [v1,v2])) pr.2 v2 []:=(f2.keep fr λa m=>nomatch m).same (Qj h3)
   exact .cons (F:=[]) (G:=[]) rr1 (.cons (F:=[]) (G:=[]) rr2 .nil)
def dFs (c:Str):D->(D->Prop)->Prop
 | .int i,k=>i.natAbs.log2<1920/\(c++Str.ofString (toString i)).length<=sizeLine/\k (.str (c++Str.ofString (toString i)))
 | _,_=>False
def wFs (c:Str) (w:WE):WE:=λρ Q=>c.length<=sizeLine/\w ρ λd ρ'=>dFs c d λd'=>Q d' ρ'
theorem Q1w {c:Str} {k:Nat} (h:EV X T m o e w):EV X T m true (.JoinedStr [.Constant (.str c) k p1,.FormattedValue e (-1) none p3] pos) (wFs c w):=by
 obtain ⟨te,pe,ge⟩:=h
 refine ⟨_,Qse pe,λz R σ H W ρ Q Q' s hw kk=>⟨hw.1,?_⟩⟩
 refine ge z R σ H W ρ _ _ s hw.2 λv H1 W1 d ρ1 F p q=>?_
 match d,p,q with
 | .int i,p,q =>
  obtain ⟨h1,h2,q⟩:=q
  have hv:v=.int i:=by have:=p.rep;cases this;rfl
  subst hv
  exact ⟨i,rfl,h1,h2,kk _ H1 W1 _ ρ1 [] (Post.fin p.sr p.fr p.calm (Same.refl H1) (.str _) (by simp) (λb m=>nomatch m)) q⟩
end
end PV
namespace PV
open PySem PySem.Spec L2
def Qto:GA
 | [.dik kvs],k=>∃ns:List Int,kvs.map (·.1)=ns.map Sum.inl/\kvs.length<=100000/\∀out:List Int,out.Perm ns->out.Pairwise (· <= ·)->k (.lst (out.map D.int))
 | _,_=>False
theorem Qjt:Qto [.dik kvs] k=∃ns:List Int,kvs.map (·.1)=ns.map Sum.inl/\kvs.length<=100000/\∀out:List Int,out.Perm ns->out.Pairwise (· <= ·)->k (.lst (out.map D.int)):=rfl
end PV
variable {i:Int} {Q:List PV.D->PV.Env->Prop} {kts:List (List L2.Key × PV.D)} {kk:PV.D->PV.D->Prop}
namespace PV
open PySem PySem.Spec L2 PyProof.Rows
section
variable {k:Nat}
def Q12:G2
 | .int i,.int j,k=>i.natAbs<2 ^ 2000/\j.natAbs<2 ^ 2000/\k (.int (i*j))
 | _,_,_=>False
def Qcf (g:GI) (wr:WA):WE:=λρ Q=>wr ρ λds ρ1=>match ds with
 | d0::post=>Zw d0=true/\Qi post=true/\g (d0::post) λd _=>Q d ρ1
 | []=>False
theorem Qof (C:Cal X.prog X.w X.K X.mg X.base x k ps (spI X.K 0 g)) (hr:Room k X.A) (ha:AV X T false true (e::es) wr) (hg:Gl X x:=by rfl)
  (hdb:(x == ("__debug__" : Str))=false:=by decide) (he:starEach (e::es) X.env=(false,eval e X.env)::starEach es X.env:=by rfl) (hpl:(backTo pos (starEach es X.env)).any (·.1)=false:=by rfl) :
  EV X T false true (.Call (.Name x p) (e::es) [] pos) (Qcf g wr):=by
 obtain ⟨f,fd,F,hm,hk,hb⟩:=C
 obtain ⟨ta,pa,ga⟩:=ha
 refine ⟨_,Qf3 F hr hg hm hk hb .nil Qsh pa hdb he hpl,λz R σ H W ρ Q Q' s hw k=>?_⟩
 refine ga z R σ H W ρ _ _ s hw λvs H1 W1 ds ρ1 F p q=>?_
 obtain ⟨sm,rfl,rfl⟩:=p.calm rfl
 obtain ⟨nd,own⟩:=p.own rfl
 have rp:=p.rep
 match ds,rp,q with
 | d0::post,rp,q =>
  obtain ⟨hf,hp,q⟩:=q
  cases rp with
  | @cons _ v0 _ vs F0 G r0 rr =>
   obtain ⟨a,rfl,hF⟩:=r0.flat1 hf
   obtain ⟨hE,rr⟩:=rr.pure hp
   subst hF hE
   refine ⟨d0::post,a,_,by rw [List.append_nil];exact .cons (G:=[]) r0 rr,rfl,q,λv H' d d' F' rd' rd nd new kp hk=>?_⟩
   have ha:H a=none:=(own a (by simp)).1
   have same:Same H H':=λb ob eb=>kp b ob (sm b ob eb) λz=>by rw [z,ha] at eb;cases eb
   refine k v H' W1 d ρ1 F' (Post.fin s (FrW.refl H W1) (λ_=>⟨Same.refl H,rfl,rfl⟩) same rd nd λb hb=>?_) hk
   cases hq:H b with
   | none=>rfl
   | some ob=>have:=sm b ob hq;rw [new b hb] at this;cases this
def Q1s:GM
 | .dit kvs,[.tup xs],k=>oget (Zb xs) λks=>oget (valD kvs ks) λd=>d.pure=true/\k d (.dit (Qys kvs ks))
 | _,_,_=>False
def Q17:GA
 | [.dit xs],k=>k (.int xs.length)
 | _,_=>False
def rngS (lo c:Int) (n:Nat):List D:=(List.range n).map λ(i:Nat)=>.int (lo+(i:Int)*c)
def Quc (wr:WA):WL:=λρ Q=>wr ρ λds ρ'=>match ds with
 | [.int i,.int j,.int c]=>(-(2 ^ 60)<=i/\i<2 ^ 60 /\ -(2 ^ 60)<=j/\j<2 ^ 60)/\(c=2\/c=3)/\Q (rngS i c (Qqq i j c)) ρ'
 | _=>False
def Qu6 (ds:List D) (k:List D->Prop):Prop:=match ds with
 | [.tup xs]=>Qi xs=true/\k xs.reverse
 | _=>False
def wRev (wr:WA):WL:=λρ Q=>wr ρ λds ρ'=>Qu6 ds λl=>Q l ρ'
end
section
variable {j:Int} {kvs:List (List Key × D)}
theorem sz0:(0<=sizeLine)=True:=propext ⟨λ_=>trivial,λ_=>by decide⟩
theorem sz1:(1<=sizeLine)=True:=propext ⟨λ_=>trivial,λ_=>by decide⟩
theorem sz2:(2<=sizeLine)=True:=propext ⟨λ_=>trivial,λ_=>by decide⟩
theorem sz3:(3<=sizeLine)=True:=propext ⟨λ_=>trivial,λ_=>by decide⟩
theorem sz4:(4<=sizeLine)=True:=propext ⟨λ_=>trivial,λ_=>by decide⟩
theorem sz5:(5<=sizeLine)=True:=propext ⟨λ_=>trivial,λ_=>by decide⟩
theorem Qrp:Q17 [.dit kts] k=k (.int kts.length):=rfl
theorem Qv4 {n:Bool}:dIn n (.int i) (.tup xs) k=oget (inD (.int i) xs) λb=>k (.bl (xor n b)):=rfl
theorem Qro:Q12 (.int i) (.int j) k=(i.natAbs<2 ^ 2000/\j.natAbs<2 ^ 2000/\k (.int (i*j))):=rfl
theorem Qrn:Q1s (.dit kvs) [.tup xs] kk=oget (Zb xs) λks=>oget (valD kvs ks) λd=>d.pure=true/\kk d (.dit (Qys kvs ks)):=rfl
def cfOf (g:GI) (ds:List D) (Q:D->Prop):Prop:=match ds with
 | d0::post=>Zw d0=true/\Qi post=true/\g (d0::post) λd _=>Q d
 | []=>False
theorem Qg7 {Q:D->Env->Prop}:Qcf g wr ρ Q=wr ρ λds ρ1=>cfOf g ds λd=>Q d ρ1:=by
 unfold Qcf cfOf
 rfl
def Qo3 (ds:List D) (k:List D->Prop):Prop:=match ds with
 | [.int i,.int j,.int c]=>(-(2 ^ 60)<=i/\i<2 ^ 60 /\ -(2 ^ 60)<=j/\j<2 ^ 60)/\(c=2\/c=3)/\k (rngS i c (Qqq i j c))
 | _=>False
theorem Qjs:Quc wr ρ Q=wr ρ λds ρ'=>Qo3 ds λl=>Q l ρ':=rfl
theorem Qg6 {j c:Int} {k:List D->Prop}:Qo3 [.int i,.int j,.int c] k=((-(2 ^ 60)<=i/\i<2 ^ 60 /\ -(2 ^ 60)<=j/\j<2 ^ 60)/\(c=2\/c=3)/\k (rngS i c (Qqq i j c))):=rfl
theorem Qv3 {k:List D->Prop}:Qu6 [.tup xs] k=(Qi xs=true/\k xs.reverse):=rfl
theorem Qv5 {d0:D} {post:List D} {Q:D->Prop}:cfOf g (d0::post) Q=(Zw d0=true/\Qi post=true/\g (d0::post) λd _=>Q d):=rfl
end
end PV
namespace L2
open PySem PySem.Spec PyProof.Rows
def tFrz (te:TE):TE:=λσ H Q=>te σ H λv H1=>∃a xs,v=.ref a/\H1 a=some (.lst xs)/\∀o,Q v (upd H1 a (.frz o (.lst xs)))
theorem Qw3 (he:PE X e te):PE X e (tFrz te):=by
 intro pins s σ H Q I h
 refine thn (he pins s σ H _ I h) λv s1 ⟨x,H1,I1,r1,q⟩=>?_
 obtain ⟨a,xs,rfl,ha,q⟩:=q
 obtain ⟨z,its,n,rv,hob⟩:=(show Ye X.prog X.w H1 s1.heap a (.lst xs) from I1.hok a _ ha)
 exact ⟨.ref a,_,I1.write (x:=a) (e:=a) (o:=.frz _ (.lst xs)) (t':=s1.toks) (by rw [ha];trivial) (.inl rfl) (λb u _ q=>q) ⟨_,hob⟩ (show Ye X.prog X.w _ s1.heap a (.frz _ (.lst xs)) from ⟨hob,z,its,n,rv,hob⟩),r1,q _⟩
end L2
variable {k:List PV.D->Prop}
namespace PV
open PySem PySem.Spec L2 PyProof.Rows
def Qtb (d:D) (k:D->Prop):Prop:=match d with
 | .lst xs=>Qi xs=true/\k (.fls xs)
 | _=>False
def wFrz (w:WE):WE:=λρ Q=>w ρ λd ρ'=>Qtb d λd'=>Q d' ρ'
theorem Qp0 (h:EV X T m true e w):EV X T m true e (wFrz w):=by
 obtain ⟨te,pe,ge⟩:=h
 refine ⟨_,Qw3 pe,λz R σ H W ρ Q Q' s hw k=>?_⟩
 refine ge z R σ H W ρ _ _ s hw λv H1 W1 d ρ1 F p q=>?_
 cases d with
 | lst xs =>
  obtain ⟨hp,q⟩:=q
  obtain ⟨sr,fr,calm,rep,own⟩:=p
  obtain ⟨nd,own⟩:=own rfl
  cases rep with
  | @lst a ys _ G e1 r =>
   obtain ⟨hG,r⟩:=r.pure hp
   subst hG
   obtain ⟨ha,hW⟩:=own a List.mem_cons_self
   have hR:¬R a:=s.nr ha
   refine ⟨a,ys,rfl,e1,λob=>?_⟩
   have im:ImmK H1 (upd H1 a (.frz ob (.lst ys))):=Qbf e1 rfl
   have ne:∀{b:Addr} {u:HO},H b=some u->b≠a:=λ{b u} hb z=>by rw [z,ha] at hb;cases hb
   have sr':SR X.K T z R (upd H1 a (.frz ob (.lst ys))) W1 σ ρ1:=by
    obtain ⟨fp,s0⟩:=sr
    have off:∀i d,look ρ1 i=some d->∀b∈fp i,b≠a:=λi d hl b hb hz=>by
     subst hz
     cases ht:T.own i with
     | true=>exact hW ((s0.own i d hl ht).2 b hb)
     | false=>exact hR (s0.ro i d hl ht b hb)
    refine ⟨fp,s0.len,λb hb=>?_,λi d hl=>?_,s0.own,s0.ro,s0.wr,λb hb=>?_,s0.dis,s0.fix⟩
    ·obtain ⟨u,h1,h2⟩:=s0.wd b hb
     exact ⟨u,by rw [Qk (show b≠a from λhz=>hW (by rw [← hz];exact hb))];exact h1,h2⟩
    ·obtain ⟨v,h1,h2⟩:=s0.at_ i d hl
     exact ⟨v,h1,h2.frame im λb hb=>Qk (off i d hl b hb)⟩
    ·obtain ⟨u,h1,h2⟩:=s0.rd b hb
     exact ⟨u,by rw [Qk (show b≠a from λhz=>hR (by rw [← hz];exact hb))];exact h1,h2⟩
   have fr':FrW H W (upd H1 a (.frz ob (.lst ys))) W1:=by
    refine ⟨λb u hb hn=>?_,λb hb=>?_,λb u hb hi=>?_,fr.new⟩
    ·rw [Qk (ne hb)];exact fr.keep b u hb hn
    ·by_cases hz:b=a
     ·rw [hz];exact ha
     ·rw [Qk hz] at hb;exact fr.dom b hb
    ·rw [Qk (ne hb)];exact fr.imm b u hb hi
   refine k _ _ W1 (.fls xs) ρ1 [] ⟨sr',fr',λhm=>?_,.fls Ql (r.frame im λb hb=>nomatch hb),λ_=>⟨List.nodup_nil,λb hb=>nomatch hb⟩⟩ q
   obtain ⟨c1,c2,c3⟩:=calm hm
   exact ⟨λb u hb=>by rw [Qk (ne hb)];exact c1 b u hb,c2,c3⟩
 | _=>exact (show False from q).elim
def Qyi (d:D) (k:List D->Prop):Prop:=match d with
 | .fls ds=>k ds
 | _=>False
def Qzj (w:WE):WL:=λρ Q=>w ρ λd ρ'=>Qyi d λds=>Q ds ρ'
def Qxm (d:D) (k:List D->Prop):Prop:=match d with
 | .lst ds=>Qi ds=true/\k ds
 | _=>False
def Qzi (s:Nat):WL:=λρ Q=>oget (look ρ s) λc=>Qxm c λds=>Q ds (ρ.set s (some (.fls ds)))
theorem Qv1:Qxm (.lst xs) k=(Qi xs=true/\k xs):=rfl
theorem Qpb {k:D->Prop}:Qtb (.lst xs) k=(Qi xs=true/\k (.fls xs)):=rfl
theorem Qv2:Qyi (.fls xs) k=k xs:=rfl
end PV
variable {b o3:Bool} {g:Array PySem.GenState} {r:Int} {wg:PV.WG} {wgs:List PV.D->PV.Env->(PV.Env->Prop)->Prop}
namespace PV
open PySem PySem.Spec L2
def Q11:GA
 | [.lst ds],k=>Qi ds=true/\k (.lst ds.reverse)
 | _,_=>False
theorem Qne {k:D->Prop}:Q11 [.lst ds] k=(Qi ds=true/\k (.lst ds.reverse)):=rfl
theorem Zv {α:Type} (xs:List α) (j:Nat):L2.atI xs (j:Int)=xs[j]?:=by
 unfold L2.atI ixN
 rw [if_pos (by omega)]
 by_cases h:j<xs.length
 ·rw [if_pos (by omega)];simp
 ·rw [if_neg (by omega)];simp;omega
theorem Uv {α:Type} (xs:List α):L2.atI xs 0=xs[0]?:=Zv xs 0
theorem Qb9 {α:Type} (xs:List α):L2.atI xs 1=xs[1]?:=Zv xs 1
theorem Qy8 {α:Type} (xs:List α):L2.atI xs 2=xs[2]?:=Zv xs 2
theorem Q2a {α:Type} (xs:List α):L2.atI xs 3=xs[3]?:=Zv xs 3
theorem V0 {j:Nat} (h:j<n):ixN n (j:Int)=some j:=by
 unfold ixN
 rw [if_pos (by omega),if_pos (by omega)];simp
theorem Qs2 (h:0<n):ixN n 0=some 0:=V0 h
theorem Qx6 (h:1<n):ixN n 1=some 1:=V0 h
theorem Q1l (h:2<n):ixN n 2=some 2:=V0 h
theorem Q1k (h:3<n):ixN n 3=some 3:=V0 h
theorem Qfy {j:Nat} (h:j<n):seqIndex? (j:Int) n=some j:=(Qdp (V0 h)).1
theorem Qqy (h:0<n):seqIndex? 0 n=some 0:=Qfy h
theorem Qp {α:Type} {d:α} {k:α->Prop}:oget (some d) k=k d:=rfl
theorem Jz {i:Nat} {Q:D->Env->Prop}:wVar i ρ Q=oget (look ρ i) λd=>Q d ρ:=by
 unfold wVar oget
 cases look ρ i <;> rfl
section
variable {j:Int} {k:D->Prop} {c:Bool}
theorem Q0s:dAdd (.int i) (.int j) k=k (.int (i+j)):=rfl
theorem Qvy:dAdd (.str x) (.str y) k=(x.length+y.length<=sizeLine/\k (.str (x++y))):=rfl
theorem Qvx:dAdd (.tup xs) (.tup ys) k=(Qi xs=true/\Qi ys=true/\xs≠[]/\xs.length+ys.length<=sizeLine/\k (.tup (xs++ys))):=rfl
theorem Qvz:dAdd (.lst xs) (.lst ys) k=(Qi xs=true/\Qi ys=true/\xs.length+ys.length<=sizeLine/\k (.lst (xs++ys))):=rfl
theorem Qjn:dSub (.int i) (.int j) k=k (.int (i-j)):=rfl
theorem Qvh:dMul (.int i) (.int j) k=(CMul i j/\k (.int (i*j))):=rfl
theorem Qvg:dMul (.lst xs) (.int j) k=(Qi xs=true /\ -(2 ^ 63)<=j/\j<2 ^ 63/\xs.length*j.toNat<=sizeLine/\k (.lst (List.replicate j.toNat xs).flatten)):=rfl
theorem Q0r:dDiv (.int i) (.int j) k=((0<j/\j<1073741824/\k (.int (i / j)))\/(j<0/\j.natAbs<1073741824/\k (.int (i.fdiv j)))):=rfl
theorem Q0j:dMod (.int i) (.int j) k=((0<j/\k (.int (i % j)))\/(j<0/\k (.int (i.fmod j)))):=rfl
theorem Q0f:dPow (.int i) (.int j) k=(CPow i j/\k (.int (i ^ j.toNat))):=rfl
theorem Qh9:dNeg (.int i) k=k (.int (-i)):=rfl
theorem Qei:dEq (.int i) (.int j) k=k (.bl (decide (i=j))):=rfl
theorem Qra:dNe (.int i) (.int j) k=k (.bl (!decide (i=j))):=rfl
theorem Q0q:dEq (.bl b) (.bl c) k=k (.bl (b == c)):=rfl
theorem Q0i:dNe (.bl b) (.bl c) k=k (.bl (!(b == c))):=rfl
theorem U9:dEq (.str x) (.str y) k=k (.bl (decide (x=y))):=rfl
theorem Qm6:dNe (.str x) (.str y) k=k (.bl (!decide (x=y))):=rfl
theorem Qrg:dEq (.tup xs) d k=(eqOk 9 (.tup xs)=true/\eqOk 9 d=true/\(.tup xs=d->k (.bl true))/\(.tup xs≠d->k (.bl false))):=by cases d <;> rfl
theorem Qvf:dNe (.tup xs) d k=(eqOk 9 (.tup xs)=true/\eqOk 9 d=true/\(.tup xs=d->k (.bl false))/\(.tup xs≠d->k (.bl true))):=by cases d <;> rfl
theorem Q0p:dEq (.lst xs) d k=(eqOk 9 (.lst xs)=true/\eqOk 9 d=true/\(.lst xs=d->k (.bl true))/\(.lst xs≠d->k (.bl false))):=by cases d <;> rfl
theorem Q0h:dNe (.lst xs) d k=(eqOk 9 (.lst xs)=true/\eqOk 9 d=true/\(.lst xs=d->k (.bl false))/\(.lst xs≠d->k (.bl true))):=by cases d <;> rfl
theorem Gy {f:Int->Int->Bool}:dCmp f (.int i) (.int j) k=k (.bl (f i j)):=rfl
theorem Gx:dIx (.lst xs) (.int i) k=oget (L2.atI xs i) k:=rfl
theorem Qc8:dIx (.tup xs) (.int i) k=oget (L2.atI xs i) k:=rfl
theorem Qvl:dIx (.kls xs) (.int i) k=oget (L2.atI xs i) k:=rfl
theorem Qvo:dIx (.dik kvs) (.int i) k=oget (valD kvs (.inl i)) k:=rfl
theorem Qvn:dIx (.dik kvs) (.str x) k=oget (valD kvs (.inr x)) k:=rfl
theorem Qvm:dIx (.dit kts) (.tup xs) k=oget (Zb xs) λks=>oget (valD kts ks) k:=rfl
theorem Qeg:dLen [.lst xs] k=k (.int xs.length):=rfl
theorem Qo8:dLen [.tup xs] k=k (.int xs.length):=rfl
theorem Qvi:dLen [.kls xs] k=k (.int xs.length):=rfl
theorem Qvj:dLen [.dik kvs] k=k (.int kvs.length):=rfl
theorem Q0m:dInt [.int i] k=k (.int i):=rfl
theorem Qeh:dInt [.bl b] k=k (.int (if b then 1 else 0)):=rfl
theorem Qv0:dAbs [.int i] k=k (.int (if i<0 then -i else i)):=rfl
theorem Q0k:Q14 [.int i,.int j] k=k (.int (if j<i then j else i)):=rfl
theorem Q0l:Q16 [.int i,.int j] k=k (.int (if j > i then j else i)):=rfl
theorem Qrc:Qtr [.lst xs] k=(Qi xs=true/\k (.lst xs)):=rfl
theorem Qrb:Qtr [.tup xs] k=(Qi xs=true/\k (.lst xs)):=rfl
theorem Qrd:Qtr [.kls xs] k=(Qi xs=true/\k (.lst xs)):=rfl
theorem Qg4:Qbj [.lst xs] k=(Qi xs=true/\k (.tup xs)):=rfl
theorem Qu9:Qbj [.tup xs] k=(Qi xs=true/\k (.tup xs)):=rfl
theorem Qq8:Qyw [.int i] k=(0<=i/\i<=1000/\k (.lst (rngD 0 i.toNat))):=rfl
theorem Qia {t:Ty}:dIsi [d,.ty t] k=oget (isiD d t) λb=>k (.bl b):=rfl
theorem Q0d {lo:Option Int}:dSl (.lst xs) lo hi k=(Qi xs=true/\k (.lst (cutD xs lo hi))):=rfl
theorem Q0e {lo:Option Int}:dSl (.kls xs) lo hi k=(Qi xs=true/\k (.lst (cutD xs lo hi))):=rfl
theorem Q0c {lo:Option Int}:dSl (.tup xs) lo hi k=(Qi xs=true/\¬(HT.sIx xs.length 0 lo=0/\HT.sIx xs.length xs.length hi=xs.length)/\k (.tup (cutD xs lo hi))):=rfl
theorem Qjo:dSet (.lst xs) (.int i) d k=oget (ixN xs.length i) λn=>k (.lst (xs.set n d)):=rfl
theorem Qq6:dSet (.dik kvs) (.int i) d k=(kvs.length<sizeLine/\k (.dik (putD kvs (.inl i) d))):=rfl
theorem Qq5:dSet (.dik kvs) (.str x) d k=(kvs.length<sizeLine/\k (.dik (putD kvs (.inr x) d))):=rfl
theorem Qq4:dSet (.dit kts) (.tup xs) d k=(kts.length<sizeLine/\oget (Zb xs) λks=>k (.dit (putD kts ks d))):=rfl
theorem Qvr {n:Bool}:dIn n (.int i) (.dik kvs) k=k (.bl (xor n (valD kvs (.inl i)).isSome)):=rfl
theorem Qvq {n:Bool}:dIn n (.str x) (.dik kvs) k=k (.bl (xor n (valD kvs (.inr x)).isSome)):=rfl
theorem Qvp {n:Bool}:dIn n (.tup xs) (.dit kts) k=oget (Zb xs) λks=>k (.bl (xor n (valD kts ks).isSome)):=rfl
theorem Qre {n:Bool}:dIn n (.str x) (.str y) k=k (.bl (xor n (!(Builtin.Str.occurrences y x 0 y.length 1).isEmpty))):=rfl
end
section
variable {j:Int}
theorem Qm7:Qbg (.lst xs) [d] kk=(xs.length<sizeLine/\kk .non (.lst (xs++[d]))):=rfl
theorem Qq9:Qyd (.lst xs) [.int i] kk=(-(2 ^ 63)<=i/\i<2 ^ 63/\oget (seqIndex? i xs.length) λj=>oget xs[j]? λd=>d.pure=true/\kk d (.lst (xs.eraseIdx j))):=rfl
theorem Q0g:gPop (.lst xs) [] kk=oget xs[xs.length-1]? λd=>d.pure=true/\kk d (.lst xs.dropLast):=rfl
theorem Qri:Qyg (.lst xs) [] kk=kk .non (.lst []):=rfl
end
section
variable {j:Int} {k:D->Prop}
theorem Qvw (h:0<j) (h2:j<1073741824):dDiv (.int i) (.int j) k=k (.int (i / j)):=by
 rw [Q0r]
 apply propext
 exact ⟨λq=>q.elim (λz=>z.2.2) (λz=>absurd z.1 (by omega)),λq=>.inl ⟨h,h2,q⟩⟩
theorem Qax (h:0<j):dMod (.int i) (.int j) k=k (.int (i % j)):=by
 rw [Q0j]
 apply propext
 exact ⟨λq=>q.elim (λz=>z.2) (λz=>absurd z.1 (by omega)),λq=>.inl ⟨h,q⟩⟩
theorem Qef (h:-18446744073709551616<i) (h2:i<18446744073709551616):dMul (.int i) (.int j) k=k (.int (i*j)):=by
 rw [Qvh]
 exact propext ⟨λq=>q.2,λq=>⟨.inl ⟨by omega,by omega⟩,q⟩⟩
theorem Qjq (h:-18446744073709551616<j) (h2:j<18446744073709551616):dMul (.int i) (.int j) k=k (.int (i*j)):=by
 rw [Qvh]
 exact propext ⟨λq=>q.2,λq=>⟨.inr ⟨by omega,by omega⟩,q⟩⟩
theorem Qee (h:0<=j) (h2:j<=1000000) (h3:-18446744073709551616<i) (h4:i<18446744073709551616):dPow (.int i) (.int j) k=k (.int (i ^ j.toNat)):=by
 rw [Q0f]
 exact propext ⟨λq=>q.2,λq=>⟨⟨h,h2,by omega⟩,q⟩⟩
end
def blOf (d:D) (k:Bool->Prop):Prop:=match d with
 | .bl b=>k b
 | _=>False
theorem r_bl {Q:Bool->Env->Prop}:wBl w ρ Q=w ρ λd ρ'=>blOf d λb=>Q b ρ':=by
 show (w ρ λd ρ'=>match d with | .bl b=>Q b ρ' | _=>False)=_
 rfl
theorem Q3 {k:Bool->Prop}:blOf (.bl b) k=k b:=rfl
def Qh1 (d:D) (k:Bool->Prop):Prop:=oget (truD d) k
theorem X8 {Q:Bool->Env->Prop}:wTru w ρ Q=w ρ λd ρ'=>Qh1 d λb=>Q b ρ':=by
 unfold wTru
 congr 1
 funext d ρ'
 unfold Qh1 oget
 cases truD d <;> rfl
theorem Zh {k:Bool->Prop}:Qh1 (.bl b) k=k b:=rfl
theorem Qvc {k:Bool->Prop}:Qh1 (.int i) k=k (i != 0):=rfl
theorem Qvb {k:Bool->Prop}:Qh1 (.lst xs) k=k (!xs.isEmpty):=rfl
theorem Qva {k:Bool->Prop}:Qh1 (.tup xs) k=k (!xs.isEmpty):=rfl
def Qm1 (d:D) (k:List D->Prop):Prop:=match d with
 | .tup ds=>Qi ds=true/\k ds
 | .lst ds=>k ds
 | .kc (.tup ks)=>k (ks.map kcD)
 | _=>False
theorem Qm5:Qi2 w ρ Q=w ρ λd ρ'=>Qm1 d λds=>Q ds ρ':=by
 show (w ρ λd ρ'=>match d with | .tup ds=>Qi ds=true/\Q ds ρ' | .lst ds=>Q ds ρ' | .kc (.tup ks)=>Q (ks.map kcD) ρ' | _=>False)=_
 rfl
theorem Qjp:Qm1 (.tup xs) k=(Qi xs=true/\k xs):=rfl
theorem Qo6:Qm1 (.lst xs) k=k xs:=rfl
def Qxs (d:D) (k:List D->Prop):Prop:=match d with
 | .kls ds=>k ds
 | _=>False
theorem Qvk:Qqf w ρ Q=w ρ λd ρ'=>Qxs d λds=>Q ds ρ':=by
 show (w ρ λd ρ'=>match d with | .kls ds=>Q ds ρ' | _=>False)=_
 rfl
theorem Qo9:Qxs (.kls xs) k=k xs:=rfl
def Qo0 (d:D) (k:List D->Prop):Prop:=match d with
 | .dik kvs=>k (kvs.map (·.2))
 | _=>False
theorem Qu8:Qzd w ρ Q=w ρ λd ρ'=>Qo0 d λds=>Q ds ρ':=by
 show (w ρ λd ρ'=>match d with | .dik kvs=>Q (kvs.map (·.2)) ρ' | _=>False)=_
 rfl
theorem Qq3:Qo0 (.dik kvs) k=k (kvs.map (·.2)):=rfl
def Qs5 (d:D) (k:Option Int->Prop):Prop:=match d with
 | .int i=>k (some i)
 | _=>False
theorem Vo {Q:Option Int->Env->Prop}:Y2 w ρ Q=w ρ λd ρ'=>Qs5 d λi=>Q i ρ':=by
 show (w ρ λd ρ'=>match d with | .int i=>Q (some i) ρ' | _=>False)=_
 rfl
theorem Zg {k:Option Int->Prop}:Qs5 (.int i) k=k (some i):=rfl
theorem Qg5 {Q:D->Env->Prop}:Qfq wa wb ρ Q=wa ρ λd ρ1=>blOf d λc=>if c=true then wb ρ1 Q else Q (.bl false) ρ1:=by
 show (wa ρ λd ρ1=>match d with | .bl c=>if c=true then wb ρ1 Q else Q (.bl false) ρ1 | _=>False)=_
 rfl
theorem Qve {Q:D->Env->Prop}:wOrV wa wb ρ Q=wa ρ λd ρ1=>blOf d λc=>if c=true then Q (.bl true) ρ1 else wb ρ1 Q:=by
 show (wa ρ λd ρ1=>match d with | .bl c=>if c=true then Q (.bl true) ρ1 else wb ρ1 Q | _=>False)=_
 rfl
theorem Qo7 {Q:D->Env->Prop}:Qqh wa ρ Q=wa ρ λd ρ1=>blOf d λc=>Q (.bl (!c)) ρ1:=by
 show (wa ρ λd ρ1=>match d with | .bl c=>Q (.bl (!c)) ρ1 | _=>False)=_
 rfl
def Qo5 (ds:List D) (k:List D->Prop):Prop:=match ds with
 | [.int j]=>-(2 ^ 62)<=j/\j<2 ^ 62/\k (rngD 0 j.toNat)
 | _=>False
theorem Qed:Qfo wr ρ Q=wr ρ λds ρ'=>Qo5 ds λl=>Q l ρ':=by
 show (wr ρ λds ρ'=>match ds with | [.int j]=>-(2 ^ 62)<=j/\j<2 ^ 62/\Q (rngD 0 j.toNat) ρ' | _=>False)=_
 rfl
theorem Qaw {j:Int}:Qo5 [.int j] k=(-(2 ^ 62)<=j/\j<2 ^ 62/\k (rngD 0 j.toNat)):=rfl
def Qo4 (ds:List D) (k:List D->Prop):Prop:=match ds with
 | [.int i,.int j]=>(-(2 ^ 62)<=i/\i<2 ^ 62 /\ -(2 ^ 62)<=j/\j<2 ^ 62)/\k (rngD i (j-i).toNat)
 | _=>False
theorem Qvd:Qzk wr ρ Q=wr ρ λds ρ'=>Qo4 ds λl=>Q l ρ':=by
 show (wr ρ λds ρ'=>match ds with | [.int i,.int j]=>(-(2 ^ 62)<=i/\i<2 ^ 62 /\ -(2 ^ 62)<=j/\j<2 ^ 62)/\Q (rngD i (j-i).toNat) ρ' | _=>False)=_
 rfl
theorem Qq7 {j:Int}:Qo4 [.int i,.int j] k=((-(2 ^ 62)<=i/\i<2 ^ 62 /\ -(2 ^ 62)<=j/\j<2 ^ 62)/\k (rngD i (j-i).toNat)):=rfl
def Qp3 (ds:List D) (k:List D->Prop):Prop:=match ds with
 | [.tup es]=>Qi es=true/\k (Qgk 0 es)
 | _=>False
theorem Qvv:Qzu wr ρ Q=wr ρ λds ρ'=>Qp3 ds λl=>Q l ρ':=by
 show (wr ρ λds ρ'=>match ds with | [.tup es]=>Qi es=true/\Q (Qgk 0 es) ρ' | _=>False)=_
 rfl
theorem Qrh:Qp3 [.tup xs] k=(Qi xs=true/\k (Qgk 0 xs)):=rfl
theorem Qvs {Q:Env->Prop}:Q1r n wgs (.tup xs) ρ Q=(xs.length=n/\wgs xs ρ Q):=rfl
theorem Qrf {r:List D} {Q:Env->Prop}:Qyf wg wgs (d::r) ρ Q=wg d ρ λρ'=>wgs r ρ' Q:=rfl
theorem Qvt {Q:Env->Prop}:Q1t [] ρ Q=Q ρ:=rfl
theorem Qjm:tyD (some (.lst xs)) t=(t == "list"):=rfl
theorem Q0b {xs:List (Key × D)}:tyD (some (.dik xs)) t=(t == "dict"):=rfl
theorem Q0a {xs:List (List Key × D)}:tyD (some (.dit xs)) t=(t == "dict"):=rfl
theorem Z6:Zw (.lst xs)=Qi xs:=rfl
theorem Q0o {xs:List (Key × D)}:Zw (.dik xs)=xs.all λkv=>kv.2.pure:=rfl
theorem Q0n {xs:List (List Key × D)}:Zw (.dit xs)=xs.all λkv=>kv.2.pure:=rfl
theorem Vy {α:Type} {f:α->D} {l:List α} (h:∀a∈l,(f a).pure=true):Qi (l.map f)=true:=by
 rw [Qel]
 intro x hx
 obtain ⟨a,ha,rfl⟩:=List.mem_map.mp hx
 exact h a ha
theorem Qe6 {α:Type} {f:α->D} {l:List α} (h:∀a∈l,eqOk n (f a)=true):Ub n (l.map f)=true:=by
 rw [Qlm]
 intro x hx
 obtain ⟨a,ha,rfl⟩:=List.mem_map.mp hx
 exact h a ha
def Qy0 (ds:List D) (wt:WT) (we:WE) (ρ1:Env) (ix:List Nat) (Q:D->Env->Prop):Prop:=∃I:Nat->List D->Prop,I 0 [] /\
 (∀i d ys,ds[i]? = some d->I i ys->ys.length<sizeLine/\wt (blkE ρ1 d ix) λb _=>if b=true then we (blkE ρ1 d ix) (λy _=>I (i+1) (ys++[y])) else I (i+1) ys) /\
 ∀ys,I ds.length ys->ys.length<=sizeLine/\Q (.lst ys) ρ1
theorem Qjr {Q:D->Env->Prop}:Qmr wl wt we ix ρ Q=wl ρ λds ρ1=>Qy0 ds wt we ρ1 ix Q:=rfl
theorem Qe9 {Q:D->Env->Prop} (f:D->D) (hz:ds.length<sizeLine) (he:∀d∈ds,∀Q':D->Env->Prop,Q' (f d) (blkE ρ1 d ix)->we (blkE ρ1 d ix) Q') (hQ:Q (.lst (ds.map f)) ρ1):Qy0 ds wAll we ρ1 ix Q:=by
 refine ⟨λi ys=>ys=(ds.take i).map f/\i<=ds.length,⟨by simp,Nat.zero_le _⟩,λi d ys hd ⟨hy,hi⟩=>?_,λys ⟨hy,_⟩=>?_⟩
 ·have hlt:=(List.getElem?_eq_some_iff.mp hd).1
  refine ⟨by rw [hy];simp;omega,?_⟩
  simp only [wAll,reduceIte]
  refine he d (List.mem_of_getElem? hd) _ ⟨?_,hlt⟩
  rw [hy,List.take_add_one,hd]
  simp
 ·rw [hy,List.take_length]
  exact ⟨by simp;omega,hQ⟩
def forI (ds:List D) (wg:WG) (wb:WS) (P:EndsP) (ρ1:Env):Prop:=∃I:Nat->Env->Prop,I 0 ρ1 /\
 (∀i d ρ,ds[i]? = some d->I i ρ->wg d ρ λρ'=>wb { P with nx:=I (i+1),ct:=I (i+1),bk:=P.nx } ρ')/\∀ρ,I ds.length ρ->P.nx ρ
theorem Qc9 {wb:WS} {P:EndsP}:wFor wl wg wb P ρ=wl ρ λds ρ1=>Qi ds=true/\forI ds wg wb P ρ1:=rfl
def forR (ds:List D) (i₀:Nat) (wb:WS) (P:EndsP) (ρ1:Env):Prop:=∃I:Nat->Env->Prop,I 0 ρ1 /\
 (∀i d ρ,ds[i]? = some d->I i ρ->wb { P with nx:=I (i+1),ct:=I (i+1),bk:=P.nx } (ρ.set i₀ (some d)))/\∀ρ,I ds.length ρ->P.nx ρ
theorem Qvu {i₀:Nat} {wb:WS} {P:EndsP}:Qzt wl i₀ wb P ρ=wl ρ λds ρ1=>forR ds i₀ wb P ρ1:=rfl
section
variable {o2:Bool} {b:Expr}
def Q15:GA
 | [.lst ds],k=>∃ns:List Int,ds=ns.map .int/\0<ns.length/\∀M,M∈ns->(∀b,b∈ns->b<=M)->k (.int M)
 | _,_=>False
def Qg2 (g g':G2) (wa wb wc:WE):WT:=λρ Q=>wa ρ λx ρ1=>wb ρ1 λy ρ2=>g x y λd=>blOf d λk=>if k=true then wc ρ2 λu ρ3=>g' y u λd'=>blOf d' λk'=>Q k' ρ3 else Q false ρ2
theorem Qmt {op':CmpOp} {g g':G2} (ho:OpD X (compareOp op) g) (ho':OpD X (compareOp op') g') (ha:EV X T false o1 a wa) (hb:EV X T false o2 b wb) (hc:EV X T false o3 c wc)
  (hm:lastMarks [op,op'] [b,c]=false:=by with_unfolding_all rfl):TV X T false (.Compare a [op,op'] [b,c] pos) (Qg2 g g' wa wb wc):=by
 obtain ⟨r,ro,gr⟩:=ho
 obtain ⟨r',ro',gr'⟩:=ho'
 obtain ⟨ta,pa,ga⟩:=ha
 obtain ⟨tb,pb,gb⟩:=hb
 obtain ⟨tc,pc,gc⟩:=hc
 refine ⟨_,Qng ro ro' pa pb pc hm,λz R σ H W ρ Q Q' s hw k=>?_⟩
 refine two ga gb (.inr rfl) s hw λx y H2 W2 d1 d2 ρ2 F1 F2 s2 f2 c2 r1 r2 _ _ _ q2=>?_
 refine gr H2 d1 d2 x y F1 F2 _ _ r1 r2 q2 λv H3 d F fi hk=>?_
 have f3:=f2.trans (FrW.same W2 fi.same)
 cases d with
 | bl k0 =>
  refine ⟨k0,Qau fi.rep,?_⟩
  have hk:(if k0=true then wc ρ2 λu ρ3=>g' d2 u λd'=>blOf d' λk'=>Q k' ρ3 else Q false ρ2):=hk
  cases k0 with
  | false =>
   rw [if_neg Bool.false_ne_true] at hk ⊢
   exact ⟨false,rfl,k false H3 W2 ρ2 ⟨s2.same fi.same,f3,λh=>⟨(c2 h).1.trans fi.same,(c2 h).2⟩⟩ hk⟩
  | true =>
   rw [if_pos rfl] at hk ⊢
   refine gc z R σ H3 W2 ρ2 _ _ (s2.same fi.same) hk λu H4 W4 e ρ4 F' p q=>?_
   obtain ⟨a1,a2,a3⟩:=p.calm rfl
   refine gr' H4 d2 e y u F2 F' _ _ ((r2.same fi.same).same a1) p.rep q λv5 H5 d5 F5 fi5 hk5=>?_
   cases d5 with
   | bl k5=>exact ⟨k5,Qau fi5.rep,k k5 H5 W4 ρ4 ⟨p.sr.same fi5.same,(f3.trans p.fr).trans (FrW.same W4 fi5.same),λh=>⟨(((c2 h).1.trans fi.same).trans a1).trans fi5.same,a2.trans (c2 h).2.1,a3.trans (c2 h).2.2⟩⟩ hk5⟩
   | _=>exact hk5.elim
 | _=>exact hk.elim
end
theorem Qnd {k:D->Prop}:Q15 [.lst ds] k=(∃ns:List Int,ds=ns.map .int/\0<ns.length/\∀M,M∈ns->(∀b,b∈ns->b<=M)->k (.int M)):=rfl
end PV
namespace PV
open PySem PySem.Spec L2
open PyProof.Rows (envOfC)
abbrev GX:=List D->(D->Prop)->(D->Prop)->Prop
end PV
variable {k:PV.D->Prop} {sl:Array (Option PySem.Value)}
namespace PV
open PySem PySem.Spec L2
open PyProof.Rows (envOfC)
abbrev atN (K:Frag) (x:Str) (C:Addr):Prop:=nsIn K mainGlobals x=some (some (.ref C))
def Qbs (X:Cx) (T:Tg) (x:Str) (C:Addr):Prop:=∀pins σ H s h1 e vs,Inv X pins σ H s->Heap.MadeExcOf s.heap h1 e (.ref C) vs->T.xe (.obj x []) σ H->X.xe (.ref e) { s with heap:=h1 }
def EndsP.un (P:EndsP) (j:Nat):EndsP:={ nx:=λρ=>P.nx (ρ.set j none),rt:=P.rt,bk:=λρ=>P.bk (ρ.set j none),ct:=λρ=>P.ct (ρ.set j none) }
def Qud (x:Str) (wr:WA):WS:=λP ρ=>wr ρ λds ρ'=>ds.length<=1000/\P.xc (.obj x []) ρ'
theorem SR.unset {W:Addr->Prop} {j:Nat} (hj:j∉T.io) (s:SR K T z R H W σ ρ):SR K T z R H W (σ.set j none) (ρ.set j none):=by
 obtain ⟨fp,s⟩:=s
 have key:∀i d,look (ρ.set j none) i=some d->i≠j/\look ρ i=some d:=λi d h=>by
  rw [Gm] at h
  split at h
  ·cases h
  ·rename_i hn
   refine ⟨λz=>hn ⟨z,?_⟩,h⟩
   rw [← z];exact Qge h
 refine ⟨fp,by rw [List.length_set,List.length_set];exact s.len,s.wd,λi d h=>?_,λi d h=>s.own i d (key i d h).2,λi d h=>s.ro i d (key i d h).2,s.wr,s.rd,λi k d d' h h'=>s.dis i k d d' (key i d h).2 (key k d' h').2,λi hi=>?_⟩
 ·obtain ⟨h1,h2⟩:=key i d h
  obtain ⟨v,e1,e2⟩:=s.at_ i d h2
  exact ⟨v,by rw [List.getElem?_set_ne (Ne.symm h1)];exact e1,e2⟩
 ·rw [List.getElem?_set_ne (λz=>hj (by rw [z];exact hi))]
  exact s.fix i hi
def Ql6 (g:GX):GA:=λds k=>g ds k λ_=>False
def Qqe (i:Nat) (g:GX) (wr:WA) (cat:Str->Bool) (j:Nat) (wh:WS):WS:=λP ρ=>wr ρ λds ρ'=>g ds (λd=>P.nx (ρ'.set i (some d))) λd=>match d with
 | .obj x []=>cat x=true/\wh (P.un j) (ρ'.set j (some (.obj x [])))
 | _=>False
def Qac (es:Array DictEntry):Bool:=es.toList.all λe=>match e.key with
 | .str _ _=>true
 | _=>false
theorem Qh3 {es:Array DictEntry} (h:Qac es=true):StrKeys es:=λe he=>by
 have:=List.all_eq_true.mp h e (by simpa using he)
 split at this
 ·rename_i n t q;exact ⟨n,t,q⟩
 ·cases this
theorem Q1g {a:Addr} {es:Array DictEntry} {ep:Nat} (X:K.In h) (l:K.lookup a=some ⟨oc,od,.dict es ep,sl⟩) (s:Qac es=true):h.Ns a (nsFind es):=⟨_,es,ep,X _ _ l,rfl,Qh3 s,λ_=>rfl⟩
theorem Qnx:kitOne K (.ref C) (.ref C)=some true:=by unfold kitOne;rw [if_pos (by simp)]
theorem Qdo {D:Addr} (hne:(Value.ref C == Value.ref D)=false) (h1:PySem.W.clsIn K D=some cd) (h2:typeIn K (.ref D)=some (.type "type")) (h3:PySem.W.subIn K (.ref C) (.ref D)=some b):kitOne K (.ref C) (.ref D)=some b:=by
 unfold kitOne
 rw [if_neg (by rw [hne];decide)]
 show (if ((PySem.W.clsIn K D).isSome && typeIn K (.ref D) == some (.type "type"))=true then PySem.W.subIn K (.ref C) (.ref D) else none)=some b
 rw [if_pos (by rw [h1,h2];rfl)]
 exact h3
theorem Qsy (h3:PySem.W.subIn K (.ref C) (.type "ValueError")=some b):kitOne K (.ref C) (.type "ValueError")=some b:=by
 unfold kitOne
 rw [if_neg (by intro z;cases (beq_iff_eq.mp z))]
 show (if PySem.W.kitMeta "ValueError" = true then PySem.W.subIn K (.ref C) (.type "ValueError") else none)=some b
 rw [if_pos (by decide +kernel)]
 exact h3
theorem Qyj {D:Addr} (h0:PySem.W.subIn K (.ref D) (.type "BaseException")=some true) (h1:PySem.W.clsIn K D=some cd) (h2:typeIn K (.ref D)=some (.type "type")) (h3:PySem.W.subIn K (.ref C) (.ref D)=some b):exmOne K (.ref C) (.ref D)=some b:=by
 unfold exmOne
 rw [if_pos (by rw [h0];rfl)]
 show (if ((PySem.W.clsIn K D).isSome && typeIn K (.ref D) == some (.type "type"))=true then PySem.W.subIn K (.ref C) (.ref D) else none)=some b
 rw [if_pos (by rw [h1,h2];rfl)]
 exact h3
section
variable {q:Pos} {v:Str} {cv:V} {cl:Value} {i:Nat}
def wIsx (i:Nat) (tab:Str->Option Bool):WE:=λρ Q=>oget (look ρ i) λd=>match d with
 | .obj x _=>oget (tab x) λk=>Q (.bl k) ρ
 | _=>False
theorem Qe4 {tab:Str->Option Bool} (hb:X.mg "isinstance" = none) (hy:PE X (.Name y q) (tC cv)) (hcv:clsV cv=some cl) (ht:∀x k C,tab x=some k->atN X.K x C->ExcQ X.K C/\kitOne X.K (.ref C) cl=some k)
  (hN:X.N[i]? = some v:=by rfl) (hv:Vis X.env.scope v:=by first | exact Or.inl rfl | exact Or.inr (Or.inl rfl) | exact Or.inr (Or.inr rfl)) (hg:Gl X "isinstance":=by rfl) (hd:(v == ("__debug__" : Str))=false:=by decide) (hcd:(v == ("__classdict__" : Str))=false:=by decide)
  (he:starEach [.Name v p2,.Name y q] X.env=(false,eval (.Name v p2) X.env)::starEach [.Name y q] X.env:=by rfl) (he2:starEach [.Name y q] X.env=(false,eval (.Name y q) X.env)::starEach [] X.env:=by rfl) (hpl:(backTo pos (starEach [.Name y q] X.env)).any (·.1)=false:=by rfl) :
  EV X T false true (.Call (.Name "isinstance" p) [.Name v p2,.Name y q] [] pos) (wIsx i tab):=by
 refine ⟨_,Qhe (Qop F.attrBase_ValueError) hg hb Yq (Um (Xx hN hv hd hcd) (Um hy Qj7 he2) he) (by decide) (by decide) he hpl,λz R σ H W ρ Q Q' s hw k=>?_⟩
 obtain ⟨d,hl,hq⟩:=Qt hw
 obtain ⟨fp,s0⟩:=id s
 obtain ⟨u,h1,h2⟩:=s0.at_ i d hl
 generalize fp i=Fi at h2
 match d,h2,hq with
 | .obj x fs,h2,hq =>
  obtain ⟨r,hr,hq⟩:=Qt hq
  cases h2 with
  | @obj a1 _ ob φ _ e1 hc hf =>
   obtain ⟨C,hc,hn⟩:=hc
   obtain ⟨q1,q2⟩:=ht x r C hr hn
   exact ⟨_,h1,a1,ob,φ,C,cv,cl,r,rfl,e1,hc,q1,hcv,q2,k (.bl r) H W (.bl r) ρ [] (Post.flat s (FrW.refl H W) (λ_=>⟨Same.refl H,rfl,rfl⟩) (.bl r)) hq⟩
def Qqk (g g':G2) (wa wb wc:WE):WE:=λρ Q=>wa ρ λx ρ1=>wb ρ1 λy ρ2=>g x y λd=>blOf d λk=>if k=true then wc ρ2 λu ρ3=>g' y u λd'=>Q d' ρ3 else Q (.bl false) ρ2
end
end PV
variable {b:PySem.Expr} {c:Nat} {bs:List PySem.Value}
namespace PV
open PySem PySem.Spec L2
def Qtp:GA
 | [.int i,.int j],k=>-1000<=i/\i<=j/\j<=1000/\j-i<=1000/\k (.lst (rngD i (j-i).toNat))
 | _,_=>False
def wTka (i:Nat) (n:Int):WS:=λP ρ=>oget (look ρ i) λd=>match d with
 | .tup (.lst xs::ds)=>Qi xs=true/\Qi ds=true/\xs.length<sizeLine/\P.nx (ρ.set i (some (.tup (.lst (xs++[.int n])::ds))))
 | _=>False
theorem Qib {j:Int}:Qtp [.int i,.int j] k=(-1000<=i/\i<=j/\j<=1000/\j-i<=1000/\k (.lst (rngD i (j-i).toNat))):=rfl
def Qzl (i:Nat) (w:WE):WS:=λP ρ=>oget (look ρ i) λd=>w ρ λn _=>n.pure=true/\P.rt (.tup [d,n]) (ρ.set i none)
theorem Qjz:dIs false .non .non k=k (.bl true):=rfl
theorem Qf1:dIs false (.tup xs) .non k=k (.bl false):=rfl
theorem Qr2 {fs:List (Str × Int)}:dIs false (.obj x fs) .non k=k (.bl false):=rfl
section
variable {j:Int} {kus:List (Key × D)}
theorem Vw:J6 (.int i) (.int j) k=k (.int (i+j)):=rfl
theorem Z7:J6 (.str x) (.str y) k=(x.length+y.length<=sizeLine/\k (.str (x++y))):=rfl
theorem Qrz:J6 (.tup xs) (.tup ys) k=(Qi xs=true/\Qi ys=true/\xs.length+ys.length<=sizeLine/\k (.tup (xs++ys))):=rfl
theorem Qa0:J6 (.lst xs) (.lst ys) k=(Qi xs=true/\Qi ys=true/\xs.length+ys.length<=sizeLine/\k (.lst (xs++ys))):=rfl
theorem Qpe {lo:Option Int}:dSlT (.lst xs) lo hi k=(Qi xs=true/\k (.lst (cutD xs lo hi))):=rfl
theorem Qpf {lo:Option Int}:dSlT (.kls xs) lo hi k=(Qi xs=true/\k (.lst (cutD xs lo hi))):=rfl
theorem Qpd {lo:Option Int}:dSlT (.tup xs) lo hi k=(Qi xs=true/\k (.tup (cutD xs lo hi))):=rfl
theorem Qrt:Qyx [.dik kvs] k=k (.lst (Qgf kvs)):=rfl
theorem Qrw:dIx (.fdk kvs) (.int i) k=oget (valD kvs (.inl i)) k:=rfl
theorem Qry {n:Bool}:dEqK n (.dik kvs) (.dik kus) k=(eqK kvs kus/\(Qh7 kvs kus->k (.bl (!n)))/\(¬Qh7 kvs kus->k (.bl n))):=rfl
theorem Qrx {n:Bool}:dEqK n (.dik kvs) (.fdk kus) k=(eqK kvs kus/\(Qh7 kvs kus->k (.bl (!n)))/\(¬Qh7 kvs kus->k (.bl n))):=rfl
theorem Qwd:Qqi.noDct (.dik kvs)=false:=rfl
theorem Qwf:Qtt (.dik kvs) (.int i) d k=k ((valD kvs (.inl i)).getD d):=rfl
theorem Qna:Qta (.dik kvs) [] kk=kk .non (.dik []):=rfl
theorem Qwg {k:List (Key × D)->Prop}:Qlq (.dik kvs) k=k kvs:=rfl
theorem Qwe {k:List D->Prop}:Qhi (.lst xs) k=k xs:=rfl
theorem Qrv:Qnz (.int i)=some (.inl i):=rfl
end
def Qkp (d:D) (k:List D->Prop):Prop:=Qlq d λkvs=>k (Qgf kvs)
theorem Qru:Qzr w ρ Q=w ρ λd ρ'=>Qkp d λds=>Q ds ρ':=by
 show (w ρ λd ρ'=>match d with | .dik kvs=>Q (Qgf kvs) ρ' | _=>False)=_
 first | rfl | (congr 1;funext d ρ';cases d <;> rfl)
theorem Qm9 {k:List D->Prop}:Qkp (.dik kvs) k=k (Qgf kvs):=rfl
def Qt1 (ds:List D) (k:List D->Prop):Prop:=match ds with
 | [.dik kvs,.lst xs]=>Qi xs=true/\k (zipD kvs xs)
 | _=>False
theorem Qwb:wZip wr ρ Q=wr ρ λds ρ'=>Qt1 ds λl=>Q l ρ':=by
 show (wr ρ λds ρ'=>match ds with | [.dik kvs,.lst xs]=>Qi xs=true/\Q (zipD kvs xs) ρ' | _=>False)=_
 rfl
theorem Qrs {k:List D->Prop}:Qt1 [.dik kvs,.lst xs] k=(Qi xs=true/\k (zipD kvs xs)):=rfl
theorem Qwc {i:Nat} {wi:WE} {Q:Env->Prop}:Qyb i wi d ρ Q=((look ρ i).isSome=true/\wi ρ λc _=>oget (look ρ i) λs=>Qhi s λxs=>Qs5 c λj=>oget (j.bind (ixN xs.length)) λn=>Q (ρ.set i (some (.lst (xs.set n d))))):=by
 unfold Qyb
 first | rfl | (congr 1;congr 1;funext c _;congr 1;funext s;congr 1;funext xs;cases c <;> rfl)
theorem Go:∀{a b:List Int},a.map D.int=b.map D.int->a=b
 | [],[],_=>rfl
 | [],_::_,h=>by simp at h
 | _::_,[],h=>by simp at h
 | x::a,y::b,h=>by
  simp only [List.map_cons,List.cons.injEq,D.int.injEq] at h
  rw [h.1,Go h.2]
section
variable {n:Int}
theorem Qwa:Qp4 (.ftp (ns.map D.int)) [.int n] k=k (.int (ns.count n:Nat)):=by
 show (∃ms:List Int,ns.map D.int=ms.map D.int/\k (.int (ms.count n:Nat)))=_
 exact propext ⟨λ⟨ms,e,h⟩=>by rw [Go e];exact h,λh=>⟨ns,rfl,h⟩⟩
theorem Q00:isFt (.ftp xs)=true:=rfl
theorem Qv9:dSum [.lst (ns.map D.int)] k=k (.int ns.sum):=by
 show (∃ms:List Int,ns.map D.int=ms.map D.int/\k (.int ms.sum))=_
 exact propext ⟨λ⟨ms,e,h⟩=>by rw [Go e];exact h,λh=>⟨ns,rfl,h⟩⟩
theorem Qrr:Q10 [.lst xs] k=(Qi xs=true/\k (.ftp xs)):=rfl
theorem Qm8:Qyu [.dik kvs] k=∃ns:List Int,kvs.map (·.1)=ns.map Sum.inl/\kvs.length<64/\∀out:List Int,out.Perm ns->out.Pairwise (· <= ·)->k (.lst (out.map D.int)):=rfl
end
section
variable {j:Int} {bs:List Bool} {e:D}
theorem Gz (h:0<j) (h2:j<115792089237316195423570985008687907853269984665640564039457584007913129639936):Qgn (.int i) (.int j) k=k (.int (i / j)):=by
 show (0<j/\j<2 ^ 256/\k (.int (i / j)))=_
 exact propext ⟨λq=>q.2.2,λq=>⟨h,by omega,q⟩⟩
theorem Qmf:∀{a b:List Bool},a.map D.bl=b.map D.bl->a=b
 | [],[],_=>rfl
 | [],_::_,h=>by simp at h
 | _::_,[],h=>by simp at h
 | x::a,y::b,h=>by
  simp only [List.map_cons,List.cons.injEq,D.bl.injEq] at h
  rw [h.1,Qmf h.2]
theorem Qek:dAll [.lst (bs.map D.bl)] k=k (.bl (bs.all id)):=by
 show (∃cs:List Bool,bs.map D.bl=cs.map D.bl/\k (.bl (cs.all id)))=_
 exact propext ⟨λ⟨cs,e,h⟩=>by rw [Qmf e];exact h,λh=>⟨bs,rfl,h⟩⟩
theorem Qjx {k:List D->Prop}:Qoy [.tup xs,.tup ys] k=(Qi xs=true/\Qi ys=true/\k (Ua xs ys)):=rfl
theorem Qjy {k:D->D->Prop}:two2 (.tup [d,e]) k=k d e:=rfl
end
theorem Q05 {a b:D} (h0:0<=r) (h1:r<2):(r=0/\L2.atI [a,b] r=some a)\/(r=1/\L2.atI [a,b] r=some b):=by
 have:r=0\/r=1:=by omega
 rcases this with rfl | rfl
 ·exact .inl ⟨rfl,rfl⟩
 ·exact .inr ⟨rfl,rfl⟩
theorem Q04 {a b c:D} (h0:0<=r) (h1:r<3):L2.atI [a,b,c] r=some a\/L2.atI [a,b,c] r=some b\/L2.atI [a,b,c] r=some c:=by
 have:r=0\/r=1\/r=2:=by omega
 rcases this with rfl | rfl | rfl
 ·exact .inl rfl
 ·exact .inr (.inl rfl)
 ·exact .inr (.inr rfl)
theorem Q03 {a b c:D} (h0:0<=r) (h1:r<4):L2.atI [a,b,c,d] r=some a\/L2.atI [a,b,c,d] r=some b\/L2.atI [a,b,c,d] r=some c\/L2.atI [a,b,c,d] r=some d:=by
 have:r=0\/r=1\/r=2\/r=3:=by omega
 rcases this with rfl | rfl | rfl | rfl
 ·exact .inl rfl
 ·exact .inr (.inl rfl)
 ·exact .inr (.inr (.inl rfl))
 ·exact .inr (.inr (.inr rfl))
theorem Y8 {lo:Int}:(rngD lo n).length=n:=by simp [rngD]
theorem Qad {lo:Int} {i:Nat} (h:(rngD lo n)[i]? = some d):i<n/\d=.int (lo+(i:Int)):=by
 have hi:i<n:=by have:=(List.getElem?_eq_some_iff.mp h).1;rwa [Y8] at this
 simp only [rngD,List.getElem?_map,List.getElem?_range hi,Option.map_some,Option.some.injEq] at h
 exact ⟨hi,h.symm⟩
theorem Vx {lo:Int}:Qi (rngD lo n)=true:=Vy λ_ _=>rfl
theorem Qa1:Qi (ns.map D.int)=true:=Vy λ_ _=>rfl
def isP (p:Int):Prop:=p=101\/p=10007\/p=999999937
theorem Qhs {a:Nat} (h:a<=ds.length):cutD ds (some (a:Int)) none=ds.drop a:=by
 unfold cutD
 rw [HT.Qqz,HT.Qm2,Nat.min_eq_left h,List.take_of_length_le (by simp)]
def rowD (c n:Int):D:=.lst [.int c,.int n]
theorem len1 {α:Type}:∀{us:List α},us.length=1->∃a,us=[a]
 | [a],_=>⟨a,rfl⟩
theorem len2 {α:Type} {us:List α} (h:us.length=2):∃a b,us=[a,b]:=by
 cases us with
 | nil=>cases h
 | cons a us=>obtain ⟨b,rfl⟩:=len1 (Nat.succ.inj h);exact ⟨a,b,rfl⟩
theorem len3 {α:Type} {us:List α} (h:us.length=3):∃a b c,us=[a,b,c]:=by
 cases us with
 | nil=>cases h
 | cons a us=>obtain ⟨b,c,rfl⟩:=len2 (Nat.succ.inj h);exact ⟨a,b,c,rfl⟩
end PV
variable {n:Int}
namespace S03
open PySem PySem.Spec L2 PV
open PySem.Builtin.Str (glued)
def jl (c:Nat):List (List Nat)->List Nat
 | []=>[]
 | [w]=>w
 | w::v::r=>w++c::jl c (v::r)
theorem Qp5 {c:Nat}:∀{a b s t:List Nat},c∉a->c∉b->a++c::s=b++c::t->a=b/\s=t
 | [],[],s,t,_,_,h=>⟨rfl,by simpa using h⟩
 | [],y::b,s,t,_,hb,h=>by
  have:c=y:=by simpa using (List.cons.inj h).1
  exact absurd (this ▸ List.mem_cons_self) hb
 | x::a,[],s,t,ha,_,h=>by
  have:x=c:=by simpa using (List.cons.inj h).1
  exact absurd (this ▸ List.mem_cons_self) ha
 | x::a,y::b,s,t,ha,hb,h=>by
  obtain ⟨h1,h2⟩:=List.cons.inj h
  obtain ⟨h3,h4⟩:=Qp5 (λm=>ha (List.mem_cons_of_mem _ m)) (λm=>hb (List.mem_cons_of_mem _ m)) h2
  exact ⟨by rw [h1,h3],h4⟩
theorem Qpt {c:Nat}:∀{ws vs:List (List Nat)},ws≠[]->vs≠[]->(∀w∈ws,c∉w)->(∀w∈vs,c∉w)->jl c ws=jl c vs->ws=vs
 | [],_,h,_,_,_,_=>absurd rfl h
 | _,[],_,h,_,_,_=>absurd rfl h
 | [w],[v],_,_,_,_,h=>by rw [show w=v from h]
 | [w],v::u::r,_,_,h1,_,h=>by
  have:c∈w:=by rw [show w=v++c::jl c (u::r) from h];simp
  exact absurd this (h1 w List.mem_cons_self)
 | v::u::r,[w],_,_,_,h1,h=>by
  have:c∈w:=by rw [show w=v++c::jl c (u::r) from h.symm];simp
  exact absurd this (h1 w List.mem_cons_self)
 | w::x::r,v::y::q,_,_,h1,h2,h=>by
  obtain ⟨e1,e2⟩:=Qp5 (h1 w List.mem_cons_self) (h2 v List.mem_cons_self) h
  rw [e1,Qpt (ws:=x::r) (vs:=y::q) (by simp) (by simp) (λw m=>h1 w (List.mem_cons_of_mem _ m)) (λw m=>h2 w (List.mem_cons_of_mem _ m)) e2]
theorem Qbd {c:Nat}:∀(ws:List Str),(Str.join ⟨#[c]⟩ ws).cps.toList=jl c (ws.map λw=>w.cps.toList)
 | []=>rfl
 | [w]=>rfl
 | w::v::r=>by
  show (w++⟨#[c]⟩++Str.join ⟨#[c]⟩ (v::r)).cps.toList=_
  rw [Str.cps_append,Str.cps_append,Array.toList_append,Array.toList_append,Qbd (v::r)]
  simp [jl]
theorem Qk6 {ws vs:List Str} (h1:ws≠[]) (h2:vs≠[]) (f1:∀w∈ws,c∉w.cps.toList) (f2:∀w∈vs,c∉w.cps.toList) (h:glued ⟨#[c]⟩ ws=glued ⟨#[c]⟩ vs):ws=vs:=by
 rw [StrLaws.glued_eq_join,StrLaws.glued_eq_join] at h
 have h:=congrArg (λs:Str=>s.cps.toList) h
 simp only [Qbd] at h
 have:=Qpt (by simpa using h1) (by simpa using h2) (λw hw=>by obtain ⟨v,hv,rfl⟩:=List.mem_map.mp hw;exact f1 v hv) (λw hw=>by obtain ⟨v,hv,rfl⟩:=List.mem_map.mp hw;exact f2 v hv) h
 have hm:∀{as bs:List Str},as.map (λw=>w.cps.toList)=bs.map (λw=>w.cps.toList)->as=bs:=by
  intro as
  induction as with
  | nil=>intro bs h;cases bs with
   | nil=>rfl
   | cons b bs=>cases h
  | cons a as ih=>intro bs h;cases bs with
   | nil=>cases h
   | cons b bs =>
    obtain ⟨q1,q2⟩:=List.cons.inj h
    rw [ih q2,Str.ext' (Array.toList_inj.mp q1)]
 exact hm this
theorem Xw {ws:List Str} (h1:ws≠[]) (f1:∀w∈ws,c∉w.cps.toList):Jv (glued ⟨#[c]⟩ ws) ⟨#[c]⟩=ws:=by
 obtain ⟨f,hG,hn⟩:=StrLaws.occ_tight (glued ⟨#[c]⟩ ws) ⟨#[c]⟩ (Nat.le_refl 1)
 refine Qk6 (c:=c) ?_ h1 ?_ f1 (StrLaws.glued_between_self _ _ _)
 ·unfold Jv
  rw [StrLaws.partsBetween_eq]
  obtain ⟨p,r,e⟩:=StrLaws.partsFrom_ne (glued ⟨#[c]⟩ ws) (⟨#[c]⟩:Str).length 0 (Builtin.Str.occurrences (glued ⟨#[c]⟩ ws) ⟨#[c]⟩ 0 (glued ⟨#[c]⟩ ws).length ((glued ⟨#[c]⟩ ws).length+1))
  rw [e];simp
 ·unfold Jv
  rw [StrLaws.partsBetween_eq]
  exact StrLaws.parts_free _ c _ 0 f hG hn
theorem Qmg:Str.ofString " " = ⟨#[32]⟩:=by decide
theorem dig:∀(m:Nat),Nat.toDigits 10 m≠[]/\(∀c∈Nat.toDigits 10 m,48<=c.toNat/\c.toNat<=57)/\(0<m->∃c r,Nat.toDigits 10 m=c::r/\c.toNat≠48):=by
 intro m
 induction m using Nat.strongRecOn with
 | _ m ih =>
  by_cases h:m<10
  ·rw [Nat.toDigits_of_lt_base h]
   have key:∀k:Fin 10,48<=(Nat.digitChar k.1).toNat/\(Nat.digitChar k.1).toNat<=57/\(0<k.1->(Nat.digitChar k.1).toNat≠48):=by decide
   obtain ⟨k1,k2,k3⟩:=key ⟨m,h⟩
   refine ⟨by simp,λc hc=>?_,λhm=>⟨_,[],rfl,k3 hm⟩⟩
   rw [List.mem_singleton.mp hc];exact ⟨k1,k2⟩
  ·rw [Nat.toDigits_of_base_le (by decide) (by omega)]
   obtain ⟨i1,i2,i3⟩:=ih (m / 10) (by omega)
   have key:∀k:Fin 10,48<=(Nat.digitChar k.1).toNat/\(Nat.digitChar k.1).toNat<=57:=by decide
   refine ⟨by simp,λc hc=>?_,λhm=>?_⟩
   ·rcases List.mem_append.mp hc with h | h
    ·exact i2 c h
    ·rw [List.mem_singleton.mp h];exact key ⟨m % 10,Nat.mod_lt _ (by decide)⟩
   ·obtain ⟨c,r,e,hc⟩:=i3 (by omega)
    exact ⟨c,r++[Nat.digitChar (m % 10)],by rw [e];rfl,hc⟩
def nw (n:Int):Str:=Str.ofString (toString n)
theorem Uq (m:Nat):(nw m).cps.toList=(Nat.toDigits 10 m).map Char.toNat:=PySem.W.KIN.signs_num m
theorem Qhf (h:0<=n) (hc:c∈(nw n).cps.toList):48<=c/\c<=57:=by
 obtain ⟨m,rfl⟩:=Int.eq_ofNat_of_zero_le h
 rw [Uq] at hc
 obtain ⟨d,hd,rfl⟩:=List.mem_map.mp hc
 exact (dig m).2.1 d hd
theorem Vz (h:0<=n):∃c r,(nw n).cps.toList=c::r/\48<=c/\c<=57/\(0<n->c≠48):=by
 obtain ⟨m,rfl⟩:=Int.eq_ofNat_of_zero_le h
 obtain ⟨d1,d2,d3⟩:=dig m
 by_cases hm:0<m
 ·obtain ⟨c,r,e,hc⟩:=d3 hm
  refine ⟨c.toNat,r.map Char.toNat,by rw [Uq,e];rfl,(d2 c (e ▸ List.mem_cons_self)).1,(d2 c (e ▸ List.mem_cons_self)).2,λ_=>hc⟩
 ·cases e:Nat.toDigits 10 m with
  | nil=>exact absurd e d1
  | cons c r=>exact ⟨c.toNat,r.map Char.toNat,by rw [Uq,e];rfl,(d2 c (e ▸ List.mem_cons_self)).1,(d2 c (e ▸ List.mem_cons_self)).2,λh=>by omega⟩
theorem Qkg:nw 0=Str.ofString "0":=by decide
theorem Qa8 (h:0<=n):nw n≠Str.ofString "":=λe=>by
 obtain ⟨c,r,e2,_⟩:=Vz h
 rw [e] at e2
 have:(Str.ofString "").cps.toList=[]:=by decide
 rw [this] at e2;cases e2
theorem X1:Str.ofString "x" = ⟨#[120]⟩:=by decide
theorem Z1:Str.ofString "0" = ⟨#[48]⟩:=by decide
theorem Qjw:dStr [.int i] k=(i.natAbs.log2<1920/\k (.str (nw i))):=rfl
theorem Qf0:Qly [.str x] k=oget (PySem.intText? x) λn=>x.length<=640/\k (.int n):=rfl
theorem Vh {k:Str->Prop}:Qux (.str y) k=k y:=rfl
theorem Qda {k:List D->Prop}:Qjj (.str x) k=(x.cps.all (· < 128)=true/\k (sgn x)):=rfl
theorem Qpc:Qgh (.lst xs) [.lst ys] kk=(Qi ys=true/\xs.length+ys.length<=sizeLine/\kk .non (.lst (xs++ys))):=rfl
theorem Qaz:dLen [.str x] k=(x.length<=sizeLine/\k (.int x.length)):=rfl
theorem Qej:dIx (.str x) (.int i) k=(x.length<=sizeLine/\oget (L2.atI x.cps.toList i) λc=>k (.str ⟨#[c]⟩)):=rfl
theorem Qrq:dAll [.lst (ds.map λ_=>.bl true)] k=k (.bl true):=by
 have e:(ds.map λ_=>D.bl true)=(ds.map λ_=>true).map D.bl:=by rw [List.map_map];rfl
 rw [e,Qek]
 have:(ds.map λ_=>true).all id=true:=by simp
 rw [this]
theorem Za {ws:List Str}:Qi (ws.map D.str)=true:=Vy λ_ _=>rfl
end S03
variable {t:Int × Int} {p:Int} {r ts:List (Int × Int)} {d:Nat}
namespace S24
open PySem PySem.Spec L2 PV S03
open PySem.Builtin.Str (glued occurrences strSub subAt)
def big:Int:=1000000000000000000000000000000000000000000000000000000000000
theorem Vi (h0:0<=n) (h1:n<big):(nw n).length<=60:=by
 obtain ⟨m,rfl⟩:=Int.eq_ofNat_of_zero_le h0
 have e:(nw (m:Int)).length=(Nat.toDigits 10 m).length:=by
  show (nw (m:Int)).cps.size=_
  rw [← Array.length_toList,Uq,List.length_map]
 rw [e]
 refine (Nat.length_toDigits_le_iff (by decide) (by decide)).mpr ?_
 have h1:(m:Int)<1000000000000000000000000000000000000000000000000000000000000:=h1
 have:m<1000000000000000000000000000000000000000000000000000000000000:=by omega
 exact this
theorem Xc (h0:0<=n) (h1:n<big):PySem.intText? (nw n)=some n:=by
 have hl:=Vi h0 h1
 obtain ⟨m,rfl⟩:=Int.eq_ofNat_of_zero_le h0
 have hd:PySem.NumText.AllDigits (nw ((m:Nat):Int)).cps.toList:=λc hc=>Qhf h0 hc
 have hne:(nw ((m:Nat):Int)).cps.toList≠[]:=by
  obtain ⟨c,r,e,_⟩:=Vz h0
  rw [e];simp
 have e:=PySem.intText_digits hd hne (Nat.le_trans hl (by decide))
 rw [Uq,PySem.W.KIN.val_back] at e
 exact e
theorem Qsu (h:n.natAbs<1000000000000000000000000000000000000000000000000000000000000):n.natAbs.log2<1920:=by
 by_cases h0:n.natAbs=0
 ·rw [h0];decide
 ·have:=(Nat.log2_lt h0 (k:=200)).mpr (Nat.lt_trans h (by decide))
  omega
theorem Qxi {a b:Int} (ha:0<=a) (ha1:a<big) (hb:0<=b) (hb1:b<big) (h:nw a=nw b):a=b:=by
 have h1:=Xc ha ha1
 rw [h,Xc hb hb1] at h1
 exact (Option.some.inj h1).symm
theorem Qev (h:p<0):nw p=Str.ofString "-" ++ nw (-p):=by
 obtain ⟨m,rfl⟩:∃m:Nat,p=Int.negSucc m:=⟨(-p-1).toNat,by omega⟩
 apply Str.ext'
 apply Array.toList_inj.mp
 rw [Str.cps_append,Array.toList_append,show -(Int.negSucc m)=((m+1:Nat):Int) by omega,Uq]
 show (Str.ofString (toString (Int.negSucc m))).cps.toList=_
 rw [PyProof.Rows.signs_ofString]
 show (("-" ++ toString (m+1):String).toList.map Char.toNat)=_
 rw [String.toList_append,List.map_append]
 have e1:(Str.ofString "-").cps.toList=[45]:=by decide
 have e2:(toString (m+1):String).toList=Nat.toDigits 10 (m+1):=by
  show (Nat.repr (m+1)).toList=_
  rw [Nat.toList_repr]
 rw [e1,e2]
 rfl
theorem Jc {a b:Str} (h:a.cps.toList=b.cps.toList):a=b:=Str.ext' (Array.toList_inj.mp h)
theorem Qn (a b:Str):(a++b).cps.toList=a.cps.toList++b.cps.toList:=by rw [Str.cps_append,Array.toList_append]
theorem Jx (a:Str):a.length=a.cps.toList.length:=by rw [Array.length_toList];rfl
def av (n:Int):Int:=if n<0 then -n else n
theorem Xk (n:Int):0<=av n:=by unfold av;split <;> omega
structure Tm (t:Int × Int):Prop where
 n0:t.2≠0
 nb:av t.2<big
 pb:av t.1<big
def pw (p:Int):Str:=if p=0 then Str.ofString "" else if p=1 then Str.ofString "x" else Str.ofString "x^" ++ nw p
def fore (t:Int × Int):Str:=if av t.2=1 then Str.ofString "" else nw (av t.2)
def hind (p:Int):Str:=if p=1 then Str.ofString "" else Str.ofString "^" ++ nw p
def tm (t:Int × Int):Str:=if t.1=0 then nw (av t.2) else fore t++Str.ofString "x" ++ hind t.1
theorem Yd:(Str.ofString "").cps.toList=[]:=by decide
theorem Uw:(Str.ofString "x").cps.toList=[120]:=by decide
theorem Qag:(Str.ofString "^").cps.toList=[94]:=by decide
theorem Qiw:(Str.ofString "x^").cps.toList=[120,94]:=by decide
theorem Zl:(Str.ofString "-").cps.toList=[45]:=by decide
theorem Qwk (h:p≠0):pw p=Str.ofString "x" ++ hind p:=by
 apply Jc
 unfold pw hind
 rw [if_neg h]
 split
 ·rw [Qn,Yd,List.append_nil]
 ·rw [Qn,Qn,Qn,Qiw,Uw,Qag];rfl
theorem Qmv (t:Int × Int):tm t=if av t.2=1/\t.1≠0 then pw t.1 else nw (av t.2)++pw t.1:=by
 unfold tm
 by_cases h0:t.1=0
 ·rw [if_pos h0,if_neg (λh=>h.2 h0)]
  apply Jc
  rw [Qn,pw,if_pos h0,Yd,List.append_nil]
 ·rw [if_neg h0,Qwk h0]
  unfold fore
  by_cases h1:av t.2=1
  ·rw [if_pos h1,if_pos ⟨h1,h0⟩]
   apply Jc
   rw [Qn,Qn,Qn,Yd];rfl
  ·rw [if_neg h1,if_neg (λh=>h1 h.1)]
   apply Jc
   simp only [Qn,List.append_assoc]
theorem Qi9 (h:Tm t):(decide (nw (av t.2)=Str.ofString "1") && !decide (pw t.1=Str.ofString ""))=decide (av t.2=1/\t.1≠0):=by
 have e1:(nw (av t.2)=Str.ofString "1")↔av t.2=1:=by
  constructor
  ·intro q
   exact Qxi (Xk _) h.nb (by decide) (by decide) (q.trans (show Str.ofString "1" = nw 1 by decide))
  ·intro q;rw [q];decide
 have e2:(pw t.1=Str.ofString "")↔t.1=0:=by
  constructor
  ·intro q
   by_cases h0:t.1=0
   ·exact h0
   ·rw [Qwk h0] at q
    have:=congrArg (λs:Str=>s.cps.toList) q
    simp only [Qn,Uw,Yd] at this
    cases this
  ·intro q;unfold pw;rw [if_pos q]
 simp only [e1,e2]
 by_cases a:av t.2=1 <;> by_cases b:t.1=0 <;> simp [a,b]
theorem Qcn (h:0<=n) (hd:d<48\/57<d):d∉(nw n).cps.toList:=λhc=>by have:=Qhf h hc;omega
theorem Qns (p:Int) (hd:d<48\/57<d) (h45:d≠45):d∉(nw p).cps.toList:=by
 by_cases h:p<0
 ·rw [Qev h,Qn,Zl]
  intro hc
  rcases List.mem_append.mp hc with hc | hc
  ·exact h45 (List.mem_singleton.mp hc)
  ·exact Qcn (by omega) hd hc
 ·exact Qcn (by omega) hd
theorem Qbh (t:Int × Int) (hd:d<48\/57<d):d∉(fore t).cps.toList:=by
 unfold fore
 split
 ·rw [Yd];simp
 ·exact Qcn (Xk _) hd
theorem Qk3 (p:Int):32∉(hind p).cps.toList:=by
 unfold hind
 split
 ·rw [Yd];simp
 ·rw [Qn,Qag]
  intro hc
  rcases List.mem_append.mp hc with hc | hc
  ·have:=List.mem_singleton.mp hc;omega
  ·exact Qns p (.inl (by decide)) (by decide) hc
theorem Qft (t:Int × Int):32∉(tm t).cps.toList:=by
 unfold tm
 split
 ·exact Qcn (Xk _) (.inl (by decide))
 ·rw [Qn,Qn,Uw]
  intro hc
  rcases List.mem_append.mp hc with hc | hc
  ·rcases List.mem_append.mp hc with hc | hc
   ·exact Qbh t (.inl (by decide)) hc
   ·have:=List.mem_singleton.mp hc;omega
  ·exact Qk3 _ hc
theorem Qfs (h:Tm t):∃c r,(tm t).cps.toList=c::r/\c≠48/\c≠45:=by
 have hn:0<av t.2:=by have:=h.n0;unfold av;split <;> omega
 have key:∃c r,(nw (av t.2)).cps.toList=c::r/\c≠48/\c≠45:=by
  obtain ⟨c,r,e,c1,c2,c3⟩:=Vz (Xk t.2)
  exact ⟨c,r,e,c3 hn,by omega⟩
 unfold tm
 split
 ·exact key
 ·rw [Qn,Qn]
  unfold fore
  split
  ·rw [Yd,Uw];exact ⟨120,_,rfl,by decide,by decide⟩
  ·obtain ⟨c,r,e,c1,c2⟩:=key
   rw [e];exact ⟨c,_,rfl,c1,c2⟩
theorem Qga (h:av p<big):(nw p).length<=61:=by
 unfold av at h
 by_cases h0:p<0
 ·rw [if_pos h0] at h
  rw [Qev h0,Str.length_append]
  have:=Vi (n:=-p) (by omega) h
  have:(Str.ofString "-").length=1:=by decide
  omega
 ·rw [if_neg h0] at h
  have:=Vi (n:=p) (by omega) h
  omega
theorem Qja (h:Tm t):(tm t).length<=130:=by
 have h1:=Vi (Xk t.2) h.nb
 have h2:=Qga h.pb
 have e1:(Str.ofString "x").length=1:=by decide
 have e2:(Str.ofString "^").length=1:=by decide
 have e3:(Str.ofString "").length=0:=by decide
 unfold tm fore hind
 split
 ·omega
 ·rw [Str.length_append,Str.length_append]
  split <;> split <;> (try rw [Str.length_append]) <;> omega
theorem Qcm (h:120∉x.cps.toList):Zi x (Str.ofString "x")=[x,Str.empty,Str.empty]:=by
 unfold Zi
 rw [X1]
 rcases StrLaws.occ_head x ⟨#[120]⟩ 1 (Nat.le_refl 1) with ⟨h0,_⟩ | ⟨i,r,h0,h1,_⟩
 ·rw [h0]
 ·have:=(StrLaws.subAt_one x 120 i).mp h1
  exact absurd (List.mem_of_getElem? this) h
theorem Qcl {A B:Str} (h:120∉A.cps.toList):Zi (A++Str.ofString "x" ++ B) (Str.ofString "x")=[A,Str.ofString "x",B]:=by
 have hl:(A++Str.ofString "x" ++ B).cps.toList=A.cps.toList++120::B.cps.toList:=by rw [Qn,Qn,Uw];simp
 have hA:A.length=A.cps.toList.length:=Jx A
 have hat:(A++Str.ofString "x" ++ B).cps.toList[A.length]? = some 120:=by rw [hl,hA];simp
 unfold Zi
 rw [X1] at hl hat ⊢
 rcases StrLaws.occ_head (A++⟨#[120]⟩++B) ⟨#[120]⟩ 1 (Nat.le_refl 1) with ⟨h0,h1⟩ | ⟨i,r,h0,h1,h2⟩
 ·exact absurd ((StrLaws.subAt_one _ 120 A.length).mpr hat) (h1 _)
 ·have q:=(StrLaws.subAt_one _ 120 i).mp h1
  have hi:i=A.length:=by
   rcases Nat.lt_trichotomy i A.length with g | g | g
   ·rw [hl,List.getElem?_append_left (by omega)] at q
    exact absurd (List.mem_of_getElem? q) h
   ·exact g
   ·exact absurd ((StrLaws.subAt_one _ 120 A.length).mpr hat) (h2 _ g)
  subst hi
  rw [h0]
  show [_,_,_]=_
  congr 1
  ·apply Jc
   rw [StrLaws.strSub_toList,hl,hA];simp
  ·congr 2
   apply Jc
   rw [StrLaws.strSub_toList,hl,Jx,hl,hA]
   show List.take _ (List.drop (A.cps.toList.length+1) (A.cps.toList++120::B.cps.toList))=_
   rw [show A.cps.toList++120::B.cps.toList=(A.cps.toList++[120])++B.cps.toList by simp,List.drop_left' (by simp),List.take_of_length_le]
   rw [List.length_append,List.length_append]
   show _<=_-(A.cps.toList.length+1)
   simp
def sg (n:Int):Str:=if n<0 then Str.ofString "-" else Str.ofString "+"
def ws (ts:List (Int × Int)):List Str:=ts.flatMap λt=>[sg t.2,tm t]
def fst (n:Int):Str:=if n<0 then Str.ofString "-" else Str.ofString ""
def tx:List (Int × Int)->Str
 | []=>Str.ofString "0"
 | t::r=>fst t.2++glued (Str.ofString " ") (tm t::ws r)
theorem Qqx (n:Int):32∉(sg n).cps.toList:=by unfold sg;split <;> decide
theorem Qiz (ts:List (Int × Int)):∀w∈ws ts,32∉w.cps.toList:=λw hw=>by
 obtain ⟨t,_,h⟩:=List.mem_flatMap.mp hw
 rcases List.mem_cons.mp h with rfl | h
 ·exact Qqx _
 ·rw [List.mem_singleton.mp h];exact Qft t
theorem Qca (ts:List (Int × Int)):(ws ts).length=2*ts.length:=by
 unfold ws
 induction ts with
 | nil=>rfl
 | cons t ts ih=>rw [List.flatMap_cons,List.length_append,ih,List.length_cons,List.length_cons,List.length_cons,List.length_nil];omega
theorem Qgy (h:∀t∈ts,Tm t):∀w∈ws ts,w.length<=130:=λw hw=>by
 obtain ⟨t,ht,q⟩:=List.mem_flatMap.mp hw
 rcases List.mem_cons.mp q with rfl | q
 ·unfold sg;split <;> decide
 ·rw [List.mem_singleton.mp q];exact Qja (h t ht)
theorem Qt5 {k:Nat}:(ws ts)[2*k]? = (ts[k]?).map λt=>sg t.2:=by
 induction ts generalizing k with
 | nil=>rfl
 | cons t ts ih =>
  cases k with
  | zero=>rfl
  | succ k=>show (sg t.2::tm t::ws ts)[2*(k+1)]? = _;rw [show 2*(k+1)=2*k+1+1 by omega,List.getElem?_cons_succ,List.getElem?_cons_succ,ih,List.getElem?_cons_succ]
theorem Qt4 {k:Nat}:(ws ts)[2*k+1]? = (ts[k]?).map tm:=by
 induction ts generalizing k with
 | nil=>rfl
 | cons t ts ih =>
  cases k with
  | zero=>rfl
  | succ k=>show (sg t.2::tm t::ws ts)[2*(k+1)+1]? = _;rw [show 2*(k+1)+1=(2*k+1)+1+1 by omega,List.getElem?_cons_succ,List.getElem?_cons_succ,ih,List.getElem?_cons_succ]
theorem Qhb {α β:Type} {xs:List α} {ts:List β} {f:β->α} {g:Nat->Nat} (h:∀k,xs[g k]? = (ts[k]?).map f):(List.range ts.length).filterMap (λk=>xs[g k]?)=ts.map f:=by
 have e:(λk=>xs[g k]?)=λk=>(ts[k]?).map f:=funext h
 rw [e]
 apply List.ext_getElem?
 have:∀n,n<=ts.length->(List.range n).filterMap (λk=>(ts[k]?).map f)=(ts.take n).map f:=by
  intro n
  induction n with
  | zero=>intro _;rfl
  | succ n ih =>
   intro hn
   rw [List.range_succ,List.filterMap_append,ih (by omega),List.take_add_one,List.map_append,List.getElem?_eq_getElem (by omega)]
   simp [List.getElem?_eq_getElem (show n<ts.length by omega)]
 intro i
 rw [this _ (Nat.le_refl _),List.take_length]
theorem Qz7 {α:Type} (f:Str->α) (ts:List (Int × Int)):Zk ((ws ts).map f) (some 0) none (some 2)=ts.map λt=>f (sg t.2):=by
 unfold Zk
 have hb:sliceBounds (some 0) none (some 2) ((ws ts).map f).length=(0,((2*ts.length:Nat):Int),2):=by
  rw [List.length_map,Qca]
  unfold sliceBounds
  simp
  omega
 rw [hb]
 unfold sliceRange
 simp only [show (2:Int) > 0 by decide,if_true]
 have hc:(if (0:Int)<((2*ts.length:Nat):Int) then (((2*ts.length:Nat):Int)-0+2-1) / 2 else 0).toNat=ts.length:=by split <;> omega
 rw [hc,List.filterMap_map]
 refine Qhb (g:=λk=>(0+2*(k:Int)).toNat) λk=>?_
 rw [show (0+2*(k:Int)).toNat=2*k by omega,List.getElem?_map,Qt5,Option.map_map];rfl
theorem Qz6 {α:Type} (f:Str->α) (ts:List (Int × Int)):Zk ((ws ts).map f) (some 1) none (some 2)=ts.map λt=>f (tm t):=by
 unfold Zk
 by_cases h0:ts.length=0
 ·have:ts=[]:=List.length_eq_zero_iff.mp h0
  subst this
  rfl
 have hb:sliceBounds (some 1) none (some 2) ((ws ts).map f).length=(1,((2*ts.length:Nat):Int),2):=by
  rw [List.length_map,Qca]
  unfold sliceBounds
  simp
  omega
 rw [hb]
 unfold sliceRange
 simp only [show (2:Int) > 0 by decide,if_true]
 have hc:(if (1:Int)<((2*ts.length:Nat):Int) then (((2*ts.length:Nat):Int)-1+2-1) / 2 else 0).toNat=ts.length:=by split <;> omega
 rw [hc,List.filterMap_map]
 refine Qhb (g:=λk=>(1+2*(k:Int)).toNat) λk=>?_
 rw [show (1+2*(k:Int)).toNat=2*k+1 by omega,List.getElem?_map,Qt4,Option.map_map];rfl
theorem Qpv {c:Str} (h1:c.length=1) {ws:List Str} {B:Nat} (h:∀w∈ws,w.length<=B):(glued c ws).length<=ws.length*B+ws.length:=by
 rw [StrLaws.glued_eq_join]
 cases ws with
 | nil=>exact Nat.zero_le _
 | cons a l =>
  rw [PyProof.Rows.len_join_cons,h1,Nat.mul_one]
  have hs:∀l:List Str,(∀w∈l,w.length<=B)->(l.map (·.length)).sum<=l.length*B:=by
   intro l
   induction l with
   | nil=>intro _;simp
   | cons w l ih =>
    intro h
    have a1:=h w List.mem_cons_self
    have a2:=ih λv hv=>h v (List.mem_cons_of_mem _ hv)
    simp only [List.map_cons,List.sum_cons,List.length_cons,Nat.add_mul,Nat.one_mul]
    omega
  have:=hs _ h
  simp only [List.length_cons] at this ⊢
  omega
theorem Qk7 (c a:Str) (l:List Str):∃r,(glued c (a::l)).cps.toList=a.cps.toList++r:=by
 rw [StrLaws.glued_eq_join]
 cases l with
 | nil=>exact ⟨[],by show a.cps.toList=_;simp⟩
 | cons b l =>
  refine ⟨c.cps.toList++(Str.join c (b::l)).cps.toList,?_⟩
  show (a++c++Str.join c (b::l)).cps.toList=_
  rw [Qn,Qn,List.append_assoc]
theorem Qya (c u a:Str) (l:List Str):u++glued c (a::l)=glued c ((u++a)::l):=by
 rw [StrLaws.glued_eq_join,StrLaws.glued_eq_join]
 cases l with
 | nil=>rfl
 | cons b l =>
  show u++(a++c++Str.join c (b::l))=u++a++c++Str.join c (b::l)
  simp only [Str.append_assoc]
theorem Qur (h:Tm t):tx (t::r)≠Str.ofString "0":=λe=>by
 have e:=congrArg (λs:Str=>s.cps.toList) e
 obtain ⟨c,q,hc,c1,c2⟩:=Qfs h
 obtain ⟨z,hz⟩:=Qk7 (Str.ofString " ") (tm t) (ws r)
 have e0:(Str.ofString "0").cps.toList=[48]:=by decide
 simp only [tx,Qn,hz,hc,e0] at e
 unfold fst at e
 split at e
 ·rw [Zl] at e;cases e
 ·rw [Yd] at e
  have:=(List.cons.inj e).1
  exact c1 this
theorem Qh4:Vt x (Str.ofString "-")=decide (x.cps.toList[0]? = some 45):=by
 unfold Vt
 rw [show Str.ofString "-" = ⟨#[45]⟩ by decide]
 have:=StrLaws.subAt_one x 45 0
 rw [Bool.eq_iff_iff,Bool.and_eq_true,decide_eq_true_eq,decide_eq_true_eq]
 exact this
theorem Qi5 (h:Tm t):Vt (tx (t::r)) (Str.ofString "-")=decide (t.2<0):=by
 rw [Qh4]
 obtain ⟨c,q,hc,c1,c2⟩:=Qfs h
 obtain ⟨z,hz⟩:=Qk7 (Str.ofString " ") (tm t) (ws r)
 simp only [tx,Qn,hz,hc]
 unfold fst
 by_cases hn:t.2<0
 ·rw [if_pos hn,Zl];simp [hn]
 ·rw [if_neg hn,Yd];simp [hn,c2]
theorem Qqm (hn:t.2<0):J0 (tx (t::r)) 1=glued (Str.ofString " ") (tm t::ws r):=by
 apply Jc
 unfold J0
 simp only [tx,fst,if_pos hn,Qn,Zl]
 rfl
theorem Quq (hn:¬t.2<0):tx (t::r)=glued (Str.ofString " ") (tm t::ws r):=by
 apply Jc
 simp only [tx,fst,if_neg hn,Qn,Yd]
 rfl
theorem Qe0 (t:Int × Int) (r:List (Int × Int)):Jv (glued (Str.ofString " ") (tm t::ws r)) (Str.ofString " ")=tm t::ws r:=by
 rw [Qmg]
 exact Xw (by simp) λw hw=>by
  rcases List.mem_cons.mp hw with rfl | hw
  ·exact Qft t
  ·exact Qiz r w hw
theorem Qh5 (h:94∉x.cps.toList\/True) {B:List Nat} (e:x.cps.toList=94::B):Vt x (Str.ofString "^-")=decide (B[0]? = some 45):=by
 unfold Vt
 rw [StrLaws.subAt_eq,Jx x,e,show (Str.ofString "^-").length=2 by decide,show (Str.ofString "^-").cps.toList=[94,45] by decide]
 cases B with
 | nil=>rfl
 | cons b B =>
  by_cases hb:b=45
  ·subst hb;simp
  ·simp [hb]
section
variable {zs:List D}
theorem Qay:Qdq x [.str y] k=k (.bl (Vt x y)):=rfl
theorem Qjv:Qs7 x [.str y] k=((y.length == 0)=false/\x.length<=sizeLine/\k (.tup ((Zi x y).map D.str))):=rfl
theorem Qv7:dSlS (.str x) (some i) k=(0<=i/\i.toNat<=x.length/\x.length<=sizeLine/\k (.str (J0 x i.toNat))):=rfl
theorem Qv6 {lo c:Option Int}:dSt (.lst xs) lo hi c k=(Qi xs=true/\c≠some 0/\c≠none/\(Zk xs lo hi c).length<=sizeLine/\k (.lst (Zk xs lo hi c))):=rfl
theorem Qju {k:List D->Prop}:Qoz [.lst xs,.lst zs] k=(Qi xs=true/\Qi zs=true/\k (Ua xs zs)):=rfl
theorem Qv8:dFs x (.int i) k=(i.natAbs.log2<1920/\(x++nw i).length<=sizeLine/\k (.str (x++nw i))):=rfl
end
end S24
variable {k:List PV.D->Prop} {p:PySem.Pos}
namespace PV
open PySem PySem.Spec L2
open PySem.W (Dat kqdP kqdPs kqdOk)
open PyProof.Rows (reads_tuple_at eq_dataH)
section
variable {k:Nat}
def Qyr (d:D) (k:List D->Prop):Prop:=match d with
 | .lst es=>Qi es=true/\k (Qgk 0 es)
 | _=>False
def Quh (i:Nat):WL:=λρ Q=>oget (look ρ i) λd=>Qyr d λl=>Q l ρ
end
theorem Qwh {es:List D}:Qyr (.lst es) k=(Qi es=true/\k (Qgk 0 es)):=rfl
theorem Qnc:Qm1 (.kc (.tup ks)) k=k (ks.map kcD):=rfl
theorem Qr1 {a b:KC} {k:D->D->Prop}:two2 (.kc (.tup [a,b])) k=k (kcD a) (kcD b):=rfl
end PV
variable {k:Nat}
namespace PV
open PySem PySem.Spec L2 PyProof.Rows
def frzK (d:D) (k:D->Prop):Prop:=match d with
 | .lst xs=>Qi xs=true/\k (.kls xs)
 | _=>False
def Qfp (w:WE):WE:=λρ Q=>w ρ λd ρ'=>frzK d λd'=>Q d' ρ'
def asK (Q:D->Env->Prop) (d:D) (ρ:Env):Prop:=match d with
 | .fls xs=>Q (.kls xs) ρ
 | _=>False
theorem Qlk (h:EV X T m true e w):EV X T m true e (Qfp w):=by
 obtain ⟨te,pe,ge⟩:=Qp0 h
 refine ⟨te,pe,λz R σ H W ρ Q Q' s hw k=>ge z R σ H W ρ (asK Q) Q' s ?_ λv H1 W1 d ρ1 F pp qq=>?_⟩
 ·have:(λ(d:D) (ρ':Env)=>frzK d λd'=>Q d' ρ')=λd ρ'=>Qtb d λd'=>asK Q d' ρ':=by
   funext d ρ'
   cases d <;> rfl
  unfold Qfp at hw
  rw [this] at hw
  exact hw
 ·cases d with
  | fls xs =>
   obtain ⟨sr,fr,calm,rep,own⟩:=pp
   cases rep with
   | fls e1 r=>exact k _ H1 W1 (.kls xs) ρ1 [] ⟨sr,fr,calm,.kls (.inl ⟨_,e1⟩) r,own⟩ qq
  | _=>exact (show False from qq).elim
theorem Qdb {k:D->Prop}:frzK (.lst xs) k=(Qi xs=true/\k (.kls xs)):=rfl
end PV
namespace L2
open PySem PySem.Spec PyProof.Rows
open PySem.Sem (wp)
def DK (h h':Heap):Prop:=∀b o,h.get? b=some o->∃o',h'.get? b=some o'/\o'.dict=o.dict/\∀vs,o.data=.fields vs->∃vs':Array Value,o'.data=.fields vs'/\vs'[2]? = vs[2]?
theorem DK.refl (h:Heap):DK h h:=λ_ o e=>⟨o,e,rfl,λvs d=>⟨vs,d,rfl⟩⟩
theorem DK.trans {h1 h2:Heap} (x:DK h h1) (y:DK h1 h2):DK h h2:=λb o e =>
 let ⟨o1,e1,d1,f1⟩:=x b o e
 let ⟨o2,e2,d2,f2⟩:=y b o1 e1
 ⟨o2,e2,d2.trans d1,λvs d=>let ⟨v1,g1,k1⟩:=f1 vs d;let ⟨v2,g2,k2⟩:=f2 v1 g1;⟨v2,g2,k2.trans k1⟩⟩
theorem DK.upd {a:Addr} {f:Obj->Obj} (hf:∀o,h.get? a=some o->(f o).isFreed=false/\(f o).dict=o.dict/\∀vs,o.data=.fields vs->∃vs':Array Value,(f o).data=.fields vs'/\vs'[2]? = vs[2]?):DK h (h.update a f):=λb o e=>by
 by_cases z:a=b
 ·subst z
  exact ⟨_,Heap.get?_update_self f e (hf o e).1,(hf o e).2⟩
 ·exact ⟨o,by rw [Heap.get?_update_other _ _ z];exact e,rfl,λvs d=>⟨vs,d,rfl⟩⟩
theorem DK.psh (h:Heap) (o:Obj):DK h (h.push o):=λb o' e=>⟨o',Heap.get?_push_of_some _ e,rfl,λvs d=>⟨vs,d,rfl⟩⟩
structure KD {α:Type} (t:Sem α):Prop where
 out:∀(M:Model) (Γ:PySem.Ctx) (Q:α->Pos->Shared->Prop) (E:Value->Pos->Shared->Prop) (p:Pos) (s:Shared),wp M Γ t Q E p s->wp M Γ t (λa p' s'=>Q a p' s'/\DK s.heap s'.heap) (λe p' s'=>E e p' s'/\DK s.heap s'.heap) p s
end L2
namespace L2.KD
open PySem PySem.Spec PyProof.Rows
open PySem.Sem (wp)
section
variable {α β:Type}
theorem pure (a:α):KD (Pure.pure a:Sem α):=⟨λ_ _ _ _ _ _ h=>⟨h,.refl _⟩⟩
theorem unsupported (w:String):KD (PySem.unsupported w:Sem α):=⟨λ_ _ _ _ _ _ h=>h⟩
theorem bind {m:Sem α} {f:α->Sem β} (hm:KD m) (hf:∀a,KD (f a)):KD (m >>= f):=⟨λM Γ Q E p s h=>by
 rw [Sem.wp_bind'] at h ⊢
 refine Sem.wp_mono M Γ m (λa p' s' h'=>?_) (λ_ _ _ x=>x) p s (hm.out M Γ _ E p s h)
 exact Sem.wp_mono M Γ (f a) (λ_ _ _ x=>⟨x.1,h'.2.trans x.2⟩) (λ_ _ _ x=>⟨x.1,h'.2.trans x.2⟩) p' s' ((hf a).out M Γ Q E p' s' h'.1)⟩
theorem ite {c:Prop} [Decidable c] {t u:Sem α} (ht:KD t) (hu:KD u):KD (if c then t else u):=by split <;> assumption
theorem load (a:Addr):KD (PySem.load a):=⟨λ_ _ _ _ _ _ ⟨o,e,h⟩=>⟨o,e,h,.refl _⟩⟩
theorem update {a:Addr} {f:Obj->Obj} (hf:∀o:Obj,o.isFreed=false->(f o).isFreed=false/\(f o).dict=o.dict/\(f o).data=o.data):KD (PySem.update a f):=⟨λ_ _ _ _ _ _ ⟨e,h⟩=>⟨e,h,DK.upd λo q=>let ⟨a1,a2,a3⟩:=hf o (Heap.get?_some_iff.mp q).2;⟨a1,a2,λvs d=>⟨vs,a3.trans d,rfl⟩⟩⟩⟩
theorem stack:KD PySem.stack:=⟨λ_ _ _ _ _ _ h=>⟨h,.refl _⟩⟩
theorem alloc (o:Obj):KD (PySem.alloc o):=⟨λ_ _ _ _ _ _ h=>⟨h,.psh _ _⟩⟩
theorem field (v:Value) (i:Nat):KD (PySem.field v i):=⟨λM Γ Q E p s h=>by
 obtain ⟨a,o,vs,x,e1,e2,e3,e4,q⟩:=(wp_field_iff Γ v i Q E p s).mp h
 exact (wp_field_iff Γ v i _ _ p s).mpr ⟨a,o,vs,x,e1,e2,e3,e4,q,.refl _⟩⟩
theorem setField (v:Value) (i:Nat) (x:Value) (hi:i≠2:=by decide):KD (PySem.setField v i x):=⟨λM Γ Q E p s h=>by
 obtain ⟨a,o,vs,e1,e2,e3,e4,q⟩:=(wp_setField_iff Γ v i x Q E p s).mp h
 refine (wp_setField_iff Γ v i x _ _ p s).mpr ⟨a,o,vs,e1,e2,e3,e4,q,DK.upd λo' q'=>?_⟩
 rw [e2] at q'
 cases q'
 refine ⟨Obj.isFreed_of_fields (Obj.data_mapFields e3 _),by obtain ⟨c,d,dt,sl⟩:=o;cases e3;rfl,λvs' q=>⟨_,Obj.data_mapFields e3 _,?_⟩⟩
 rw [e3] at q
 cases q
 rw [Array.getElem?_setIfInBounds_ne hi]⟩
end
end L2.KD
namespace L2
open PySem PySem.Spec PyProof.Rows
open PySem.Sem (wp)
theorem Qku (env:PySem.Env) (outer:List PySem.Env):KD (behindIsImport env outer):=by
 unfold behindIsImport
 repeat' (with_reducible first | assumption | exact KD.pure _ | exact KD.unsupported _ | exact KD.field _ _ | exact KD.setField _ _ _ | exact KD.load _ | exact KD.stack | exact KD.alloc _ | apply KD.ite | apply KD.bind | intro _ | split)
theorem Qn0:KD underTheClaimsCaller:=by
 unfold underTheClaimsCaller
 repeat' (with_reducible first | assumption | exact KD.pure _ | exact KD.unsupported _ | exact KD.field _ _ | exact KD.setField _ _ _ | exact KD.load _ | exact KD.stack | exact KD.alloc _ | apply KD.ite | apply KD.bind | intro _ | split)
theorem Qsz (env:PySem.Env) (i:Bool) (l:List PySem.Env):KD (keptBack env i l):=by
 have:=Qn0
 cases l <;> unfold keptBack <;> repeat' (with_reducible first | assumption | exact KD.pure _ | exact KD.unsupported _ | exact KD.field _ _ | exact KD.setField _ _ _ | exact KD.load _ | exact KD.stack | exact KD.alloc _ | apply KD.ite | apply KD.bind | intro _ | split)
theorem Qhj:∀l:List PySem.Env,KD (readyFrames l)
 | []=>KD.pure _
 | env::outer=>by
  have ih:=Qhj outer
  have h1:=Qku env outer
  have h2:=λi=>Qsz env i outer
  unfold readyFrames
  repeat' (with_reducible first | assumption | exact KD.pure _ | exact KD.unsupported _ | exact KD.field _ _ | exact KD.setField _ _ _ | exact KD.load _ | exact KD.stack | exact KD.alloc _ | apply KD.ite | apply KD.bind | intro _ | split)
  ·exact h2 _
  ·refine KD.update ?_
   intro o h
   obtain ⟨c,d,dt,sl⟩:=o
   cases dt <;> first | exact ⟨rfl,rfl,rfl⟩ | cases h
theorem Qkt:KD frameEnvs:=by
 unfold frameEnvs
 repeat' (with_reducible first | assumption | exact KD.pure _ | exact KD.unsupported _ | exact KD.field _ _ | exact KD.setField _ _ _ | exact KD.load _ | exact KD.stack | exact KD.alloc _ | apply KD.ite | apply KD.bind | intro _ | split)
theorem Qb2 (l:List PySem.Env):KD (frameObject l):=by
 cases l with
 | nil=>exact KD.pure _
 | cons env outer =>
  have:=Qhj (env::outer)
  unfold frameObject
  repeat' (with_reducible first | assumption | exact KD.pure _ | exact KD.unsupported _ | exact KD.field _ _ | exact KD.setField _ _ _ | exact KD.load _ | exact KD.stack | exact KD.alloc _ | apply KD.ite | apply KD.bind | intro _ | split)
theorem Qil (env:PySem.Env):KD (PySem.frameOf env):=by
 have h1:=Qkt
 have h2:=Qb2
 unfold PySem.frameOf
 repeat' (with_reducible first | assumption | exact KD.pure _ | exact KD.unsupported _ | exact KD.field _ _ | exact KD.setField _ _ _ | exact KD.load _ | exact KD.stack | exact KD.alloc _ | apply KD.ite | apply KD.bind | intro _ | split)
 all_goals first | exact h2 _ | skip
theorem Qn1 (f:Addr) (b:Bool):KD (entryPlaceOf f b):=by
 unfold entryPlaceOf
 repeat' (with_reducible first | assumption | exact KD.pure _ | exact KD.unsupported _ | exact KD.field _ _ | exact KD.setField _ _ _ | exact KD.load _ | exact KD.stack | exact KD.alloc _ | apply KD.ite | apply KD.bind | intro _ | split)
theorem Qn2 (a b c d e:Value) (l:List Value):KD (EntryCells.newEntry a b c d e l):=by
 unfold EntryCells.newEntry newFields newObj newObjAsIs
 repeat' (with_reducible first | assumption | exact KD.pure _ | exact KD.unsupported _ | exact KD.field _ _ | exact KD.setField _ _ _ | exact KD.load _ | exact KD.stack | exact KD.alloc _ | apply KD.ite | apply KD.bind | intro _ | split)
theorem Qks (e:Value) (env:PySem.Env):KD (noteFrame e env):=by
 have h1:=Qil env
 have h2:=λf b=>Qn1 f b
 have h3:=λa b c d e l=>Qn2 a b c d e l
 unfold noteFrame
 repeat' (with_reducible first | assumption | exact KD.pure _ | exact KD.unsupported _ | exact KD.field _ _ | exact KD.setField _ _ _ | exact KD.load _ | exact KD.stack | exact KD.alloc _ | apply KD.ite | apply KD.bind | intro _ | split)
 all_goals first | exact h2 _ _ | exact h3 _ _ _ _ _ _ | skip
theorem Qbc (e:Value) (f:Option Addr):KD (setFlight e f):=by
 unfold setFlight
 repeat' (with_reducible first | assumption | exact KD.pure _ | exact KD.unsupported _ | exact KD.field _ _ | exact KD.setField _ _ _ | exact KD.load _ | exact KD.stack | exact KD.alloc _ | apply KD.ite | apply KD.bind | intro _ | split)
theorem Qcr (env:PySem.Env) (e:Value):KD (leaving env e):=by
 have h1:=Qks e env
 have h2:=λf=>Qbc e f
 unfold leaving
 repeat' (with_reducible first | assumption | exact KD.pure _ | exact KD.unsupported _ | exact KD.field _ _ | exact KD.setField _ _ _ | exact KD.load _ | exact KD.stack | exact KD.alloc _ | apply KD.ite | apply KD.bind | intro _ | split)
 all_goals exact h2 _
theorem KD.any {α:Type} {t:Sem α} (k:KD t) {M:Model} {Q:α->Shared->Prop} (h:wpAny M A t Q E s):wpAny M A t (λa s'=>Q a s'/\DK s.heap s'.heap) (λe s'=>E e s'/\DK s.heap s'.heap) s:=λΓ p i=>k.out M Γ _ _ p s (h Γ p i)
end L2
variable {w:PySem.World} {N fI:PySem.Addr} {Q:Unit->PySem.Shared->Prop} {t:Nat} {d:PySem.Drawn} {rest bm sub:List PySem.Value} {nm:PySem.Str} {sn:List PySem.Str} {ab hdct:Bool} {col:Option Bool} {dd:Option PySem.Addr} {newId initId:String}
namespace L2
open PySem PySem.Spec PyProof.Rows
open PySem.W (findIn subIn mroIn clsIn Looks looks_findIn looks_subIn)
section
variable {q:Str} {k0 k1 k2 k3 k5:Option Value} {B:String}
theorem Qh2 (F:ExcBaseFacts B newId initId bmB) (T:OwnTail h bmB bm) {Q:Fin->Shared->Prop} (X:K.In h)
  (hC:h.get? C=some (excClassObj nm q C N bs bm hdct sn sub ab col dd k0 k1 k2 k3 k5 newId)) (hi:findIn K (.ref C) "__init__" = some (some (.ref fI))) (hf:typeIn K (.ref fI)=some (.type "function"))
  (hq:∀h' e,Heap.MadeExcOf h h' e (.ref C) rest->e=h.objs.size+1 -> 
   codeAny (model prog w) A (.call (.ref fI) ⟨.ref e::rest,[]⟩) (λr s'=>r=.ok (.ret .none)/\Q (.done (.ret (.ref e))) s') ⟨h',g,d,t,os⟩) (hrest:rest.length<=sizeLine:=by size_fits) :
  wpAny (model prog w) A (Builtin.«type.__call__» ⟨.ref C::rest,[]⟩) Q E ⟨h,g,d,t,os⟩:=by
 repeat (first | with_reducible refine wpAny_loadPart_at hC ?_ | with_reducible refine wpAny_madeBy_exc hC ?_ | wp_step)
 refine codeAny_call_builtin_code (Code.quiet_builtin _ F.quiet) (wpAny_check_new_subT F T hC ?_)
 refine codeAny_exc_new_subT F T hC ?_ hrest
 show wpAny _ _ _ _ _ _
 have kp:∀b o,h.get? b=some o->((h.push { cls:=.type "tuple",data:=.seq rest.toArray }).push { cls:=.ref C,data:=.fields #[.ref h.objs.size,.none,.none,.none,.bool false,.none] }).get? b=some o:=λb o e=>Heap.get?_push_of_some _ (Heap.get?_push_of_some _ e)
 have hC₁:=kp _ _ hC
 have X₁:=X.keeps kp
 have hget:((h.push { cls:=.type "tuple",data:=.seq rest.toArray }).push
   { cls:=.ref C,data:=.fields #[.ref h.objs.size,.none,.none,.none,.bool false,.none] }).get? (h.objs.size+1)=some
   { cls:=.ref C,data:=.fields #[.ref h.objs.size,.none,.none,.none,.bool false,.none] }:=by heap_get
 have hcC:(Value.ref C::bm).contains (.ref C)=true:=by simp
 have L1:=looks_findIn (M:=model prog w) X₁ hi
 have L2:=PySem.W.bind_fn (M:=model prog w) X₁ (.ref (h.objs.size+1)) hf
 unfold isInstance
 repeat (first | with_reducible refine wpAny_loadPart_at hget ?_ | (with_reducible refine wpAny_isSubtype_exc hC₁ ?_;rw [hcC]) | wp_step)
 show wpAny _ _ (typeLookup (.ref C) _) _ _ _
 refine L1.at ?_
 refine wpAny_holding (wpAny_bind (L2.at ?_))
 refine wpAny_bind (wpAny_call (codeAny_mono (hq _ (h.objs.size+1) ⟨kp,Heap.get?_none_of_le (Nat.le_succ _),h.objs.size,hget,Heap.get?_none_of_le (Nat.le_refl _),Heap.get?_push_of_some _ (Heap.get?_push_at rfl rfl)⟩ rfl) λr s' hr=>?_))
 obtain ⟨rfl,hQ⟩:=hr
 wp_walk
 exact hQ
theorem Qmd (F:ExcBaseFacts B newId initId bmB) (T:OwnTail h bmB bm) {Q:Value->Shared->Prop} (X:K.In h)
  (hC:h.get? C=some (excClassObj nm q C N bs bm hdct sn sub ab col dd k0 k1 k2 k3 k5 newId)) (hi:findIn K (.ref C) "__init__" = some (some (.ref fI))) (hf:typeIn K (.ref fI)=some (.type "function"))
  (hq:∀h' e,Heap.MadeExcOf h h' e (.ref C) rest->e=h.objs.size+1 ->
   codeAny (model prog w) (A.under (.builtin "type.__call__" ⟨.ref C::rest,[]⟩)) (.call (.ref fI) ⟨.ref e::rest,[]⟩) (λr s'=>r=.ok (.ret .none)/\Q (.ref e) s') ⟨h',g,d,t,os⟩) (hrest:rest.length<=sizeLine:=by size_fits) :
  wpAny (model prog w) A (call (.ref C) rest) Q E ⟨h,g,d,t,os⟩:=by
 have f1:=tc_lookup
 have f2:=tc_bind (.ref C)
 have hT:(⟨h,g,d,t,os⟩:Shared).TypeIs (.ref C) "type":=⟨_,hC,rfl⟩
 refine wpAny_call (codeAny_of_tree ?_)
 show wpAny _ _ (callAny (.ref C) _) _ _ _
 repeat (any_goals (first | assumption | with_reducible refine wpAny_loadPart_at hC ?_ | wp_step))
 refine ⟨rfl,?_⟩
 refine codeAny_call_builtin_at (Code.quiet_builtin _ (by decide +kernel)) entry_typeCall (wpAny_check_type_call_sub hC (Qh2 (hrest:=hrest) F T X hC hi hf λh' e hm he=>?_))
 exact hq h' e hm he
end
end L2
variable {dx:Option PySem.Addr}
namespace L2
open PySem PySem.Spec PyProof.Rows
open PySem.W (findIn subIn mroIn clsIn Looks looks_findIn looks_subIn)
open Builtin Builtin.ObjectAttr
abbrev Us (C t:Addr) (dx:Option Addr):Obj:={ cls:=.ref C,dict:=dx,data:=.fields #[.ref t,.none,.none,.none,.bool false,.none] }
theorem Qav (T:OwnTail h bmB bm) (self:Value) (what:Str):refuseLoop self what bm=refuseLoop self what bmB:=by
 induction T with
 | base=>rfl
 | own _ _ _ _ ih=>rw [refuseLoop_ref,ih]
section
variable {q:Str} {x t0:Addr} {k0 k1 k2 k3 k5:Option Value} {B sa owner:String} {v:Value}
theorem Qin (F:ExcBaseFacts B newId initId bmB) (T:OwnTail h bmB bm) {R:Result->Shared->Prop}
  (hC:h.get? C=some (excClassObj nm q C N bs bm hdct sn sub ab col dd k0 k1 k2 k3 k5 newId)) (he:h.get? x=some (Us C t0 dx))
  (hq:∀h',(∃t1,h'.get? x=some (Us C t1 dx))->(∀b o,b≠x->h.get? b=some o->h'.get? b=some o)->R (.ok (.ret .none)) ⟨h',g,d,t,os⟩) :
  codeAny (model prog w) A (.call (.builtin initId) ⟨[.ref x,u],[]⟩) R ⟨h,g,d,t,os⟩:=by
 refine codeAny_call_builtin F.init.plain F.initEntry (wpAny_check_init_subT F T hC he rfl ?_)
 wp_walk
 refine hq _ ⟨h.objs.size,?_⟩ λb o hb e=>?_
 ·rw [Heap.get?_update_self _ (Heap.get?_push_of_some _ he) rfl]
  rfl
 ·rw [Heap.get?_update_other _ _ (Ne.symm hb)]
  exact Heap.get?_push_of_some _ e
theorem Qio (SF:StoreFacts B bmB sa owner) (T:OwnTail h bmB bm) {Q:Fin->Shared->Prop} (X:K.In h)
  (hC:h.get? C=some (excClassObj nm q C N bs bm true sn sub ab col dd k0 k1 k2 k3 k5 newId)) (hna:findIn K (.ref C) name=some none) (he:h.get? x=some (Us C t0 none))
  (hq:∀h' tk',h'.get? x=some (Us C t0 (some h.objs.size))->h'.Ns1 h.objs.size (λy=>if y=name then some v else none)->(∀b o,b≠x->h.get? b=some o->h'.get? b=some o)->Q (.done (.ret .none)) ⟨h',g,d,tk',os⟩) :
  wpAny (model prog w) A (Builtin.«object.__setattr__» ⟨[.ref x,.str name tk,v],[]⟩) Q E ⟨h,g,d,t,os⟩:=by
 have L2:=looks_findIn (M:=model prog w) X hna
 have hpass:refuseLoop (.ref x) "__setattr__" (.ref C::bm)=pure ():=by rw [refuseLoop_ref,Qav T];exact SF.passes _
 obtain ⟨o,eo⟩:∃o,o=Us C t0 none:=⟨_,rfl⟩
 have hc:o.cls=.ref C:=by rw [eo]
 have hdn:o.dict=none:=by rw [eo]
 have hdt:∀c,o.data ≠ .cls c:=λc z=>by rw [eo] at z;cases z
 rw [← eo] at he
 unfold Builtin.«object.__setattr__»
 repeat (first | rw [refuse_eq] | rw [hpass] | (with_reducible refine wpAny_loadPart_at he ?_;rw [hc]) | with_reducible refine wpAny_mroOf_exc hC ?_ | with_reducible refine L2.at ?_ | wp_step)
 rw [hdn,if_neg (by simp [typeHasDict])]
 split
 ·rename_i hcd
  cases hcd
 split
 ·rename_i c hcd
  exact absurd hcd (hdt c)
 have hx₁:(h.push { cls:=.type "dict",data:=.dict #[] }).get? x=some o:=Heap.get?_push_of_some _ he
 have hxs:x≠h.objs.size:=Nat.ne_of_lt (Heap.lt_size he)
 refine wpAny_bind (wpAny_alloc' ?_)
 refine wpAny_bind (wpAny_update' hx₁ ?_)
 refine wpAny_pure ?_
 have hgd:((h.push { cls:=.type "dict",data:=.dict #[] }).update x λo=>{ cls:=o.cls,dict:=some h.objs.size,data:=o.data,slots:=o.slots }).get? h.objs.size
   = some { cls:=.type "dict",data:=.dict #[] }:=(Heap.get?_update_ne _ _ _ _ hxs.symm).trans (Heap.get?_push_at rfl rfl)
 have hnd:((h.push { cls:=.type "dict",data:=.dict #[] }).update x λo=>{ cls:=o.cls,dict:=some h.objs.size,data:=o.data,slots:=o.slots }).Ns h.objs.size (λ_=>none) :=
  ⟨_,#[],_,hgd,rfl,λe he=>absurd he (by simp),λ_=>rfl⟩
 show wpAny _ _ (storeInDict h.objs.size (.str name tk) name v) _ _ _
 unfold storeInDict newKeyGuard
 refine wpAny_bind (wpAny_pure (wpAny_bind (wpAny_nsSet1 (Heap.Ns1.of_empty hnd) λh' hn' hs=>?_)))
 obtain ⟨oD,esD,epD,hoD,hdD,hcD⟩:=hn'.count (Within.cons name v Within.nil)
 refine wpAny_bind (wpAny_lookBehind hoD (by rw [hdD];exact pastItsLine_dict (Nat.le_trans hcD (by rw [List.length_cons,List.length_nil,sizeLine_eq];omega))) ?_)
 wp_walk
 subst eo
 refine hq h' _ ((hs.2 x hxs).trans (Heap.get?_update_self _ hx₁ rfl)) hn' λb ob hbx hb=>?_
 exact (hs.2 b (Nat.ne_of_lt (Heap.lt_size hb))).trans ((Heap.get?_update_ne _ _ _ _ hbx).trans (Heap.get?_push_of_some _ hb))
theorem Qlc (SF:StoreFacts B bmB sa owner) (T:OwnTail h bmB bm) (X:K.In h)
  (hC:h.get? C=some (excClassObj nm q C N bs bm true sn sub ab col dd k0 k1 k2 k3 k5 newId)) (hs:findIn K (.ref C) "__setattr__" = some (some (.builtin sa))) (hna:findIn K (.ref C) name=some none) (he:h.get? x=some (Us C t0 none))
  (hq:∀h' tk',h'.get? x=some (Us C t0 (some h.objs.size))->h'.Ns1 h.objs.size (λy=>if y=name then some v else none)->(∀b o,b≠x->h.get? b=some o->h'.get? b=some o)->Q () ⟨h',g,d,tk',os⟩) :
  wpAny (model prog w) A (setAttr (.ref x) name v) Q E ⟨h,g,d,t,os⟩:=by
 have f3:=SF.slot.bind (.ref x)
 have hc:(Us C t0 none).cls=.ref C:=rfl
 have L1:=looks_findIn (M:=model prog w) X hs
 have L2:=looks_findIn (M:=model prog w) X hna
 have hcB:(Value.ref C::bm).contains (.type owner)=true:=by rw [List.contains_cons,T.hasType SF.hasOwner,Bool.or_true]
 have hpass:refuseLoop (.ref x) "__setattr__" (.ref C::bm)=pure ():=by rw [refuseLoop_ref,Qav T];exact SF.passes _
 unfold setAttr callSpecial? specialOf
 repeat (any_goals (first | assumption | with_reducible refine wpAny_loadPart_at he ?_ | with_reducible refine L1.at ?_ | wp_step))
 refine codeAny_call_builtin SF.slot.plain SF.entry ?_
 have ha:=SF.args (.ref x) (.str name t) v
 simp only [checkBuiltinCall,SF.kind,SF.split]
 refine wpAny_bind ?_
 unfold isInstance
 repeat (first | with_reducible refine wpAny_loadPart_at he ?_ | (with_reducible refine wpAny_isSubtype_exc hC ?_;rw [hcB]) | wp_step)
 have key:=Qio (prog:=prog) (w:=w) (A:=A.in1) (E:=E) (g:=g) (d:=d) (t:=t+1) (os:=os) (tk:=t) SF T X hC hna he (Q:=λfin s'=>match fin with
  | .done (.ret _)=>Q () s'
  | _=>False) λh' tk' a b c=>hq h' tk' a b c
 cases hsig:Manifest.signature? sa with
 | none =>
  refine wpAny_pure (wpAny_mono key (λfin s' z=>?_) λ_ _ y=>y)
  rcases fin with (_ | _ | _ | _) | _ <;> first | exact wpAny_pure (wpAny_pure z) | exact False.elim z
 | some sig =>
  simp only [argsOk,hsig] at ha
  have h2:Bind.checkArgs sa sig ⟨[.ref x,.str name t,v],[]⟩=pure ():=ha
  show wpAny (model prog w) A.in1 (Bind.checkArgs sa sig ⟨[.ref x,.str name t,v],[]⟩) _ E _
  rw [h2]
  refine wpAny_pure (wpAny_mono key (λfin s' z=>?_) λ_ _ y=>y)
  rcases fin with (_ | _ | _ | _) | _ <;> first | exact wpAny_pure (wpAny_pure z) | exact False.elim z
end
end L2
variable {tE:PySem.Addr} {attr:PySem.Str}
namespace L2
open PySem PySem.Spec PyProof.Rows
open PySem.W (findIn subIn mroIn clsIn Looks looks_findIn looks_subIn hideAll of_hideAll hideAll_get hideAll_none funFrames_hide)
def exO (a C:Addr) (dx:Option Addr):HO:=.ext λh=>∃t,h.get? a=some (Us C t dx)
theorem Qlf {a:Addr} (e:∃t,h.get? a=some (Us C t dx)):Ye P w H h a (exO a C dx):=⟨e,let ⟨_,q⟩:=e;⟨_,q⟩,λ_ _ ⟨t,q⟩ k=>⟨t,k _ q⟩⟩
abbrev mroV:List Value:=[.type "ValueError",.type "Exception",.type "BaseException",.type "object"]
structure ExcC (K:Frag) (C:Addr):Prop where
 obj:∃(nm q:Str) (N:Addr) (bs bm:List Value) (sn:List Str) (sub:List Value) (ab:Bool) (col:Option Bool) (dd:Option Addr) (k0 k1 k2 k3 k5:Option Value),bm.contains (.type "BaseException")=true /\
  ∀h:Heap,K.In h->h.get? C=some (excClassObj nm q C N bs bm true sn sub ab col dd k0 k1 k2 k3 k5 "ValueError.__new__")/\OwnTail h mroV bm
 sa:findIn K (.ref C) "__setattr__" = some (some (.builtin "object.__setattr__"))
section
variable {te:Str} {e1 o:Expr}
theorem Qj1 (hg:Gl X te) (hm:X.mg te=some (.ref tE)) (hsp:specialIn X.K (.ref tE) "__getattribute__" = some (some (.builtin "type.__getattribute__"))) (hrd:readsIn X.K tE (.type "type")=true)
  (hfc:findCls X.K (.ref tE) (.type "type") "__init__" = some (.val (.builtin "ValueError.__init__"))) (ha:PA X (e₀::es) ta)
  (hs:swapsWith (.Call (.Attribute (.Name te p) "__init__" apos) (e₀::es) [] cpos) none pos.line X.env=pure false:=by rfl) (hdb:(te == ("__debug__" : Str))=false:=by decide)
  (he:starEach (e₀::es) X.env=(false,eval e₀ X.env)::starEach es X.env:=by rfl) (hpl:(backTo cpos (starEach es X.env)).any (·.1)=false:=by rfl)
  {pl:Sem Bool} (ht:eval (.Call (.Attribute (.Name te p) "__init__" apos) (e₀::es) [] cpos) X.env=(do
   let ov ← eval (.Name te p) X.env
   standAt apos.atName
   let (f,first) ← holding [ov] (getMethod ov "__init__" pl)
   callWith cpos f first (backTo cpos (starEach (e₀::es) X.env)) (backToKw cpos (keywordEach [] X.env))):=by rfl) :
  PS X (.Expr (.Call (.Attribute (.Name te p) "__init__" apos) (e₀::es) [] cpos) pos) (λD σ H=>ta σ H λvs H1=>∃a C v,vs=[.ref a,v]/\H1 a=some (exO a C none)/\ExcC X.K C/\D.nx σ H1):=by
 intro pins s σ H D I h
 refine wpAny_Expr_any ?_ I.quiet hs
 refine PySem.W.methodCall_KW (pl:=pl) (Xe I hg hm ?_ hdb) ht
 refine PySem.W.method_cls I.kIn hsp (PySem.W.cls_value I.kIn hrd hfc rfl ?_)
 have hA:=ha cpos pins { s with toks:=s.toks+1 } σ H _ (I.tok _) h
 rw [he] at hA ⊢
 refine Calls.callWith_builtin (by show (false || (backTo cpos (starEach es X.env)).any (·.1))=false;rw [hpl] <;> rfl) (Calls.evalArgs_plain ?_)
 refine thn hA λus s2 ⟨vs,H2,I2,r2,a,C,v,ev,hH,hC,q⟩=>?_
 subst ev
 obtain ⟨u,u2,rfl,ru,ru2⟩:=Qhy r2
 cases ru
 obtain ⟨nm,qq,N,bs,bm,sn,sub,ab,col,dd,k0,k1,k2,k3,k5,hb,hob⟩:=hC.obj
 obtain ⟨h1,h2⟩:=hob s2.heap I2.kIn
 obtain ⟨⟨t,e⟩,_⟩:=I2.hok a _ hH
 obtain ⟨hp,g,d,tk,os⟩:=s2
 refine wpAny_call (Qin F.excBase_ValueError h2 h1 e λh' hx hk=>?_)
 refine ⟨σ,H2,?_,q⟩
 have I3:=I2.write (x:=a) (e:=a) (o:=exO a C none) (h':=h') (t':=tk) (by rw [hH];exact True.intro) (.inl rfl) (λb u hb z=>hk b u hb z) (let ⟨_,q⟩:=hx;⟨_,q⟩) (Qlf hx)
 have eq:upd H2 a (exO a C none)=H2:=funext λb=>by
  by_cases z:b=a
  ·subst z;rw [Ql,hH]
  ·rw [Qk z]
 rw [eq] at I3
 exact I3
theorem Qr6 {tv:TE} (ha:PE X o to) (hv:PE X value tv) (hs:swapsWith value (some (.Attribute o attr pos')) pos.line X.env=pure false:=by rfl) :
  PS X (.Assign [.Attribute o attr pos'] value pos) (λD σ H=>tv σ H λv H1=>to σ H1 λy H2=>∃a C,y=.ref a/\H2 a=some (exO a C none)/\ExcC X.K C/\findIn X.K (.ref C) attr=some none /\
   ∀d,H2 d=none->d≠a->D.nx σ (upd (upd H2 a (exO a C (some d))) d (.xd [(attr,v)]))):=by
 intro pins s σ H D I h
 refine plainObj_wpAny_Assign_Attribute (thn (hv pins s σ H _ I h) λu s1 ⟨y,H1,I1,ry,q⟩=>thn (ha pins s1 σ H1 _ I1 q) λov s2 ⟨x,H2,I2,rx,a,C,ex,hH,hC,hn,q2⟩=>?_) hs
 subst ex
 obtain rfl:ov=Value.ref a:=rx
 obtain ⟨nm,qq,N,bs,bm,sn,sub,ab,col,dd,k0,k1,k2,k3,k5,hb,hob⟩:=hC.obj
 obtain ⟨h1,h2⟩:=hob s2.heap I2.kIn
 obtain ⟨⟨t,e⟩,_⟩:=I2.hok a _ hH
 obtain ⟨hp,g,dr,tk,os⟩:=s2
 refine Qlc F.store_ValueError h2 I2.kIn h1 hC.sa hn e λh' tk' e1 ns hk=>?_
 have hne:hp.objs.size≠a:=Nat.ne_of_gt (Heap.lt_size e)
 have hf:H2 hp.objs.size=none:=I2.hok.fresh (Nat.le_refl _)
 refine ⟨σ,_,?_,q2 hp.objs.size hf hne⟩
 have nk:∀b u,H2 b=some u->¬Mut (some u)->b≠a:=λb u q nm z=>by subst z;rw [hH] at q;cases q;exact nm True.intro
 have nd:∀b u,H2 b=some u->b≠hp.objs.size:=λb u q z=>by rw [z,hf] at q;cases q
 refine I2.un (h':=h') (t':=tk') ⟨λb o q n _ _=>hk b o (λz=>by rw [z,hH] at n;cases n) q,λb o q n _ _=>⟨o.slots,hk b o (λz=>by rw [z,hH] at n;cases n) q⟩,λb o q n _=>?_,λb o q _=>?_,λb xs q=>?_,λb o u q=>?_,λb ps q=>⟨#[],?_⟩⟩ λb u q=>?_
 ·rw [Qk (Nat.ne_of_lt (Heap.lt_size q)),Qk (λz=>by rw [z,hH] at n;cases n)]
  exact n
 ·by_cases z:b=a
  ·subst z;exact ⟨_,e1⟩
  ·exact ⟨_,hk b o z q⟩
 ·rw [Qk (nd b _ q),Qk (nk b _ q λz=>z)];exact q
 ·rw [Qk (nd b _ q),Qk (nk b _ q λz=>z)];exact q
 ·rw [Qk (nd b _ q),Qk (nk b _ q λz=>z),q];simp
 ·by_cases z:b=hp.objs.size
  ·subst z
   rw [Ql] at q
   cases q
   refine ⟨_,ns,λg=>?_⟩
   by_cases zz:g=attr
   ·subst zz
    simp only [List.lookup,beq_self_eq_true,if_true]
    exact ry
   ·have:(g == attr)=false:=by simpa using zz
    simp only [List.lookup,this,if_neg zz]
    exact True.intro
  ·rw [Qk z] at q
   by_cases z2:b=a
   ·subst z2
    rw [Ql] at q
    cases q
    exact Qlf ⟨t,e1⟩
   ·rw [Qk z2] at q
    refine (I2.hok b u q).stay (λc w hc y=>hk c w ?_ y) (λc y=>?_) (λc xs y=>?_) λc o1 o2 _ y _=>?_
    ·rcases hc with rfl | hc
     ·exact z2
     ·exact nk c _ hc λz=>z
    ·rw [Qk (nd c _ y),Qk (nk c _ y λz=>z)];exact y
    ·rw [Qk (nd c _ y),Qk (nk c _ y λz=>z)];exact y
    ·rw [Qk (nd c _ y),Qk (nk c _ y λz=>z)];exact y
end
section
variable {e1 o:Expr} {e d:Addr}
def Qbo (H:Hp) (e d:Addr) (u:HO):Hp:=λb=>if b=e then none else if b=d then some u else H b
theorem Inv.refrz (I:Inv X pins σ H s) (he:H e=some (exO e C dx)) (hd:H d=some (.xd fs)):∃od t,s.heap.get? e=some (Us C t dx)/\Inv X pins σ (Qbo H e d (.frz od (.xd fs))) s:=by
 obtain ⟨⟨t,e1⟩,_⟩:=I.hok e _ he
 obtain ⟨od,e2⟩:=(I.hok d _ hd).there
 refine ⟨od,t,e1,?_⟩
 have kd:∀b u,H b=some u->(∀φ,u ≠ .ext φ)->(∀fs,u ≠ .xd fs)->Qbo H e d (.frz od (.xd fs)) b=some u:=λb u q n1 n2=>by
  unfold Qbo
  rw [if_neg (λz=>by rw [z,he] at q;cases q;exact n1 _ rfl),if_neg (λz=>by rw [z,hd] at q;cases q;exact n2 _ rfl)]
  exact q
 refine I.un (h':=s.heap) (t':=s.toks) ⟨λb o q n _ _=>q,λb o q n _ _=>⟨o.slots,q⟩,λb o q n _=>?_,λb o q _=>⟨o,q⟩,λb xs q=>kd _ _ q (λ_ z=>by cases z) (λ_ z=>by cases z),λb o u q=>kd _ _ q (λ_ z=>by cases z) (λ_ z=>by cases z),λb ps q=>⟨#[],?_⟩⟩ λb u q=>?_
 ·unfold Qbo
  by_cases z:b=e
  ·rw [if_pos z]
  ·rw [if_neg z,if_neg (λz=>by rw [z,hd] at n;cases n)]
   exact n
 ·rw [kd _ _ q (λ_ z=>by cases z) (λ_ z=>by cases z)];simp
 ·have st:∀{a u},Ye X.prog X.w H s.heap a u->Ye X.prog X.w (Qbo H e d (.frz od (.xd fs))) s.heap a u:=λok=>ok.stay (λ_ _ _ z=>z) (λc y=>kd _ _ y (λ_ z=>by cases z) (λ_ z=>by cases z)) (λc xs y=>kd _ _ y (λ_ z=>by cases z) (λ_ z=>by cases z)) λc o1 o2 _ y _=>kd _ _ y (λ_ z=>by cases z) (λ_ z=>by cases z)
  unfold Qbo at q
  by_cases z:b=e
  ·rw [if_pos z] at q;cases q
  ·rw [if_neg z] at q
   by_cases z2:b=d
   ·rw [if_pos z2] at q
    cases q
    subst z2
    exact ⟨e2,st (I.hok b _ hd)⟩
   ·rw [if_neg z2] at q
    exact st (I.hok b u q)
end
section
variable {e d:Addr} {M:Model} {q:Str} {k0 k1 k2 k3 k5:Option Value}
theorem Qh8 {x:Sem Value} {Q:Flow->Shared->Prop} (hbase:bm.contains (.type "BaseException")=true) (hh:A.handled=none)
  (h:wpAny M A x (λv s₁=>∃e t dx,v=.ref e/\s₁.heap.get? C=some (excClassObj nm q C N bs bm hdct sn sub ab col dd k0 k1 k2 k3 k5 newId)/\s₁.heap.get? e=some (Us C t dx)/\E (.ref e) s₁) E s) :
  wpAny M A (raiseStmt env (some x) none) Q E s:=by
 have hcB:(Value.ref C::bm).contains (.type "BaseException")=true:=by rw [List.contains_cons,hbase,Bool.or_true]
 unfold raiseStmt
 refine wpAny_bind (wpAny_mono h (λv s₁ h₁=>?_) λ_ _ x=>x)
 obtain ⟨e,t,dx,rfl,hC,he,hE⟩:=h₁
 obtain ⟨hp,g,d,tk,os⟩:=s₁
 repeat (first | with_reducible refine wpAny_loadPart_at he ?_ | with_reducible refine wpAny_loadPart_at hC ?_ | (with_reducible refine wpAny_isSubtype_exc hC ?_;rw [hcB]) | wp_step)
 exact wpAny_raiseNew_none hh hE
end
end L2
variable {l:List PySem.Env}
namespace L2
open PySem PySem.Spec PyProof.Rows
open PySem.W (hideAll of_hideAll hideAll_get hideAll_none funFrames_hide)
section
variable {M:Model} {L e:Addr} {cls a0:Value}
theorem KD.unit {t:Sem Unit} (k:KD t) {R:Heap->Prop} (h:wpAny M A t (λ_ s'=>∃h',s'={ s with heap:=h' }/\R h') (λ_ _=>False) s) (hQ:∀h',R h'->DK s.heap h'->Q () { s with heap:=h' }):wpAny M A t Q E s :=
 wpAny_mono (k.any h) (λ_ s' ⟨⟨h',e,r⟩,d⟩=>by subst e;exact hQ h' r d) λ_ _ z=>z.1.elim
theorem Qsx (hfr:A.frames=some (env::outer)) (hf:env.frame=some L) (hfl:Heap.FlyingW base (env::outer) e cls a0 s.heap)
  (hQ:∀h',Heap.FlyingW base outer e cls a0 h'/\s.heap.UpToSlots h'->DK s.heap h'->Q () { s with heap:=h' }):wpAny M A (leaving env (.ref e)) Q E s :=
 (Qcr _ _).unit (wpAny_leaves_onW hfr hf hfl λh' a b=>⟨h',rfl,a,b⟩) hQ
theorem Qpp (hfr:A.frames=some (env::outer)) (hf:env.frame=some L) (hfl:Heap.FlyingW base (env::outer) e cls a0 s.heap)
  (hQ:∀h',Heap.HeldW base (env::outer) e cls a0 L h'/\s.heap.UpToSlots h'->DK s.heap h'->Q () { s with heap:=h' }):wpAny M A (noteFrame (.ref e) env) Q E s :=
 (Qks _ _).unit (wpAny_looks_onW hfr hf hfl λh' a b=>⟨h',rfl,a,b⟩) hQ
theorem Qpq (hh:Heap.HeldW base l e cls a0 L s.heap) (hQ:∀h',Heap.FlyingW base l e cls a0 h'/\s.heap.UpToSlots h'->DK s.heap h'->Q () { s with heap:=h' }):wpAny M A (setFlight (.ref e) none) Q E s :=
 (Qbc _ _).unit (wpAny_landsW hh λh' a b=>⟨h',rfl,a,b⟩) hQ
theorem Qzb (hh:Heap.FlyingW base l e cls a0 s.heap) (hQ:∀h',Heap.FlyingW base l e cls a0 h'/\s.heap.UpToSlots h'->DK s.heap h'->Q () { s with heap:=h' }):wpAny M A (setFlight (.ref e) none) Q E s :=
 (Qbc _ _).unit (lands_againW hh λh' a b=>⟨h',rfl,a,b⟩) hQ
end
def V5 (h:Heap) (e:Addr) (dx:Option Addr):Prop:=∃o,h.get? e=some o/\o.dict=dx/\∃vs:Array Value,o.data=.fields vs/\vs[2]? = some .none
theorem V5.on {e:Addr} (x:V5 h e dx) (k:DK h h'):V5 h' e dx:=by
 obtain ⟨o,a,b,vs,c1,c2⟩:=x
 obtain ⟨o',a',b',f⟩:=k e o a
 obtain ⟨vs',g1,g2⟩:=f vs c1
 exact ⟨o',a',b'.trans b,vs',g1,g2.trans c2⟩
def CXD (P:Program) (w:World) (base:Heap):CXT:=λouter H s E e s'=>∃ea C t dx B H',e=.ref ea/\Fly P w base B outer H s C ea t H' s'/\V5 s'.heap ea dx/\E (.ref C) dx H'
section
variable {t:Addr}
theorem Qbb {M:Model} (p:X.Plain) (I:Inv X pins σ H s) (he:s.heap.get? ea=some (Us C t dx)) (hn:H ea=none) (h0:X.s₀.heap.get? ea=none)
  (hQ:∀h' B,Fly X.prog X.w X.base B X.outer X.H₀ X.s₀ C ea t H { s with heap:=h' }->V5 h' ea dx->Q () { s with heap:=h' }):wpAny M X.A (leaving X.env (.ref ea)) Q E s:=by
 have hex:∀b,b∉X.ex:=λb=>by rw [p.ex];simp
 have hne:∀b o,X.s₀.heap.get? b=some o->b≠ea:=λb o q z=>by rw [z,h0] at q;cases q
 have hB:(hideAll s.heap (ea::frs X.stack)).StaysIn s.heap:=λb o q=>of_hideAll _ q
 have inB:∀b o,s.heap.get? b=some o->b≠ea->b∉frs X.stack->(hideAll s.heap (ea::frs X.stack)).get? b=some o:=λb o e n1 n=>hideAll_get _ e (λz=>(List.mem_cons.mp z).elim n1 n)
 have hfrm:s.heap.FunFrames (hideAll s.heap (ea::frs X.stack)) X.stack:=funFrames_hide I.stack λenv he a ha=>List.mem_cons_of_mem _ (List.mem_filterMap.mpr ⟨env,he,ha⟩)
 have hen:(hideAll s.heap (ea::frs X.stack)).get? ea=none:=hideAll_none _ (List.mem_cons_self ..)
 refine (Qcr _ _).unit (R:=λh'=>Heap.LeftW (hideAll s.heap (ea::frs X.stack)) (X.env::X.outer) ea (.ref C) (.ref t) s.heap h') (wpAny_leaving_firstW (outer:=X.outer) (env:=X.env) (a0:=.ref t) (by rw [← p.stk];exact I.ok.frames) (by rw [← p.stk];exact hfrm) p.frame he hB hen rfl rfl rfl λh' hL=>⟨h',rfl,hL⟩) λh' hL dk=>?_
 obtain ⟨k1,⟨_,_,k2⟩,k3,x4⟩:=hL
 have x1:Heap.FlyingW (hideAll s.heap (ea::frs X.stack)) X.outer ea (.ref C) (.ref t) h':=⟨k1,hen,k2,k3⟩
 refine hQ h' (hideAll s.heap (ea::frs X.stack)) ?_ (V5.on ⟨_,he,rfl,_,rfl,rfl⟩ dk)
 have nst:∀b o,X.s₀.heap.get? b=some o->b∉frs X.outer->b∉frs X.stack:=λb o e nf z=>(p.mem.mp z).elim (I.old e) nf
 have kp:∀b ob,X.s₀.heap.get? b=some ob->X.H₀ b=none->b∉frs X.outer->(hideAll s.heap (ea::frs X.stack)).get? b=some ob:=λb o e n nf=>inB b o (I.base.keep b o e n nf (hex b)) (hne b o e) (nst b o e nf)
 have th:∀b ob,X.s₀.heap.get? b=some ob->b∉frs X.outer->∃o',(hideAll s.heap (ea::frs X.stack)).get? b=some o':=λb o e nf=>by
  obtain ⟨o1,e1⟩:=I.base.there b o e (hex b)
  exact ⟨o1,inB b o1 e1 (hne b o e) (nst b o e nf)⟩
 have dom:∀b o,H b=some o->∃ob,(hideAll s.heap (ea::frs X.stack)).get? b=some ob:=λb o e=>by
  obtain ⟨ob,eb⟩:=(I.hok b o e).there
  exact ⟨ob,inB b ob eb (λz=>by rw [z,hn] at e;cases e) λz=>by rw [I.stkFree b z] at e;cases e⟩
 refine ⟨I.os,I.bare,⟨λb o e n nf _=>x1.1 b o (kp b o e n nf),λb o e n hb _=>?_,λb o e n _=>I.base.free b o e n (hex b),λb o e _=>?_,I.base.tups,I.base.frzs,I.base.tbls⟩,Qhk I.hok dom hB x1.1,λb o e=>inB b o (I.bk b o e) (hne b o (I.ok.bs b o e).1) λz=>?_,dom,kp,th,x1,h0⟩
 ·obtain ⟨sl,e1⟩:=I.base.slot b o e n hb (hex b)
  obtain ⟨_,o',e3,nd⟩:=I.stack.mem (p.mem.mpr (.inr hb))
  have z:=e1.symm.trans e3
  cases z
  obtain ⟨sl',e4⟩:=x4 b { o with slots:=sl } e1 nd
  exact ⟨sl',e4⟩
 ·by_cases hb:b∈frs X.outer
  ·obtain ⟨_,o',e3,nd⟩:=I.stack.mem (p.mem.mpr (.inr hb))
   obtain ⟨sl,e4⟩:=x4 b _ e3 nd
   exact ⟨_,e4⟩
  ·obtain ⟨o',e1⟩:=th b o e hb
   exact ⟨_,x1.1 b o' e1⟩
 ·have:=(I.stack.mem z).1
  rw [e] at this
  cases this
theorem Qkn {M:Model} (p:X.Plain) (I:Inv X pins σ H s) (f:Fly X.prog X.w X.base B X.stack H s C ea t H' s') (fd:V5 s'.heap ea dx)
  (hQ:∀h',Fly X.prog X.w X.base B X.outer X.H₀ X.s₀ C ea t H' { s' with heap:=h' }->V5 h' ea dx->Q () { s' with heap:=h' }):wpAny M X.A (leaving X.env (.ref ea)) Q E s' :=
 Qsx (by rw [← p.stk];exact I.ok.frames) p.frame (by rw [← p.stk];exact f.fly) λh' x k=>hQ h' (f.out p I x.1 x.2) (fd.on k)
theorem Fly.landedD (I:Inv X pins σ H s) (f:Fly X.prog X.w X.base B X.stack H s C ea t H' s') (fd:V5 s'.heap ea dx):∃(ob:Obj) (φ:Heap->Prop),ob.cls=.ref C/\(ob.dict=dx/\∃vs:Array Value,ob.data=.fields vs/\vs[2]? = some .none)/\H' ea=none/\Inv X pins σ (upd H' ea (.frz ob (.ext φ))) s':=by
 obtain ⟨ob,φ,hc,hn,J⟩:=f.landed I
 refine ⟨ob,φ,hc,?_,hn,J⟩
 obtain ⟨o1,e1,d1⟩:=fd
 obtain ⟨e2,_⟩:=J.hok ea _ Ql
 rw [e1] at e2
 cases e2
 exact d1
end
section
variable {t:Addr} {n:Str} {j:Nat}
theorem Ql5 {D:Ends} (p:X.Plain) (I:Inv X pins σ H s) (f:Fly X.prog X.w X.base B X.stack H s C ea t H' s') (fd:V5 s'.heap ea dx) (hcx:X.mg cx=some (.ref C0)) (hg:Gl X cx) (hm:exmOne X.K (.ref C) (.ref C0)=some true)
  (hN:X.N.Nodup) (hj:X.N[j]? = some n) (hl:X.env.kindOf n=some .local) (hlo:X.env.scope.names.lookup n=some .local) (hh:PSs (X.han ea) (b₀::suite) th)
  (hw:∀(ob:Obj) (φ:Heap->Prop),ob.cls=.ref C->(ob.dict=dx/\∃vs:Array Value,ob.data=.fields vs/\vs[2]? = some .none)->H' ea=none->th (D.un j) (σ.set j (some (.ref ea))) (upd H' ea (.frz ob (.ext φ)))) (hdb:(cx == ("__debug__" : Str))=false:=by decide) :
  wpAny (model X.prog X.w) X.A (noteFrame (.ref ea) X.env) (λ_ s₂=>wpAny (model X.prog X.w) X.A (setFlight (.ref ea) none) (λ_ s₃=>wpAny (model X.prog X.w) X.A (handleBy (.ref ea) X.env [.ExceptHandler (some (.Name cx np)) (some n) (b₀::suite) hpos]) (SP X pins D) X.xe s₃) X.xe s₂) X.xe s':=by
 have hfr:X.A.frames=some (X.env::X.outer):=by rw [← p.stk];exact I.ok.frames
 have fl:=f.fly
 have fl':Heap.FlyingW B (X.env::X.outer) ea (.ref C) (.ref t) s'.heap:=by rw [← p.stk];exact fl
 refine Qpp hfr p.frame fl' λh₄ ⟨hheld,hsm₄⟩ d4=>?_
 refine Qpq hheld λh₅ ⟨hfl5,hsm5⟩ d5=>?_
 have f5:=f.on (by rw [p.stk];exact hfl5) (hsm₄.trans hsm5)
 have fd5:=(fd.on d4).on d5
 refine wpAny_handleBy_cons (codeAny_handlers_test ?_) (by intro q;cases q)
 obtain ⟨ob5,φ5,hc5,hn5,I5⟩:=f5.landed I
 have I5h:=I5.han ea
 refine Xe (X:=X.han ea) I5h hg hcx ?_ hdb
 obtain ⟨oe,eoe,hoe⟩:=f5.fly.there
 have LT:PySem.W.Looks (model X.prog X.w) h₅ (typeOf (.ref ea)) (.ref C):=by
  rw [← hoe]
  exact (PySem.W.Looks.ld eoe).andThen .now
 refine (PySem.W.exm_one (M:=model X.prog X.w) I5.kIn LT hm).at ?_
 refine codeAny_handlers_suite_as ?_
 refine Qzb hfl5 λh₆ ⟨hfl6,hsm6⟩ d6=>?_
 have f6:=f5.on (by rw [p.stk];exact hfl6) hsm6
 obtain ⟨ob,φ,hc,hdx,hn,I6⟩:=f6.landedD I (fd5.on d6)
 refine Qc1 I6 hN hj (.inl hlo) (v:=.ref ea) rfl (λs7 I7=>?_) (.inr hlo)
 refine wpAny_mono (hh pins s7 _ _ (D.un j) (I7.han ea) (hw ob φ hc hdx hn)) (λfl s8 q=>?_) λ_ _ z=>False.elim z
 cases fl with
 | next =>
  obtain ⟨σ',H'',J,q⟩:=q
  exact U2 (J.unhan I.ok) hN hj hl λs9 I9=>⟨_,_,I9,q⟩
 | brk =>
  obtain ⟨σ',H'',J,q⟩:=q
  exact U2 (J.unhan I.ok) hN hj hl λs9 I9=>⟨_,_,I9,q⟩
 | cont =>
  obtain ⟨σ',H'',J,q⟩:=q
  exact U2 (J.unhan I.ok) hN hj hl λs9 I9=>⟨_,_,I9,q⟩
 | ret u =>
  obtain ⟨v,σ',H'',J,r,q⟩:=q
  exact U2 (J.unhan I.ok) hN hj hl λs9 I9=>⟨v,_,_,I9,r,q⟩
def Qqa (X:Cx) (body:List Stmt) (tb:Ends->XK->St->Hp->Prop):Prop:=∀(pins:List (Addr × Obj)) (s:Shared) (σ:St) (H:Hp) (D:Ends) (E:XK),Inv X pins σ H s->tb D E σ H ->
 wpAny (model X.prog X.w) X.A (execs body X.env) (SP X pins D) (λe s'=>∃s1 H1,Inv X pins σ H1 s1/\CXD X.prog X.w X.base X.stack H1 s1 E e s') s
theorem Qr7 {tb:Ends->XK->St->Hp->Prop} {th:Addr->TS} (p:X.Plain) (hb:Qqa X body tb) (hcx:X.mg cx=some (.ref C0)) (hg:Gl X cx) (hN:X.N.Nodup) (hj:X.N[j]? = some n) (hl:X.env.kindOf n=some .local) (hlo:X.env.scope.names.lookup n=some .local)
  (hh:∀ea,PSs (X.han ea) (b₀::suite) (th ea)) (hdb:(cx == ("__debug__" : Str))=false:=by decide) :
  PS X (.Try body [.ExceptHandler (some (.Name cx np)) (some n) (b₀::suite) hpos] [] [] pos) (λD σ H=>tb D (λc dx H'=>∃C,c=.ref C/\exmOne X.K (.ref C) (.ref C0)=some true/\∀(ea:Addr) (ob:Obj) (φ:Heap->Prop),ob.cls=.ref C->(ob.dict=dx/\∃vs:Array Value,ob.data=.fields vs/\vs[2]? = some .none)->H' ea=none->th ea (D.un j) (σ.set j (some (.ref ea))) (upd H' ea (.frz ob (.ext φ)))) σ H):=by
 intro pins s σ H D I h
 refine wpAny_Try_except (wpAny_mono (hb pins s σ H D _ I h) (λfl s1 q=>?_) λe s' z=>?_)
 ·cases fl with
  | next=>exact wpAny_execs_nil q
  | brk=>exact q
  | cont=>exact q
  | ret u=>exact q
 ·obtain ⟨s1,H1,I1,ea,C,t,dx,B,H',rfl,f,fd,C',e,hm,hw⟩:=z
  cases e
  exact Ql5 p I1 f fd hcx hg hm hN hj hl hlo (hh ea) (λob φ h1 h2 h3=>hw ea ob φ h1 h2 h3) hdb
theorem Qfd {Q:VK} {E:XK} (F:FnOk X.prog X.w X.K X.mg X.base CX k f fd ps sp) (hr:Room k X.A) (hg:Gl X x) (hm:X.mg x=some (.ref f)) (hk:keepIn X.K (.ref f)=true) (hb:Xm X.K fd ps [])
  (ha:PA X.nox (e₀::es) ta) (I:Inv X pins σ H s) (h:ta σ H λvs H1=>sp vs H1 Q E) (hdb:(x == ("__debug__" : Str))=false:=by decide)
  (he:starEach (e₀::es) X.env=(false,eval e₀ X.env)::starEach es X.env:=by rfl) (hpl:(backTo pos (starEach es X.env)).any (·.1)=false:=by rfl) :
  wpAny (model X.prog X.w) X.A (eval (.Call (.Name x p) (e₀::es) [] pos) X.env) (EP X pins σ Q) (λe s'=>∃s1 H1,Inv X pins σ H1 s1/\CX X.stack H1 s1 E e s') s:=by
 refine wpAny_Call_Name_kw (Xe I hg hm ?_ hdb)
 refine callWith_K (K:=X.K) (h₀:=X.base) I.ok.mod.kin hk (wpAny_mono (ha pos pins s σ H _ (I.wish _) h) (λus s1 z=>?_) λ_ _ z=>False.elim z) he hpl
 obtain ⟨vs,H1,I1,r,q⟩:=z
 have I1:=I1.unwish
 have hl:(us++[]).length=ps.length:=by rw [List.append_nil,← r.length];exact F.len _ _ _ _ q
 have hbb:=hb s1 us I1.kIn hl
 rw [List.append_nil] at hbb
 refine ⟨I1.kIn,wpAny_call (codeAny_mono (F.run X.A X.stack s1 H1 ⟨us,[]⟩ us vs Q E hr I1.env0 hbb r q) λr s' hq=>?_)⟩
 cases r with
 | error e=>exact ⟨s1,H1,I1,hq⟩
 | ok fl =>
  cases fl with
  | ret u=>exact I1.after hq
  | next=>exact False.elim hq
  | brk=>exact False.elim hq
  | cont=>exact False.elim hq
end
end L2
variable {Q:PySem.Value->PySem.Shared->Prop} {expr:Bool}
namespace L2
open PySem PySem.Spec PyProof.Rows
open PySem.W (findIn subIn mroIn clsIn Looks looks_findIn looks_subIn InstAt KitX)
section
variable {a dx:Addr} {o:Obj}
theorem Qlb {Q:Fin->Shared->Prop} (X:K.In h) (kc:ExcC K C) (hl:findIn K (.ref C) name=some none) (hx:h.get? a=some o) (hc:o.cls=.ref C) (hd:o.dict=some dx) (hdt:∃vs,o.data=.fields vs) (hn:h.Ns dx mA) (hu:mA name=some u) (hh:handedIn u=true) (hq:Q (.done (.ret u)) ⟨h,g,d,t,os⟩) :
  wpAny (model prog w) A (Builtin.«object.__getattribute__» ⟨[.ref a,.str name tk],[]⟩) Q E ⟨h,g,d,t,os⟩:=by
 have L1:=looks_findIn (M:=model prog w) X hl
 unfold Builtin.«object.__getattribute__»
 repeat (any_goals (first | assumption | (with_reducible refine wpAny_loadPart_at hx ?_;first | rw [hc] | rw [hd]) | with_reducible refine L1.at ?_ | wp_step))
 obtain ⟨vs,hdt⟩:=hdt
 rw [hdt]
 unfold instanceDict
 obtain ⟨nm,qq,N,bs,bm,sn,sub,ab,col,dd,k0,k1,k2,k3,k5,hb,hob⟩:=kc.obj
 obtain ⟨hC,_⟩:=hob h X
 repeat (any_goals (first | assumption | (with_reducible refine wpAny_loadPart_at hx ?_;first | rw [hc] | rw [hd]) | with_reducible refine L1.at ?_ | wp_step))
 rw [hd]
 refine wpAny_pure (wpAny_nsGet hn ?_)
 rw [hu]
 repeat (any_goals (first | assumption | wp_step))
 done
theorem Qyk {fill:Bool} (FB:ExcAttrBase Bx bmB) (X:K.In h) (kc:ExcC K C) (q:ExcQ K C) (hl:findIn K (.ref C) name=some none) (hx:h.get? a=some o) (hc:o.cls=.ref C) (hd:o.dict=some dx) (hdt:∃vs,o.data=.fields vs) (hn:h.Ns dx mA) (hu:mA name=some u) (hh:handedIn u=true) (hq:Q u ⟨h,g,d,t,os⟩) :
  wpAny (model prog w) A (getAttrBy (.ref a) (.str name tk) fill expr) Q E ⟨h,g,d,t,os⟩:=by
 have f3:=FB.ga.bind (.ref a)
 have hx0:(expr && onTheHeap (Value.builtin "BaseException.__getattribute__"))=false:=by cases expr <;> rfl
 have hx2:(Value.builtin "BaseException.__getattribute__" == Value.builtin "object.__getattribute__")=false:=by decide +kernel
 have hx1:(onTheHeap (Value.ref C) && Value.builtin "BaseException.__getattribute__" == Value.builtin "object.__getattribute__")=false:=by rw [hx2];rfl
 have L1:=looks_findIn (M:=model prog w) X q.ga
 have L2:=looks_findIn (M:=model prog w) X q.gt
 have hho:=PySem.W.handedOut_of hh
 repeat (any_goals (first | assumption | (with_reducible refine wpAny_loadPart_at hx ?_;rw [hc]) | with_reducible refine L1.at ?_ | with_reducible refine L2.at ?_ | wp_step))
 refine codeAny_call_builtin FB.ga.plain F.entry_bexc_ga (Qe2 X q hx hc (Qlb X kc hl hx hc hd hdt hn hu hh ?_))
 repeat (any_goals (first | assumption | rw [hho] | wp_step))
theorem Qtc (FB:ExcAttrBase Bx bmB) (X:K.In h) (kc:ExcC K C) (q:ExcQ K C) (hl:findIn K (.ref C) name=some none) (hx:h.get? a=some o) (hc:o.cls=.ref C) (hd:o.dict=some dx) (hdt:∃vs,o.data=.fields vs) (hn:h.Ns dx mA) (hu:mA name=some u) (hh:handedIn u=true) (hq:Q u ⟨h,g,d,t+1,os⟩) :
  wpAny (model prog w) A (getAttr (.ref a) name expr) Q E ⟨h,g,d,t,os⟩:=by
 unfold getAttr
 repeat (any_goals (first | assumption | with_reducible apply Qyk FB X kc q hl hx hc hd hdt hn hu hh | wp_step))
end
theorem Qni (FB:ExcAttrBase Bx bmB) (he:PE X e te) (hb:attributeBase e attr X.env (eval e X.env)=eval e X.env:=by rfl) :
  PE X (.Attribute e attr pos) (λσ H Q=>te σ H λy H1=>∃a C o φ dx od fs v,y=.ref a/\H1 a=some (.frz o (.ext φ))/\o.cls=.ref C/\o.dict=some dx/\(∃vs,o.data=.fields vs)/\H1 dx=some (.frz od (.xd fs))/\ExcC X.K C/\ExcQ X.K C/\findIn X.K (.ref C) attr=some none/\fs.lookup attr=some v/\Q v H1):=by
 intro pins s σ H Q I h
 refine Qty hb (thn (he pins s σ H _ I h) λu s1 ⟨y,H1,I1,rx,a,C,o,φ,dx,od,fs,v,ey,ha,hc,hd,hdt,hx,kc,q,hl,hf,hq⟩=>?_)
 subst ey
 obtain rfl:u=Value.ref a:=rx
 obtain ⟨e1,_⟩:=I1.hok a _ ha
 obtain ⟨_,mA,ns,rr⟩:=I1.hok dx _ hx
 obtain ⟨u,hu,ru⟩:=RelO.some_of (v:=v) (o:=mA attr) (by rw [← hf];exact rr attr)
 obtain ⟨hp,g,d,tk,os⟩:=s1
 exact Qtc FB I1.kIn kc q hl e1 hc hd hdt ns.ns hu (Qk5 ru) ⟨v,H1,I1.tok _,ru,hq⟩
theorem Qfr (F:FnOk X.prog X.w X.K X.mg X.base (CXD X.prog X.w X.base) k f fd ps sp) (hr:Room k X.A) (hg:Gl X x) (hm:X.mg x=some (.ref f)) (hk:keepIn X.K (.ref f)=true) (hb:Xm X.K fd ps [])
  (ha:PA X.nox (e₀::es) ta) (hs:swapsWith (.Call (.Name x p) (e₀::es) [] cpos) none pos.line X.env=pure false:=by rfl) (hdb:(x == ("__debug__" : Str))=false:=by decide)
  (he:starEach (e₀::es) X.env=(false,eval e₀ X.env)::starEach es X.env:=by rfl) (hpl:(backTo cpos (starEach es X.env)).any (·.1)=false:=by rfl) :
  Qqa X [.Expr (.Call (.Name x p) (e₀::es) [] cpos) pos] (λD E σ H=>ta σ H λvs H1=>sp vs H1 (λ_ H2=>D.nx σ H2) E):=by
 intro pins s σ H D E I h
 refine wpAny_execs_cons (wpAny_Expr_any (wpAny_mono (Qfd F hr hg hm hk hb ha I h hdb he hpl) (λv s1 z=>?_) λ_ _ z=>z) I.quiet hs)
 obtain ⟨y1,H1,I1,r1,q1⟩:=z
 exact wpAny_execs_nil ⟨σ,H1,I1,q1⟩
end L2
namespace L2
open PySem PySem.Spec PyProof.Rows
def HnH (A:Around) (H:Hp):Prop:=∃(x:Addr) (o:Obj) (φ:Heap->Prop) (vs:Array Value),A.handled=some (.ref x)/\H x=some (.frz o (.ext φ))/\o.data=.fields vs/\vs[2]? = some .none
end L2
variable {i:Nat}
namespace PV
open PySem PySem.Spec L2
open PyProof.Rows (envOfC)
def Fld (H:Hp) (dx:Option Addr) (fs:List (Str × Int)):Prop:=fs=[]\/∃d od,dx=some d/\H d=some (.frz od (.xd (fs.map λp=>(p.1,V.int p.2))))
def spXD (K:Frag) (g:GX):Sp:=λvs H Q E=>∃(ds:List D) (F:List Addr) (k kx:D->Prop),Reps K H ds vs F/\g ds k kx/\(∀v H' d F',Fin K H H' d v F'->k d->Q v H')/\∀x C dx fs H',atN K x C->Same H H'->Fld H' dx fs->kx (.obj x fs)->E (.ref C) dx H'
def V9 (X:Cx) (T:Tg) (x:Str) (C:Addr) (attr:Str):Prop:=∀pins σ H s e d od t i,Inv X pins σ H s->s.heap.get? e=some (Us C t (some d))->H e=none->X.s₀.heap.get? e=none->H d=some (.frz od (.xd [(attr,.int i)]))->T.xe (.obj x [(attr,i)]) σ H->X.xe (.ref e) s
def Z8 (X:Cx) (T:Tg):Prop:=∀pins σ H s e s',Inv X pins σ H s->CXD X.prog X.w X.base X.stack H s (λc dx H'=>∃C,c=.ref C/\∃x fs,atN X.K x C/\Fld H' dx fs/\T.xe (.obj x fs) σ H') e s'->X.xe e s'
def CalD (P:Program) (w:World) (K:Frag) (mg:Str->Option Value) (base:Heap) (x:Str) (k:Nat) (ps:List Str) (sp:Sp):Prop :=
 ∃f fd,FnOk P w K mg base (CXD P w base) k f fd ps sp/\mg x=some (.ref f)/\keepIn K (.ref f)=true/\Xm K fd ps []
section
variable {w:WE} {ws:WS}
def Qqg (x attr:Str) (wr:WA):WS:=λP ρ=>wr ρ λds ρ'=>match ds with
 | [.int i]=>P.xc (.obj x [(attr,i)]) ρ'
 | _=>False
theorem Qcv {attr:Str} {n:Int}:∀{fs:List (Str × Int)},fs.lookup attr=some n->(fs.map λp=>(p.1,V.int p.2)).lookup attr=some (V.int n)
 | [],h=>by cases h
 | (a,b)::fs,h=>by
  simp only [List.map_cons,List.lookup] at h ⊢
  split
  ·rename_i z;rw [z] at h;cases h;rfl
  ·rename_i z;rw [z] at h;exact Qcv h
def Qgz (i:Nat) (attr:Str) (has:Str->Bool):WE:=λρ Q=>oget (look ρ i) λd=>match d with
 | .obj x fs=>has x=true/\oget (fs.lookup attr) λn=>Q (.int n) ρ
 | _=>False
theorem Qoa {v:Str} {has:Str->Bool} (ht:∀x C,has x=true->atN X.K x C->ExcC X.K C/\ExcQ X.K C/\PySem.W.findIn X.K (.ref C) attr=some none)
  (hN:X.N[i]? = some v:=by rfl) (hv:Vis X.env.scope v:=by first | exact Or.inl rfl | exact Or.inr (Or.inl rfl) | exact Or.inr (Or.inr rfl)) (hd:(v == ("__debug__" : Str))=false:=by decide) (hcd:(v == ("__classdict__" : Str))=false:=by decide)
  (hb:attributeBase (.Name v p2) attr X.env (eval (.Name v p2) X.env)=eval (.Name v p2) X.env:=by rfl):EV X T false true (.Attribute (.Name v p2) attr pos) (Qgz i attr has):=by
 refine ⟨_,Qni F.attrBase_ValueError (Xx hN hv hd hcd) hb,λz R σ H W ρ Q Q' s hw k=>?_⟩
 obtain ⟨d,hl,hq⟩:=Qt hw
 obtain ⟨fp,s0⟩:=id s
 obtain ⟨u,h1,h2⟩:=s0.at_ i d hl
 generalize fp i=Fi at h2
 match d,h2,hq with
 | .obj x fs,h2,hq =>
  obtain ⟨hs,hq⟩:=hq
  obtain ⟨n,hn,hq⟩:=Qt hq
  cases h2 with
  | @obj a1 _ ob φ _ e1 hc hf =>
   obtain ⟨C,hc,hnm⟩:=hc
   obtain ⟨t1,t2,t3⟩:=ht x C hs hnm
   rcases hf with rfl | ⟨dx,od,vs,g1,g2,g3⟩
   ·cases hn
   ·refine ⟨_,h1,a1,C,ob,φ,dx,od,_,.int n,rfl,e1,hc,g1,⟨vs,g2⟩,g3,t1,t2,t3,?_,k (.int n) H W (.int n) ρ [] (Post.flat s (FrW.refl H W) (λ_=>⟨Same.refl H,rfl,rfl⟩) (.int n)) hq⟩
    exact Qcv hn
def SVsJ (X:Cx) (T:Tg) (st:List Stmt) (w:WS):Prop :=
 ∃ts,PSs X st ts/\∀(z:Nat->V) (R:Addr->Prop) (σ:St) (H:Hp) (W:Addr->Prop) (ρ:Env) (P:EndsP) (E:Ends),SR X.K T z R H W σ ρ->HnH X.A H->w P ρ->Lk X.K T z H W P E->ts E σ H
theorem SVs.j {st:List Stmt} (h:SVs X T st ws):SVsJ X T st ws:=let ⟨t,p,g⟩:=h;⟨t,p,λz R σ H W ρ P E s _ hw l=>g z R σ H W ρ P E s hw l⟩
def Qzf (g:GX) (wr:WA) (cat:Str->Bool) (j:Nat) (wh:WS):WS:=λP ρ=>wr ρ λds ρ'=>g ds (λd=>d=.non/\P.nx ρ') λd=>match d with
 | .obj x fs=>cat x=true/\wh (P.un j) (ρ'.set j (some (.obj x fs)))
 | _=>False
end
end PV
namespace PV
open PySem PySem.Spec L2
def Qy1 (s:Stmt):Stmt:=match s with
 | .ClassDef _ _ _ b _ _ _ _ _ _ _=>b.getD 0 (.Pass ⟨0,0,0,0⟩)
 | _=>.Pass ⟨0,0,0,0⟩
theorem Qte {TE:Addr} {q:Str} {dd' od2:Option Addr} {k0 k1 k2 k3 k5:Option Value} {c0 oc2:Value} {sl2:Array (Option Value)} {es2:Array DictEntry} {ep2:Nat}
  (l1:K.lookup C=some (excClassObj nm q C N bs (.ref TE::mroV) true sn sub ab col dd k0 k1 k2 k3 k5 "ValueError.__new__")) (l2:K.lookup TE=some ⟨c0,dd',.cls cd,sl⟩)
  (n2:K.lookup cd.ns=some ⟨oc2,od2,.dict es2 ep2,sl2⟩) (s2:Qac es2=true) (i2:nsFind es2 "__init__" = none) (sa:PySem.W.findIn K (.ref C) "__setattr__" = some (some (.builtin "object.__setattr__"))):ExcC K C :=
 ⟨⟨nm,q,N,bs,_,sn,sub,ab,col,dd,k0,k1,k2,k3,k5,rfl,λh X=>⟨X _ _ l1,.own (X _ _ l2) (Q1g X n2 s2) i2 .base⟩⟩,sa⟩
end PV
namespace L2
open PySem PySem.Spec PyProof.Rows
theorem Qnk:PE X (.Dict [] [] pos) (λ_ H Q=>∀a o,H a=none->Q (.ref a) (upd H a (.frz o (.dK [])))):=λpins s σ H Q I h =>
 wpAny_Dict_empty ⟨.ref s.heap.objs.size,_,I.laid (a:=s.heap.objs.size) (o:=.frz _ (.dK [])) (t':=s.toks) (λ_ _ q=>Heap.get?_push_of_some _ q) (Nat.le_refl _) ⟨Heap.get?_push_size _ rfl,Qog s.heap I.big⟩,rfl,h _ _ (I.hok.fresh (Nat.le_refl _))⟩
end L2
namespace PV
open PySem PySem.Spec L2
def Q13:GA
 | [.lst ds],k=>∃ns:List Int,ds=ns.map .int/\0<ns.length/\∀M,M∈ns->(∀b,b∈ns->M<=b)->k (.int M)
 | _,_=>False
theorem Qnb {k:D->Prop}:Q13 [.lst ds] k=(∃ns:List Int,ds=ns.map .int/\0<ns.length/\∀M,M∈ns->(∀b,b∈ns->M<=b)->k (.int M)):=rfl
theorem Qoc:EV X T false true (.Dict [] [] pos) (wC (.fdk [])) :=
 ⟨_,Qnk,λz R σ H W ρ Q Q' s hw k a o ha=>k _ _ W (.fdk []) ρ [] (Post.fin s (FrW.refl H W) (λ_=>⟨Same.refl H,rfl,rfl⟩) (Qj ha) (.fdk Ql .nil) (by simp) (λb m=>nomatch m)) hw⟩
def Qql (g:GI) (wr:WA):WE:=λρ Q=>wr ρ λds ρ1=>match ds with
 | [d1,d0]=>d1.pure=true/\Zw d0=true/\g [d1,d0] λd _=>Q d ρ1
 | _=>False
end PV
namespace PV
open PySem PySem.Spec L2
open PyProof.Rows (envOfC)
section
variable {w:WE}
def Qzq (w:WE):WL:=λρ Q=>w ρ λd ρ'=>match d with
 | .lst ds=>Q ds ρ'
 | _=>False
end
end PV
variable {t:Int × Int}
namespace L2
open PySem PySem.Spec PyProof.Rows
open PySem.W (hideAll of_hideAll hideAll_get hideAll_none funFrames_hide)
def Qzc (c:Addr) (h h':Heap):Prop:=∀b o,b≠c->h.get? b=some o->(∀vs,o.data ≠ .fields vs)->∃sl,h'.get? b=some { o with slots:=sl }
theorem Qn4 {c b:Addr} {o:Obj} (e:B.get? b=some o) (h:b≠c):(hideAll B [c]).get? b=some o:=hideAll_get _ e λz=>h (List.mem_singleton.mp z)
section
variable {t c:Addr}
theorem Fly.letgo (f:Fly P w base B l H s C ea t H' s') (hc:s.heap.get? c=none) (h0:base.get? c=none) (hH:H' c=none) (hf:Heap.FlyingW (hideAll B [c]) l ea (.ref C) (.ref t) h'') (hu:Qzc c s'.heap h''):Fly P w base (hideAll B [c]) l H s C ea t H' { s' with heap:=h'' }:=by
 have ne:∀b o,s.heap.get? b=some o->b≠c:=λb o e z=>by rw [z,hc] at e;cases e
 have dom:∀b o,H' b=some o->∃ob,(hideAll B [c]).get? b=some ob:=λb o e=>by
  obtain ⟨ob,eb⟩:=f.dom b o e
  exact ⟨ob,Qn4 eb λz=>by rw [z,hH] at e;cases e⟩
 have kp:∀b ob,s.heap.get? b=some ob->H b=none->b∉frs l->(hideAll B [c]).get? b=some ob:=λb o e n nf=>Qn4 (f.kp b o e n nf) (ne b o e)
 have th:∀b ob,s.heap.get? b=some ob->b∉frs l->∃o',(hideAll B [c]).get? b=some o':=λb o e nf=>by
  obtain ⟨o',q⟩:=f.th b o e nf
  exact ⟨o',Qn4 q (ne b o e)⟩
 refine ⟨f.os,f.bare,⟨λb o e n nf _=>hf.1 b o (kp b o e n nf),λb o e n hb _=>?_,f.un.free,λb o e _=>?_,f.un.tups,f.un.frzs,f.un.tbls⟩,Qhk f.hok dom (λb o q=>f.fly.1 b o (of_hideAll _ q)) hf.1,(λb o e=>Qn4 (f.bb b o e) λz=>by rw [z,h0] at e;cases e),dom,kp,th,hf,f.new⟩
 ·obtain ⟨sl,e1⟩:=f.un.slot b o e n hb (by simp)
  obtain ⟨_,o',e2,nd⟩:=f.fly.2.2.1.mem hb
  have z:some { o with slots:=sl }=some o':=e1.symm.trans e2
  cases z
  obtain ⟨sl',e4⟩:=hu b { o with slots:=sl } (ne b o e) e1 nd
  exact ⟨sl',e4⟩
 ·by_cases hb:b∈frs l
  ·obtain ⟨_,o',e2,nd⟩:=f.fly.2.2.1.mem hb
   obtain ⟨sl,e3⟩:=hu b _ (ne b o e) e2 nd
   exact ⟨_,e3⟩
  ·obtain ⟨o',e1⟩:=th b o e hb
   exact ⟨_,hf.1 b o' e1⟩
end
section
variable {t:Addr} {Ξ:XK} {e:Value}
def Qow (X:Cx) (H:Hp) (s:Shared) (Ξ:XK) (e:Value) (s':Shared):Prop:=∃ea C t dx B H' L c s6 h7,e=.ref ea/\X.env.frame=some L/\Fly X.prog X.w X.base B X.stack H s C ea t H' s6/\X.s₀.heap.get? c=none/\H' c=none/\s'={ s6 with heap:=h7 } /\
 Heap.HeldW (hideAll B [c]) X.stack ea (.ref C) (.ref t) L h7/\Qzc c s6.heap h7/\V5 h7 ea dx/\Ξ (.ref C) dx H'
theorem Qij {M:Model} (p:X.Plain) (I:Inv X pins σ H s) (x:Qow X H s Ξ e s'):wpAny M X.A (leaving X.env e) (λ_ s''=>CXD X.prog X.w X.base X.outer X.H₀ X.s₀ Ξ e s'') E s':=by
 obtain ⟨ea,C,t,dx,B,H',L,c,s6,h7,rfl,hL,f,hc,hH,rfl,hh,hu,hd,hx⟩:=x
 unfold leaving
 refine wpAny_bind (wpAny_noteFrame_againW hL hh.2.2.2 ?_)
 refine Qpq hh λh8 ⟨fl,up⟩ dk=>?_
 have tl:∀{B h},Heap.FlyingW B X.stack ea (.ref C) (.ref t) h->Heap.FlyingW B X.outer ea (.ref C) (.ref t) h:=λ{B h} q=>by
  rw [p.stk] at q
  obtain ⟨k1,k2,⟨_,_,k3⟩,k4⟩:=q
  exact ⟨k1,k2,k3,k4⟩
 have g:=f.out p I (tl f.fly) (Heap.UpToSlots.refl _)
 have h0:X.base.get? c=none:=by
  cases q:X.base.get? c with
  | none=>rfl
  | some o=>have:=(I.ok.bs c o q).1;rw [hc] at this;cases this
 exact ⟨ea,C,t,dx,_,H',rfl,g.letgo hc h0 hH (tl fl) λb o n e nd=>by
  obtain ⟨sl,e1⟩:=hu b o n e nd
  obtain ⟨sl',e2⟩:=up b _ e1 nd
  exact ⟨sl',e2⟩,hd.on dk,hx⟩
theorem X2 {B h h':Heap} {c:Addr} {ob:Obj} (hB:B.get? c=some ob) (hs:Heap.SameBut c h h'):∀{l:List PySem.Env},h.FunFrames B l->h'.FunFrames (hideAll B [c]) l
 | [],_=>trivial
 | _::_,⟨hk,⟨L,o,hf,hn,ho,hd⟩,hr⟩=>by
  refine ⟨hk,⟨L,o,hf,?_,(hs.2 L λz=>by rw [z,hB] at hn;cases hn).trans ho,hd⟩,X2 hB hs hr⟩
  cases q:(hideAll B [c]).get? L with
  | none=>rfl
  | some o=>rw [of_hideAll _ q] at hn;cases hn
theorem Qos {M:Model} {cenv:PySem.Env} {c L:Addr} (hs:X.stack=X.env::X.outer) (hL:X.env.frame=some L) (I:Inv X pins σ H s) (hc:X.s₀.heap.get? c=none) (hn:H c=none) (hm:∃m,s.heap.Ns c m) (hst:c∉frs X.stack)
  (hcf:cenv.frame=X.env.frame) (f:CXD X.prog X.w X.base X.stack H s Ξ e s') (hE:∀s'',Qow X H s Ξ e s''->E e s'') :
  notedBy M X.A (compEnvC scope cl c X.env) (λe s'=>∃m,s'.heap.Ns c m/\∀h',Heap.SameBut c s'.heap h'->wpAny M X.A (passOn "comprehension.variables-let-go" e cenv:Sem Value) (λ_ _=>False) E { s' with heap:=h' }) e s':=by
 obtain ⟨ea,C,t,dx,B,H',rfl,fl,hd,hx⟩:=f
 obtain ⟨m,oc,es,ep,c1,c2,c3⟩:=hm
 have hBc:=fl.kp c oc c1 hn hst
 unfold notedBy
 rw [show noteFrame (.ref ea) (compEnvC scope cl c X.env)=noteFrame (.ref ea) X.env from rfl]
 have fl':=fl.fly
 rw [hs] at fl'
 refine Qpp (by rw [← hs];exact I.ok.frames) hL fl' λh7 ⟨hh,up⟩ dk=>?_
 rw [← hs] at hh
 obtain ⟨k1,k2,k3,oe,vs,T,oT,ts,t1,t2,t3,t4,t5,t6,t7,t8,t9⟩:=hh
 refine ⟨m,⟨oc,es,ep,k1 c oc hBc,c2,c3⟩,λh8 sb=>?_⟩
 have neE:ea≠c:=λz=>by rw [z,hBc] at k2;cases k2
 have neT:T≠c:=λz=>by rw [z,hBc] at t5;cases t5
 have e8:h8.get? ea=some oe:=(sb.2 ea neE).trans t1
 have T8:h8.get? T=some oT:=(sb.2 T neT).trans t7
 have sz3:3<ts.size:=(Array.getElem?_eq_some_iff.mp t9).1
 unfold PySem.passOn
 refine wpAny_bind (wpAny_field (s:={ s' with heap:=h8 }) e8 t3 t4 ?_)
 rw [if_neg (show ¬(Value.ref T == Value.none)=true by simp)]
 unfold setFlight
 refine wpAny_bind (wpAny_bind (wpAny_field (s:={ s' with heap:=h8 }) e8 t3 t4 ?_))
 rw [if_pos (show (Value.ref T != Value.none)=true by simp),hcf,hL]
 refine wpAny_setField (s:={ s' with heap:=h8 }) T8 t8 sz3 (wpAny_throw (hE _ ?_))
 have other:∀b,b≠T->(h8.update T (Obj.mapFields (·.setIfInBounds 3 (rawInt L)))).get? b=h8.get? b:=λb hb=>Heap.get?_update_other _ _ (Ne.symm hb)
 have nT:∀b o,h8.get? b=some o->(∀vs,o.data ≠ .fields vs)->b≠T:=λb o hb hnf z=>by
  rw [z,T8] at hb;injection hb with hb;subst hb;exact hnf ts t8
 have hB':∀b,B.get? b=none->(hideAll B [c]).get? b=none:=λb z=>by
  cases q:(hideAll B [c]).get? b with
  | none=>rfl
  | some o=>rw [of_hideAll _ q] at z;cases z
 refine ⟨ea,C,t,dx,B,H',L,c,s',_,rfl,hL,fl,hc,?_,rfl,⟨λb o q=>?_,hB' _ k2,?_,oe,vs,T,_,_,(other ea (Ne.symm t6)).trans e8,t2,t3,t4,hB' _ t5,t6,Heap.get?_update_self _ T8 (Obj.isFreed_of_fields (Obj.data_mapFields t8 _)),Obj.data_mapFields t8 _,by simp [sz3]⟩,λb o n q nd=>?_,?_,hx⟩
 ·exact fl.un.free c oc c1 hn (by simp)
 ·have qB:=of_hideAll _ q
  have nc:b≠c:=λz=>by rw [z,hideAll_none _ (List.mem_singleton.mpr rfl)] at q;cases q
  exact (other b λz=>by rw [z,t5] at qB;cases qB).trans ((sb.2 b nc).trans (k1 b o qB))
 ·exact (X2 hBc sb k3).of_keeps λb o hb hnf=>⟨o,(other b (nT b o hb hnf)).trans hb,rfl⟩
 ·obtain ⟨sl,e1⟩:=up b o q nd
  have e2:h8.get? b=some { o with slots:=sl }:=(sb.2 b n).trans e1
  exact ⟨sl,(other b (nT b _ e2 nd)).trans e2⟩
 ·obtain ⟨o1,d1,d2,vs',d3,d4⟩:=hd.on dk
  exact ⟨o1,(other ea (Ne.symm t6)).trans ((sb.2 ea neE).trans d1),d2,vs',d3,d4⟩
end
end L2
variable {g:PV.GX}
namespace L2
open PySem PySem.Spec PyProof.Rows
theorem Ql2 {M:Model} {newAcc first:Sem Value} {g:Comprehension} {gs:List Comprehension}
  (hcl:clausesOf e=g::gs) (hs:∀x,foldedSetIterable g.iter env x=pure x) (hclos:closureFor scope env=pure cl) (hkind:scope.kind=.function) (hnames:∀x∈scope.names,x.2=.local->scope.names.lookup x.1=some .local)
  (h:wpAny M A first (λx s₁=>wpAny M A (pyIter x) (λit s₂=>wpAny M A newAcc (λacc s₃=>wpAny M A (newFunctionEnv scope env.globals cl [] env.qual none .none (some env)) (λcenv s₄ =>
   codeAny M A (.compStart e 0 it acc { cenv with scope:=relabel scope env }) (λr s'=>∃m,s'.heap.Ns cenv.locals m/\∀h',Heap.SameBut cenv.locals s'.heap h'->match r with
    | .ok _=>Q acc { s' with heap:=h' }
    | .error x=>wpAny M A (passOn "comprehension.variables-let-go" x { cenv with scope:=relabel scope env }:Sem Value) (λ_ _=>False) E { s' with heap:=h' }) s₄) E s₃) E s₂) E s₁) E s) :
  wpAny M A (comprehension e scope env pos newAcc false first none) Q E s:=by
 have id':∀{t:Shared} {x:Value},E x t->E x t:=λz=>z
 unfold comprehension
 rw [hclos,hcl]
 refine wpAny_bind (wpAny_mono h (λx s₁ q1=>?_) λ_ _=>id')
 refine wpAny_bind (wpAny_standAt (wpAny_bind (wpAny_of_eq (hs x) (wpAny_bind (wpAny_holding (wpAny_mono q1 (λit s₂ q2=>?_) λ_ _=>id'))))))
 refine wpAny_standIf (wpAny_bind (wpAny_mono q2 (λacc s₃ q3=>?_) λ_ _=>id'))
 refine wpAny_bind (wpAny_pure (wpAny_bind (wpAny_mono q3 (λcenv s₄ q4=>?_) λ_ _=>id')))
 dsimp only
 refine wpAny_holding (wpAny_bind (wpAny_attempt (wpAny_holding (wpAny_run (codeAny_mono q4 λr s' hr=>?_)))))
 obtain ⟨m,hn,hr⟩:=hr
 cases r with
 | ok f=>exact wpAny_bind (wpAny_holding (wpAny_comp_letGo (cenv:={ cenv with scope:=relabel scope env }) hkind _ s' m (λx hx hl=>lookup_relabel_local (hnames x (List.mem_filter.mp (List.mem_reverse.mp hx)).1 hl)) hn λh' _ _ hs'=>wpAny_pure (hr h' hs')))
 | error x=>exact wpAny_bind (wpAny_holding (wpAny_comp_letGo (cenv:={ cenv with scope:=relabel scope env }) hkind _ s' m (λx hx hl=>lookup_relabel_local (hnames x (List.mem_filter.mp (List.mem_reverse.mp hx)).1 hl)) hn λh' _ _ hs'=>wpAny_mono (hr h' hs') (λ_ _ f=>f.elim) λ_ _ y=>y))
theorem Qnl {ts:List Str} {te:St->TE} {Ξ:St->XK} (ix:List Nat) (hp:X.Plain) (hP:∀pins σ H s e s',Inv X pins σ H s->Qow X H s (Ξ σ) e s'->X.xe e s') (hc:X.calm=true) (B:BlkScope X.env scope x)
  (hix:∀i∈ix,∃y,X.N[i]? = some y/\scope.names.lookup y=some .free) (hN:(bN2 X.N ts ix).Nodup) (hi:PI X tg iter wi)
  (hg:∀cl C s₀ H₀ fp,PG (J7 X scope cl C (bN2 X.N ts ix) s₀ H₀ fp) tg gt)
  (ht:∀cl C s₀ H₀ fp,PIfs (J7 X scope cl C (bN2 X.N ts ix) s₀ H₀ fp) ifs tt)
  (he:∀σ cl C s₀ H₀ fp xe,(∀pins σ' H s e s',Inv (J7 X scope cl C (bN2 X.N ts ix) s₀ H₀ fp) pins σ' H s->CXD X.prog X.w X.base X.stack H s (Ξ σ) e s'->xe e s')->PE ((J7 X scope cl C (bN2 X.N ts ix) s₀ H₀ fp).wish xe) elt (te σ))
  (hs:∀x,foldedSetIterable iter X.env x=pure x:=by intro _;rfl) :
  PE X (.ListComp elt [⟨tg,iter,ifs,0⟩] scope pos) (λσ H Q=>Qje ts wi gt tt (te σ) ix σ H Q):=by
 intro pins s σ H Q I h
 obtain ⟨cl,hcl,h1,h3⟩:=Uu (Qdu I B)
 rw [eval_ListComp]
 refine Ql2 rfl hs hcl B.kind B.names (thn (hi pins s σ H _ I h) λv s1 h1'=>thn h1' λitv s2 h2=>?_)
 obtain ⟨it,fp,tn,J,H2,e,I2,T,st2,f2,W,m0,w0,turn⟩:=h2
 subst e
 refine Qe7 (Px:=λH s e s'=>CXD X.prog X.w X.base X.stack H s (Ξ σ) e s') (RR:=λacc cenv r s'=>∃m,s'.heap.Ns cenv.locals m/\∀h',Heap.SameBut cenv.locals s'.heap h'->match r with
    | .ok _=>EP X pins σ Q acc { s' with heap:=h' }
    | .error x=>wpAny (model X.prog X.w) X.A (passOn "comprehension.variables-let-go" x cenv:Sem Value) (λ_ _=>False) X.xe { s' with heap:=h' })
  (G:=λys H'=>∀l,H' l=none->Q (.ref l) (upd H' l (.lst ys))) I2 hc B h1 h3 hix hN T st2 f2 hg (he σ) ht W m0 w0 turn (λD C cenv s' ys H' hC0 I' hD hC hm hCs hDC g=>?_) λD C cenv s' H' e s'' hC0 hcf I' hC hm hCs hst px=>?_
 ·obtain ⟨m,hm⟩:=hm
  subst hC0
  exact ⟨m,hm,λh' hsb=>⟨.ref D,upd H' D (.lst ys),I2.blkGone I' hCs (by rw [Qk (Ne.symm hDC)];exact hC) hsb,rfl,g D hD⟩⟩
 ·subst hC0
  refine Qos hp.stk hp.frame I' ?_ hC hm hst hcf px λs3 hh=>hP pins σ H' s' e s3 I' hh
  cases q:X.s₀.heap.get? cenv.locals with
  | none=>rfl
  | some o=>exact absurd (Heap.lt_size q) (Nat.not_lt.mpr (Nat.le_trans I2.sz hCs))
end L2
namespace PV
open PySem PySem.Spec L2
open PyProof.Rows (envOfC)
abbrev XC:=D->Env->Prop
abbrev WX:=Env->(D->Env->Prop)->XC->Prop
abbrev WAX:=Env->(List D->Env->Prop)->XC->Prop
end PV
variable {A B:PySem.Str} {wrx:PV.WAX}
namespace PV
open PySem PySem.Spec L2
open PyProof.Rows (envOfC)
def XOk (K:Frag) (T:Tg) (z:Nat->V) (H:Hp) (W:Addr->Prop) (σ:St) (xc:XC):Prop:=∀R' H' W' ρ' d,SR K T z R' H' W' σ ρ'->FrW H W H' W'->xc d ρ'->T.xe d σ H'
theorem XOk.step {W:Addr->Prop} {xc:XC} (h:XOk K T z H W σ xc) (f:FrW H W H1 W1):XOk K T z H1 W1 σ xc:=λR' H' W' ρ' d s g q=>h R' H' W' ρ' d s (f.trans g) q
def EVX (X:Cx) (T:Tg) (m o:Bool) (e:Expr) (w:WX):Prop :=
 ∃te,PE X e te/\∀(z:Nat->V) (R:Addr->Prop) (σ:St) (H:Hp) (W:Addr->Prop) (ρ:Env) (Q:D->Env->Prop) (Q':VK) (xc:XC),SR X.K T z R H W σ ρ->XOk X.K T z H W σ xc->w ρ Q xc ->
  (∀v H' W' d ρ' F,Post X.K T z R m o H W σ ρ H' W' ρ' d v F->Q d ρ'->Q' v H')->te σ H Q'
def AVX (X:Cx) (T:Tg) (m o:Bool) (es:List Expr) (w:WAX):Prop :=
 ∃ta,PA X es ta/\∀(z:Nat->V) (R:Addr->Prop) (σ:St) (H:Hp) (W:Addr->Prop) (ρ:Env) (Q:List D->Env->Prop) (Q':List V->Hp->Prop) (xc:XC),SR X.K T z R H W σ ρ->XOk X.K T z H W σ xc->w ρ Q xc ->
  (∀vs H' W' ds ρ' F,PostA X.K T z R m o H W σ ρ H' W' ρ' ds vs F->Q ds ρ'->Q' vs H')->ta σ H Q'
def XiD (K:Frag) (T:Tg) (σ:St):XK:=λc dx H'=>∃C,c=.ref C/\∃x fs,atN K x C/\Fld H' dx fs/\T.xe (.obj x fs) σ H'
def Qbt (X:Cx) (T:Tg):Prop:=∀pins σ H s e s',Inv X pins σ H s->Qow X H s (XiD X.K T σ) e s'->X.xe e s'
section
variable {o2:Bool} {c:Expr} {w:WE} {wx wy:WX}
def wOf (w:WE):WX:=λρ Q _=>w ρ Q
theorem Qpy (h:EV X T m o e w):EVX X T m o e (wOf w):=let ⟨te,p,g⟩:=h;⟨te,p,λz R σ H W ρ Q Q' _ s _ hw k=>g z R σ H W ρ Q Q' s hw k⟩
def wAOf (w:WA):WAX:=λρ Q _=>w ρ Q
theorem Qy6 (h:AV X T m o es wr):AVX X T m o es (wAOf wr):=let ⟨te,p,g⟩:=h;⟨te,p,λz R σ H W ρ Q Q' _ s _ hw k=>g z R σ H W ρ Q Q' s hw k⟩
def Ue (g:GX) (wr:WA):WX:=λρ Q xc=>wr ρ λds ρ'=>g ds (λd=>Q d ρ') λd=>xc d ρ'
theorem Gq (C:CalD X.prog X.w X.K X.mg X.base x k ps (spXD X.K g)) (hr:Room k X.A) (hX:Z8 X T) (ha:AV X.nox T false o (e₀::es) wr) (hg:Gl X x:=by rfl) (hdb:(x == ("__debug__" : Str))=false:=by decide)
  (he:starEach (e₀::es) X.env=(false,eval e₀ X.env)::starEach es X.env:=by rfl) (hpl:(backTo pos (starEach es X.env)).any (·.1)=false:=by rfl) :
  EVX X T false true (.Call (.Name x p) (e₀::es) [] pos) (Ue g wr):=by
 obtain ⟨fa,fd,F,h1,h2,h3⟩:=C
 obtain ⟨ta,pa,ga⟩:=ha
 refine ⟨λσ H Q=>ta σ H λvs H1=>spXD X.K g vs H1 Q (XiD X.K T σ),λpins s σ H Q I h=>wpAny_mono (Qfd F hr hg h1 h2 h3 pa I h hdb he hpl) (λ_ _ z=>z) λe s' ⟨s1,H1,I1,q⟩=>hX _ _ _ _ _ _ I1 q,λz R σ H W ρ Q Q' xc s hx hw k=>?_⟩
 exact ga z R σ H W ρ _ _ s hw λvs H1 W1 ds ρ1 Fp p q=>⟨ds,Fp,_,_,p.rep,q,λv H' d F' fi hk=>k v H' W1 d ρ1 F' (Post.fin p.sr p.fr p.calm fi.same fi.rep fi.nd fi.new) hk,λx C dx fs H' hn sm hfl hk=>⟨C,rfl,x,fs,hn,hfl,hx R H' W1 ρ1 _ (p.sr.same sm) (p.fr.trans (FrW.same W1 sm)) hk⟩⟩
def wUnX (g:D->(D->Prop)->Prop) (wa:WX):WX:=λρ Q xc=>wa ρ (λx ρ1=>g x λd=>Q d ρ1) xc
theorem Qym {op:UnaryOp} {g:D->(D->Prop)->Prop} (ho:UnD X (unaryOp op) g) (ha:EVX X T m o a wx):EVX X T m true (.UnaryOp op a pos) (wUnX g wx):=by
 obtain ⟨r,ro,gr⟩:=ho
 obtain ⟨ta,pa,ga⟩:=ha
 refine ⟨_,Qwu ro pa,λz R σ H W ρ Q Q' xc s hx hw k=>ga z R σ H W ρ _ _ xc s hx hw λv1 H1 W1 d1 ρ1 F1 p q1=>?_⟩
 exact gr H1 d1 v1 F1 _ Q' p.rep q1 λv H' d F fi hk=>k v H' W1 d ρ1 F (Post.fin p.sr p.fr p.calm fi.same fi.rep fi.nd fi.new) hk
def wIfX (wt:WT) (wa wb:WX):WX:=λρ Q xc=>wt ρ λc ρ1=>if c=true then wa ρ1 Q xc else wb ρ1 Q xc
theorem Qpz (hc:TV X T false c wt) (ha:EVX X T false o a wx) (hb:EVX X T false o b wy):EVX X T false o (.IfExp c a b pos) (wIfX wt wx wy):=by
 obtain ⟨tc,pc,gc⟩:=hc
 obtain ⟨ta,pa,ga⟩:=ha
 obtain ⟨tb,pb,gb⟩:=hb
 refine ⟨_,Qhd pc pa pb,λz R σ H W ρ Q Q' xc s hx hw k=>gc z R σ H W ρ _ _ s hw λc H1 W1 ρ1 p q1=>?_⟩
 have fin:∀v H' W' d ρ' F,Post X.K T z R false o H1 W1 σ ρ1 H' W' ρ' d v F->Q d ρ'->Q' v H':=λv H' W' d ρ' F q hq=>by
  refine k v H' W' d ρ' F ⟨q.sr,p.fr.trans q.fr,λh=>?_,q.rep,λh=>⟨(q.own h).1,λa ma=>⟨p.fr.dom a ((q.own h).2 a ma).1,((q.own h).2 a ma).2⟩⟩⟩ hq
  obtain ⟨a1,a2,a3⟩:=p.calm rfl
  obtain ⟨b1,b2,b3⟩:=q.calm rfl
  exact ⟨a1.trans b1,b2.trans a2,b3.trans a3⟩
 cases c with
 | true=>exact ga z R σ H1 W1 ρ1 Q Q' xc p.sr (hx.step p.fr) q1 fin
 | false=>exact gb z R σ H1 W1 ρ1 Q Q' xc p.sr (hx.step p.fr) q1 fin
def Qd1 (w:WX) (wr:WAX):WAX:=λρ Q xc=>w ρ (λd ρ1=>wr ρ1 (λds ρ2=>Q (d::ds) ρ2) xc) xc
theorem Qot (he:EVX X T m1 o1 e wx) (hr:AVX X T m2 o2 es wrx) (hc:o1=true\/m2=false:=by first | exact .inl rfl | exact .inr rfl) (hs:starEach (e::es) X.env=(false,eval e X.env)::starEach es X.env:=by rfl) :
  AVX X T (m1 || m2) (o1 && o2) (e::es) (Qd1 wx wrx):=by
 obtain ⟨te,pe,ge⟩:=he
 obtain ⟨ta,pa,ga⟩:=hr
 refine ⟨_,Um pe pa hs,λz R σ H W ρ Q Q' xc s hx hw k=>?_⟩
 refine ge z R σ H W ρ _ _ xc s hx hw λv1 H1 W1 d1 ρ1 F1 p q1=>?_
 refine ga z R σ H1 W1 ρ1 _ _ xc p.sr (hx.step p.fr) q1 λvs H2 W2 ds ρ2 F2 q q2=>?_
 have r1:Rep X.K H2 d1 v1 F1:=by
  rcases hc with hc | hc
  ·exact p.rep.keep q.fr λa h=>((p.own hc).2 a h).2
  ·exact p.rep.same (q.calm hc).1
 refine k (v1::vs) H2 W2 (d1::ds) ρ2 (F1++F2) ⟨q.sr,p.fr.trans q.fr,λh=>?_,.cons r1 q.rep,λh=>?_⟩ q2
 ·rw [Bool.or_eq_false_iff] at h
  obtain ⟨a1,a2,a3⟩:=p.calm h.1
  obtain ⟨b1,b2,b3⟩:=q.calm h.2
  exact ⟨a1.trans b1,b2.trans a2,b3.trans a3⟩
 ·rw [Bool.and_eq_true] at h
  obtain ⟨n1,k1⟩:=p.own h.1
  obtain ⟨n2,k2⟩:=q.own h.2
  refine ⟨List.nodup_append.mpr ⟨n1,n2,λa ma b mb e=>?_⟩,λa ma=>?_⟩
  ·subst e
   obtain ⟨ob,e,_⟩:=p.rep.dom a ma
   rw [(k2 a mb).1] at e;cases e
  ·rcases List.mem_append.mp ma with ma | ma
   ·refine ⟨(k1 a ma).1,λw=>?_⟩
    rcases q.fr.new a w with w | w
    ·exact (k1 a ma).2 w
    ·obtain ⟨ob,e,_⟩:=p.rep.dom a ma
     rw [w] at e;cases e
   ·exact ⟨p.fr.dom a (k2 a ma).1,(k2 a ma).2⟩
def Qze (wr:WAX):WX:=λρ Q xc=>wr ρ (λds ρ'=>ds.length<=sizeLine/\Q (.tup ds) ρ') xc
def Qao (g:GA) (wr:WAX):WX:=λρ Q xc=>wr ρ (λds ρ'=>g ds λd=>Q d ρ') xc
theorem Qip {g:GA} (hc:Qbu X (.type T') g) (hm:X.mg x=none) (hv:bootBuiltins x=some (.type T')) (ha:AVX X T m o (e::es) wrx) (hg:Gl X x:=by rfl) (hn:x ≠ "__name__":=by decide) (hdb:(x == ("__debug__" : Str))=false:=by decide)
  (he:starEach (e::es) X.env=(false,eval e X.env)::starEach es X.env:=by rfl) (hpl:(backTo pos (starEach es X.env)).any (·.1)=false:=by rfl):EVX X T m true (.Call (.Name x p) (e::es) [] pos) (Qao g wrx):=by
 obtain ⟨r,rc,gr⟩:=hc
 obtain ⟨ta,pa,ga⟩:=ha
 refine ⟨_,Qen rc hg hm hv pa hn hdb he hpl,λz R σ H W ρ Q Q' xc s hx hw k=>ga z R σ H W ρ _ _ xc s hx hw λvs H1 W1 ds ρ1 F p q=>?_⟩
 exact gr H1 ds vs F _ Q' p.rep q λv H' d F' fi hk=>k v H' W1 d ρ1 F' (Post.fin p.sr p.fr p.calm fi.same fi.rep fi.nd fi.new) hk
def Qd0 (i:Nat) (w:WX):WS:=λP ρ=>w ρ (λd ρ'=>P.nx (ρ'.set i (some d))) P.xc
theorem Qfv (he:EVX X T m true e wx) (hN:X.N.Nodup) (hi:X.N[i]? = some x:=by rfl) (hio:i∉T.io:=by first | exact List.not_mem_nil | decide) (hx:Loc X.env.scope x:=by first | exact Or.inl rfl | exact Or.inr rfl) (hs:swapsWith e (some (.Name x pos')) pos.line X.env=pure false:=by rfl)
  (hf:X.fn x=true\/X.env.scope.names.lookup x=some .local:=by first | exact .inl rfl | exact .inr rfl | assumption):SV X T (.Assign [.Name x pos'] e pos) (Qd0 i wx):=by
 obtain ⟨te,pe,ge⟩:=he
 refine ⟨_,Qpg hN hi hx pe hs hf,λz R σ H W ρ P E s hw l=>ge z R σ H W ρ _ _ P.xc s (λR' H' W' ρ' d=>l.xc R' σ H' W' ρ' d) hw λv H1 W1 d ρ1 F p q=>?_⟩
 obtain ⟨fp,s1⟩:=p.sr
 obtain ⟨nd,nw⟩:=p.own rfl
 obtain ⟨R',s2⟩:=s1.bind (i:=i) hio p.rep nd (λa ha=>⟨(nw a ha).2,s.nr (nw a ha).1⟩)
 exact l.nx R' _ H1 _ _ s2 (Qah p.fr λa h=>(nw a h.2).1) q
def Qui (w:WX):WS:=λP ρ=>w ρ (λ_ ρ'=>P.nx ρ') P.xc
def Qi3 (w:WX):WS:=λP ρ=>w ρ (λd ρ'=>P.rt d ρ') P.xc
theorem Qjf (he:EVX X T m true e wx):SV X T (.Return (some e) pos) (Qi3 wx):=by
 obtain ⟨te,pe,ge⟩:=he
 exact ⟨_,Qph pe,λz R σ H W ρ P E s hw l=>ge z R σ H W ρ _ _ P.xc s (λR' H' W' ρ' d=>l.xc R' σ H' W' ρ' d) hw λv H1 W1 d ρ1 F p q=>l.rt R v σ H1 W1 ρ1 d F p.sr p.fr p.rep (p.own rfl).1 (λa ha=>⟨((p.own rfl).2 a ha).2,.inr ((p.own rfl).2 a ha).1⟩) q⟩
end
section
variable {ts:List Str} {we:WX}
def Qp6 (spl:D->(List D->Prop)->Prop) (ds:List D) (we:WX) (ρ1:Env) (ix:List Nat) (Q:D->Env->Prop) (xc:XC):Prop:=∃I:Nat->List D->Prop,I 0 [] /\
 (∀i d ys,ds[i]? = some d->I i ys->ys.length<sizeLine/\spl d λns=>we (ns.map some++ix.map (look ρ1)) (λy _=>I (i+1) (ys++[y])) λe _=>xc e ρ1) /\
 ∀ys,I ds.length ys->ys.length<=sizeLine/\Q (.lst ys) ρ1
def Qce (spl:D->(List D->Prop)->Prop) (wl:WL) (we:WX) (ix:List Nat):WX:=λρ Q xc=>wl ρ λds ρ1=>Qp6 spl ds we ρ1 ix Q xc
theorem Qt2 {A B:Hp->Prop} (h:A H):tAll σ H λb H1=>if b=true then A H1 else B H1:=by show (if (true:Bool)=true then A H else B H);rw [if_pos rfl];exact h
theorem Qlg {spl:D->(List D->Prop)->Prop} (ix:List Nat) (hp:X.Plain) (hP:Qbt X T) (hi:IV X T m pr tg iter wl)
  (hsp:∀(H:Hp) d v F k,Rep X.K H d v F->spl d k->∃vs ns G,Reps X.K H ns vs G/\ns.length=ts.length/\k ns/\∀(σ:St) (o:List (Option V)) (Q:St->Hp->Prop),o.length=ts.length->Q (bS2 σ (vs.map some) ix) H->gt v (bS2 σ o ix) H Q)
  (he:∀cl C s₀ H₀ fp xe XE,Z8 ((J7 X scope cl C (bN2 X.N ts ix) s₀ H₀ fp).wish xe) ⟨TR.own,TR.io,XE⟩->EVX ((J7 X scope cl C (bN2 X.N ts ix) s₀ H₀ fp).wish xe) ⟨TR.own,TR.io,XE⟩ false true elt we)
  (B:BlkScope X.env scope x) (hix:∀i∈ix,∃y,X.N[i]? = some y/\scope.names.lookup y=some .free) (hN:(bN2 X.N ts ix).Nodup) (hg:∀cl C s₀ H₀ fp,PG (J7 X scope cl C (bN2 X.N ts ix) s₀ H₀ fp) tg gt) (hc:X.calm=true)
  (hs:∀x,foldedSetIterable iter X.env x=pure x):EVX X T m true (.ListComp elt [⟨tg,iter,[],0⟩] scope pos) (Qce spl wl we ix):=by
 obtain ⟨wi,pi,gi⟩:=hi
 refine ⟨_,Qnl (te:=λσ σ' H Q=>∀cl C s₀ H₀ fp xe (h:Z8 ((J7 X scope cl C (bN2 X.N ts ix) s₀ H₀ fp).wish xe) ⟨TR.own,TR.io,λd _ H'=>T.xe d σ H'⟩),Classical.choose (he cl C s₀ H₀ fp xe _ h) σ' H Q) (Ξ:=XiD X.K T) ix hp hP hc B hix hN pi hg (λcl C s₀ H₀ fp=>Qha)
  (λσ cl C s₀ H₀ fp xe hx=>by
   have hy:Z8 ((J7 X scope cl C (bN2 X.N ts ix) s₀ H₀ fp).wish xe) ⟨TR.own,TR.io,λd _ H'=>T.xe d σ H'⟩:=λpins σ' H s e s' I z=>hx pins σ' H s e s' I.unwish z
   exact λpins s σ' H Q I h=>(Classical.choose_spec (he cl C s₀ H₀ fp xe _ hy)).1 pins s σ' H Q I (h cl C s₀ H₀ fp xe hy)) hs,λz R σ H W ρ Q Q' xc s hx hw k=>?_⟩
 refine gi z R σ H W ρ _ _ s hw λJ H1 W1 ds ρ1 p jd q=>?_
 obtain ⟨I,h0,hI,hd⟩:=q
 refine ⟨λi n ys H2=>n=ds.length-i/\i<=ds.length/\Same H1 H2/\∃es F,Reps X.K H2 es ys F/\F.Nodup/\(∀a∈F,H1 a=none)/\I i es,ds.length,⟨by simp,Nat.zero_le _,Same.refl _,[],[],.nil,List.nodup_nil,(λa m=>(nomatch m)),h0⟩,?_⟩
 rintro i n ys H2 ⟨rfl,hi,sm,es,F,re,nd,nw,i2⟩
 obtain ⟨j1,j2⟩:=jd i H2 (wz pr W1) (FrW.same _ sm)
 by_cases hlt:i<ds.length
 ·have hdi:ds[i]? = some ds[i]:=List.getElem?_eq_getElem hlt
  obtain ⟨hgo,hy⟩:=j2 _ hdi
  obtain ⟨hz,q1⟩:=hI i _ es hdi i2
  refine .inr ⟨hgo,by rw [re.length];exact hz,λv H3 yl o ol=>?_⟩
  obtain ⟨sm3,Fv,rv,_⟩:=hy v H3 yl
  obtain ⟨vs,ns,G,rn,nl,q1,gq⟩:=hsp H3 _ v Fv _ rv q1
  refine gq σ o _ ol ⟨vs.map some,rfl,by rw [List.length_map,rn.length,nl],?_⟩
  have srB:∀z' XE,SR X.K ⟨TR.own,TR.io,XE⟩ z' (Any H3) H3 (λ_=>False) (bS2 σ (vs.map some) ix) (ns.map some++ix.map (look ρ1)):=λz' XE=>by
   refine SR.readonly rfl (by simp [bS2,rn.length]) λj d hj=>⟨rfl,?_⟩
   have hj:=Qdn hj
   unfold bS2
   by_cases hlj:j<ns.length
   ·rw [List.getElem?_append_left (by simpa using hlj),List.getElem?_map] at hj
    cases q:ns[j]? with
    | none=>rw [q] at hj;cases hj
    | some d' =>
     rw [q] at hj
     cases hj
     obtain ⟨u,B,g1,g2,_⟩:=rn.get q
     exact ⟨u,B,by rw [List.getElem?_append_left (by rw [List.length_map,rn.length];exact hlj),List.getElem?_map,g1];rfl,g2⟩
   ·rw [List.getElem?_append_right (by simpa using hlj),List.length_map,List.getElem?_map] at hj
    cases hq:ix[j-ns.length]? with
    | none=>rw [hq] at hj;cases hj
    | some q =>
     rw [hq] at hj
     have hj:look ρ1 q=some d:=by simpa using hj
     obtain ⟨fp,s1⟩:=(p.sr.same sm).same sm3
     obtain ⟨u,hu,ru⟩:=s1.at_ q d hj
     refine ⟨u,fp q,?_,ru⟩
     rw [List.getElem?_append_right (by rw [List.length_map,rn.length];exact Nat.not_lt.mp hlj),List.length_map,rn.length,List.getElem?_map,hq]
     simp [hu]
  refine Qt2 ?_
  intro cl C s₀ H₀ fp xe h
  refine (Classical.choose_spec (he cl C s₀ H₀ fp xe _ h)).2 (λ_=>.non) (Any H3) _ H3 (λ_=>False) _ _ _ (λe _=>xc e ρ1) (srB _ _) (λR' H' W' ρ' d s' f' hk=>?_) q1 λu H5 W5 y ρ5 Fy p5 q5=>?_
  ·have smX:Same H1 H':=(sm.trans sm3).trans λb ob e=>f'.keep b ob e λz=>z
   exact hx R H' W1 ρ1 d (p.sr.same smX) (p.fr.trans (FrW.same W1 smX)) hk
  ·obtain ⟨sm5,_,_⟩:=p5.calm rfl
   obtain ⟨ny,ky⟩:=p5.own rfl
   have re4:=re.same sm3
   refine ⟨ds.length-(i+1),by omega,rfl,hlt,(sm.trans sm3).trans sm5,es++[y],F++Fy,(re4.same sm5).snoc p5.rep,Gi nd ny λa ha hf=>?_,λa ha=>?_,q5⟩
   ·obtain ⟨ob,e1,_⟩:=re4.dom a hf
    rw [(ky a ha).1] at e1;cases e1
   ·rcases List.mem_append.mp ha with ha | ha
    ·exact nw a ha
    ·exact (sm.trans sm3).free (ky a ha).1
 ·have e:i=ds.length:=by omega
  subst e
  obtain ⟨hz,q1⟩:=hd es i2
  refine .inl ⟨j1 (Nat.le_refl _),by rw [re.length];exact hz,λl hl=>?_⟩
  have hl1:H1 l=none:=sm.free hl
  refine k _ _ W1 (.lst es) ρ1 (l::F) ⟨(p.sr.same sm).same (Qj hl),(p.fr.trans (FrW.same W1 sm)).trans (FrW.same W1 (Qj hl)),λh=>⟨((p.calm h).1.trans sm).trans (Qj hl),(p.calm h).2⟩,.lst Ql (re.same (Qj hl)),λ_=>⟨List.nodup_cons.mpr ⟨λh=>?_,nd⟩,λb hb=>?_⟩⟩ q1
  ·obtain ⟨ob,e1,_⟩:=re.dom l h
   rw [hl] at e1;cases e1
  ·rcases List.mem_cons.mp hb with rfl | hb
   ·exact ⟨p.fr.dom _ hl1,p.sr.nw hl1⟩
   ·exact ⟨p.fr.dom _ (nw b hb),p.sr.nw (nw b hb)⟩
def spl2 (d:D) (k:List D->Prop):Prop:=two2 d λa b=>k [a,b]
theorem Qlh (ix:List Nat) (hp:X.Plain) (hP:Qbt X T) (hi:IV X T m pr (.Tuple [.Name x px,.Name y py] kt pt) iter wl)
  (he:∀cl C s₀ H₀ fp xe XE,Z8 ((J7 X scope cl C (bN2 X.N [x,y] ix) s₀ H₀ fp).wish xe) ⟨TR.own,TR.io,XE⟩->EVX ((J7 X scope cl C (bN2 X.N [x,y] ix) s₀ H₀ fp).wish xe) ⟨TR.own,TR.io,XE⟩ false true elt we)
  (B:CompB2 X scope x y ix) (hc:X.calm=true:=by rfl) (hs:∀x,foldedSetIterable iter X.env x=pure x:=by intro _;rfl):EVX X T m true (.ListComp elt [⟨.Tuple [.Name x px,.Name y py] kt pt,iter,[],0⟩] scope pos) (Qce spl2 wl we ix) :=
 Qlg ix hp hP hi (λH d v F k r q=>by
  obtain ⟨av,v1,v2,d1,d2,F1,F2,rfl,ev,r1,r2,q⟩:=two2_rep r q
  refine ⟨[v1,v2],[d1,d2],_,.cons r1 (.cons r2 .nil),rfl,q,λσ o Q ol hQ=>⟨av,[v1,v2],rfl,ev,rfl,v1,[v2],rfl,v2,[],rfl,rfl,?_⟩⟩
  match o,ol with
  | [o1,o2],_=>exact hQ) he B.B1.B B.B1.hix B.nd (pg2 B hc) hc hs
end
end PV
variable {d:Nat}
namespace L2
open PySem PySem.Spec PyProof.Rows
open PySem.W (findIn subIn mroIn clsIn Looks looks_findIn looks_subIn hideAll of_hideAll hideAll_get hideAll_none funFrames_hide)
def smV (v:V):Prop:=∃i:Int,v=.int i/\i.natAbs.log2<1920/\(toString i).length<=700
def spS (K:Frag) (C:Addr) (attr:Str):Sp:=λvs H Q _=>∃a v,vs=[.ref a,v]/\smV v/\H a=some (exO a C none)/\∀d,H d=none->d≠a->Q .non (upd (upd H a (exO a C (some d))) d (.xd [(attr,v)]))
theorem Qj2 {Ξ:V->Addr->St->Hp->Prop} (hbd:X.mg x=some (.ref C)) (hkp:keepIn X.K (.ref C)=true) (k1:ExcC X.K C) (hi:findIn X.K (.ref C) "__init__" = some (some (.ref f))) (hf:typeIn X.K (.ref f)=some (.type "function"))
  (F:FnOk X.prog X.w X.K X.mg X.base CX0 k f fd ps (spS X.K C attr)) (hr:Room (k+1) X.A) (hb:Xm X.K fd ps []) (hg:Gl X x) (hc:X.calm=true) (ha:PA X (e₀::es) ta)
  (hX:∀pins σ H s e d od t v,Inv X pins σ H s->s.heap.get? e=some (Us C t (some d))->H e=none->X.s₀.heap.get? e=none->H d=some (.frz od (.xd [(attr,v)]))->Ξ v d σ H->X.xe (.ref e) s)
  (hdb:(x == ("__debug__" : Str))=false:=by decide) (he:starEach (e₀::es) X.env=(false,eval e₀ X.env)::starEach es X.env:=by rfl) (hpl:(backTo cpos (starEach es X.env)).any (·.1)=false:=by rfl) :
  PS X (.Raise (some (.Call (.Name x np) (e₀::es) [] cpos)) none pos) (λD σ H=>ta σ H λvs H1=>∃v,vs=[v]/\smV v/\∀H2 d od,(∀b o,H1 b=some o->H2 b=some o)->H2 d=some (.frz od (.xd [(attr,v)]))->Ξ v d σ H2):=by
 intro pins s σ H D I h
 obtain ⟨nm,qq,N,bs,bm,sn,sub,ab,col,dd,k0,k1',k2,k3,k5,hbx,hob⟩:=k1.obj
 rw [arm_exec_Raise]
 refine wpAny_bind (wpAny_standAt (Qh8 (C:=C) (nm:=nm) (q:=qq) (N:=N) (bs:=bs) (bm:=bm) (hdct:=true) (sn:=sn) (sub:=sub) (ab:=ab) (col:=col) (dd:=dd) (k0:=k0) (k1:=k1') (k2:=k2) (k3:=k3) (k5:=k5) (newId:="ValueError.__new__") hbx (I.ok.hd hc) ?_))
 refine wpAny_bind (wpAny_mono (wpAny_Call_ofName (Xe I hg hbd ?_ hdb)) (λv s₃ h₃=>wpAny_bind (wpAny_standAt (wpAny_pure h₃))) λ_ _ x=>x)
 refine callWith_K (h₀:=X.base) I.ok.mod.kin hkp (thn (ha cpos pins s σ H _ I h) λus s2 ⟨vs,H1,I1,r,v,ev,hsm,hΞ⟩=>⟨I1.kIn,?_⟩) he hpl
 subst ev
 obtain ⟨u,rfl,ru⟩:=Qbw r
 obtain ⟨c1,c2⟩:=hob s2.heap I1.kIn
 obtain ⟨hp,g,dr,tk,os⟩:=s2
 refine Qmd PySem.F.excBase_ValueError c2 I1.kIn c1 hi hf (λh' e hm he=>?_) (by show 1<=sizeLine;decide)
 obtain ⟨t0,et,_⟩:=hm.there
 have hfe:H1 e=none:=I1.hok.fresh (by rw [he];exact Nat.le_succ _)
 have I2:=I1.laid (a:=e) (o:=exO e C none) (h':=h') (t':=tk) hm.keeps (by rw [he];exact Nat.le_succ _) (Qlf ⟨t0,et⟩)
 have r2:Vals [V.ref e,v] [Value.ref e,u]:=.cons rfl (.cons ru .nil)
 have hq:spS X.K C attr [V.ref e,v] (upd H1 e (exO e C none)) (λw H'=>w=.non/\∃d,H1 d=none/\d≠e/\H'=upd (upd (upd H1 e (exO e C none)) e (exO e C (some d))) d (.xd [(attr,v)])) E0 :=
  ⟨e,v,rfl,hsm,Ql,λd hd hne=>⟨rfl,d,by rw [Qk hne] at hd;exact hd,hne,rfl⟩⟩
 have hl:([Value.ref e,u]++([]:List Value)).length=ps.length:=by
  have:=F.len _ _ _ _ hq
  rw [← this];rfl
 have hbb:=hb { heap:=h',gens:=g,drawn:=dr,toks:=tk,os:=os } [Value.ref e,u] I2.kIn hl
 rw [List.append_nil] at hbb
 refine codeAny_mono (F.run _ X.stack _ _ ⟨[Value.ref e,u],[]⟩ [Value.ref e,u] _ _ E0 (hr.make C [u] []) (I2.env0.make C [u] []) hbb r2 hq) λr s' hq'=>?_
 cases r with
 | error e=>exact False.elim hq'
 | ok fl =>
  cases fl with
  | ret u' =>
   obtain ⟨v',H',I3,rv,ev,d,hd,hne,eH⟩:=I2.after hq'
   subst ev
   have he':H' e=some (exO e C (some d)):=by rw [eH,Qk (Ne.symm hne),Ql]
   have hd':H' d=some (.xd [(attr,v)]):=by rw [eH,Ql]
   obtain ⟨od,t,e1,I4⟩:=I3.refrz he' hd'
   have hn4:X.s₀.heap.get? e=none:=Heap.get?_none_of_le (Nat.le_trans I1.sz (by rw [he];exact Nat.le_succ _))
   have b1:Qbo H' e d (.frz od (.xd [(attr,v)])) e=none:=by unfold Qbo;rw [if_pos rfl]
   have b2:Qbo H' e d (.frz od (.xd [(attr,v)])) d=some (.frz od (.xd [(attr,v)])):=by unfold Qbo;rw [if_neg hne,if_pos rfl]
   refine ⟨by cases rv;rfl,e,t,some d,rfl,(hob s'.heap I3.kIn).1,e1,hX pins σ _ s' e d od t v I4 e1 b1 hn4 b2 (hΞ _ d od (λb o q=>?_) b2)⟩
   unfold Qbo
   rw [if_neg (λz=>by rw [z,hfe] at q;cases q),if_neg (λz=>by rw [z,hd] at q;cases q),eH,Qk (λz=>by rw [z,hd] at q;cases q),Qk (λz=>by rw [z,hfe] at q;cases q),Qk (λz=>by rw [z,hfe] at q;cases q)]
   exact q
  | next=>exact False.elim hq'
  | brk=>exact False.elim hq'
  | cont=>exact False.elim hq'
def tFs3 (c d:Str) (te:TE):TE:=λσ H Q=>c.length<=sizeLine/\te σ H λx H1=>∃i:Int,x=.int i/\i.natAbs.log2<1920/\(c++Str.ofString (toString i)).length<=sizeLine/\(c++Str.ofString (toString i)++d).length<=sizeLine/\Q (.str (c++Str.ofString (toString i)++d)) H1
theorem Qnj {c d:Str} {k2:Nat} (he:PE X e te):PE X (.JoinedStr [.Constant (.str c) k p1,.FormattedValue e (-1) none p3,.Constant (.str d) k2 p2] pos) (tFs3 c d te):=by
 intro pins s σ H Q I h
 refine wpAny_JoinedStr ?_
 show Joins _ _ _ [eval (.Constant (.str c) k p1) X.env,eval (.FormattedValue e (-1) none p3) X.env,eval (.Constant (.str d) k2 p2) X.env] _ _ _
 refine wpAny_Constant_str ⟨c,_,rfl,?_,?_⟩
 ·rw [Str.empty_append];exact h.1
 ·refine wpAny_FormattedValue_plain (thn (he pins _ σ H _ (I.tok _) h.2) λv s1 ⟨x,H1,I1,r1,q1⟩=>?_)
  obtain ⟨i,rfl,hi,hz,hz2,q⟩:=q1
  obtain ⟨t,rfl⟩:=r1
  refine wpAny_formatField_int hi ⟨_,_,rfl,?_,?_⟩
  ·rw [Str.empty_append];exact hz
  ·rw [Str.empty_append]
   refine wpAny_Constant_str ⟨d,_,rfl,hz2,?_⟩
   exact ⟨hz2,.str _,H1,(I1.tok _).tok _,⟨_,rfl⟩,q⟩
end L2
namespace PV
open PySem PySem.Spec L2
open PyProof.Rows (envOfC)
def Qcx (P:Program) (w:World) (K:Frag) (mg:Str->Option Value) (base:Heap) (x attr:Str) (k:Nat):Prop:=∃C f fd ps,mg x=some (.ref C)/\atN K x C/\keepIn K (.ref C)=true/\ExcC K C/\PySem.W.findIn K (.ref C) "__init__" = some (some (.ref f))/\typeIn K (.ref f)=some (.type "function") /\
 FnOk P w K mg base CX0 k f fd ps (L2.spS K C attr)/\Xm K fd ps []
theorem CalD.calm (C:CalD P w K mg base x k ps (spXD K g)):Cal P w K mg base x k ps (spR K (Ql6 g)):=by
 obtain ⟨f,fd,F,h1,h2,h3⟩:=C
 have up:∀vs H Q E,spR K (Ql6 g) vs H Q E->spXD K g vs H Q λ_ _ _=>False:=λvs H Q E ⟨ds,Fp,kk,r,hg,q⟩=>⟨ds,Fp,kk,λ_=>False,r,hg,q,λ_ _ _ _ _ _ _ _ z=>z⟩
 refine ⟨f,fd,⟨λvs H Q E h=>F.len vs H Q _ (up vs H Q E h),λA outer s H args us vs Q E hr e0 hb hv h=>codeAny_mono (F.run A outer s H args us vs Q _ hr e0 hb hv (up vs H Q E h)) λr s' q=>?_⟩,h1,h2,h3⟩
 cases r with
 | ok fl=>cases fl <;> exact q
 | error e=>obtain ⟨_,_,_,_,_,_,_,_,_,z⟩:=q;exact z.elim
section
variable {w:WE}
def Vq (x attr:Str) (wr:WA):WS:=λP ρ=>wr ρ λds ρ'=>match ds with
 | [.int i]=>(i.natAbs.log2<1920/\(toString i).length<=700)/\P.xc (.obj x [(attr,i)]) ρ'
 | _=>False
theorem Qat (hI:Qcx X.prog X.w X.K X.mg X.base x attr k) (hr:Room (k+1) X.A) (hX:∀C,atN X.K x C->V9 X T x C attr) (ha:AV X T m o (e₀::es) wr) (hg:Gl X x:=by rfl) (hc:X.calm=true:=by rfl)
  (hdb:(x == ("__debug__" : Str))=false:=by decide) (he:starEach (e₀::es) X.env=(false,eval e₀ X.env)::starEach es X.env:=by rfl) (hpl:(backTo cpos (starEach es X.env)).any (·.1)=false:=by rfl) :
  SV X T (.Raise (some (.Call (.Name x np) (e₀::es) [] cpos)) none pos) (Vq x attr wr):=by
 obtain ⟨C,f,fd,ps,h1,h2,h3,h4,h5,h6,F,hb⟩:=hI
 obtain ⟨ta,pa,ga⟩:=ha
 refine ⟨_,Qj2 (Ξ:=λv d σ H=>∃i,v=.int i/\T.xe (.obj x [(attr,i)]) σ H) h1 h3 h4 h5 h6 F hr hb hg hc pa (λpins σ H s e d od t v I q1 q2 q3 q4 q5=>?_) hdb he hpl,λz R σ H W ρ P E s hw l=>?_⟩
 ·obtain ⟨i,rfl,q5⟩:=q5
  exact hX C h2 pins σ H s e d od t i I q1 q2 q3 q4 q5
 ·refine ga z R σ H W ρ _ _ s hw λvs H1 W1 ds ρ1 F p q=>?_
  split at q
  ·rename_i i
   cases p.rep with
   | cons r rs =>
    cases rs
    cases r
    exact ⟨_,rfl,⟨i,rfl,q.1⟩,λH2 d od sm hd=>⟨i,rfl,l.xc R σ H2 W1 ρ1 _ (p.sr.same sm) (p.fr.trans (FrW.same W1 sm)) q.2⟩⟩
  ·exact q.elim
def Qg0 (g:GX) (wr:WA) (cat:Str->Bool) (j:Nat) (wh:WS):WS:=λP ρ=>wr ρ λds ρ'=>g ds (λ_=>P.nx ρ') λd=>match d with
 | .obj x fs=>cat x=true/\wh (P.un j) (ρ'.set j (some (.obj x fs)))
 | _=>False
theorem Qmw {j:Nat} {f n:Str} {cat:Str->Bool} (C:CalD X.prog X.w X.K X.mg X.base f k ps (spXD X.K g)) (hr:Room k X.A) (hp:X.Plain) (ha:AV X.nox T false o (e₀::es) wr) (hcx:X.mg cx=some (.ref C0))
  (hcat:∀x C,cat x=true->atN X.K x C->exmOne X.K (.ref C) (.ref C0)=some true) (hh:∀ea,SVsJ (X.han ea) T (b₀::suite) wh) (hN:X.N.Nodup)
  (hj:X.N[j]? = some n:=by rfl) (hjo:j∉T.io:=by decide) (hg:Gl X f:=by rfl) (hgc:Gl X cx:=by rfl)
  (hl:X.env.kindOf n=some .local:=by rfl) (hlo:X.env.scope.names.lookup n=some .local:=by rfl) (hdb:(f == ("__debug__" : Str))=false:=by decide) (hdc:(cx == ("__debug__" : Str))=false:=by decide)
  (he:starEach (e₀::es) X.env=(false,eval e₀ X.env)::starEach es X.env:=by rfl) (hpl:(backTo cpos (starEach es X.env)).any (·.1)=false:=by rfl) (hsw:swapsWith (.Call (.Name f p) (e₀::es) [] cpos) none p2.line X.env=pure false:=by rfl) :
  SV X T (.Try [.Expr (.Call (.Name f p) (e₀::es) [] cpos) p2] [.ExceptHandler (some (.Name cx np)) (some n) (b₀::suite) hpos] [] [] pos) (Qg0 g wr cat j wh):=by
 obtain ⟨fa,fd,F,h1,h2,h3⟩:=C
 obtain ⟨ta,pa,ga⟩:=ha
 have ph:∀ea,PSs (X.han ea) (b₀::suite) (λE σ H=>∃(z:Nat->V) (R:Addr->Prop) (W:Addr->Prop) (ρ:Env) (P:EndsP),SR X.K T z R H W σ ρ/\HnH (X.han ea).A H/\wh P ρ/\Lk X.K T z H W P E):=λea=>by
  obtain ⟨t1,p1,g1⟩:=hh ea
  intro pins s σ H D I ⟨z,R,W,ρ,P,s0,hx,hw,l⟩
  exact p1 pins s σ H D I (g1 z R σ H W ρ P D s0 hx hw l)
 refine ⟨_,Qr7 (C0:=C0) hp (Qfr F hr hg h1 h2 h3 pa hsw hdb he hpl) hcx hgc hN hj hl hlo ph hdc,λz R σ H W ρ P E s hw l=>?_⟩
 refine ga z R σ H W ρ _ _ s hw λvs H1 W1 ds ρ1 Fp p q=>?_
 obtain ⟨sm0,hW,hρ⟩:=p.calm rfl
 refine ⟨ds,Fp,_,_,p.rep,q,λv H' d F' fi hk=>?_,λx C dx fs H' hn sm hfl hk=>?_⟩
 ·exact l.nx R _ H' _ _ (p.sr.same fi.same) (p.fr.trans (FrW.same W1 fi.same)) hk
 ·obtain ⟨hc1,hk⟩:=hk
  refine ⟨C,rfl,hcat x C hc1 hn,λea ob φ hcl hdx hne=>?_⟩
  obtain ⟨hdx,vs',hdt,hd2⟩:=hdx
  have smu:Same H' (upd H' ea (.frz ob (.ext φ))):=Qj hne
  obtain ⟨fp,s1⟩:=(p.sr.same sm).same smu
  have rep:Rep X.K (upd H' ea (.frz ob (.ext φ))) (.obj x fs) (.ref ea) []:=.obj Ql ⟨C,hcl,hn⟩ (hfl.imp id λ⟨d,od,e1,e2⟩=>⟨d,od,vs',hdx.trans e1,hdt,smu _ _ e2⟩)
  obtain ⟨R',s2⟩:=s1.bind (i:=j) hjo rep (by simp) (λa ha=>nomatch ha)
  have fr0:FrW H W (upd H' ea (.frz ob (.ext φ))) (λa=>W1 a\/(T.own j=true/\a∈([]:List Addr))):=Qah ((p.fr.trans (FrW.same W1 sm)).trans (FrW.same W1 smu)) λa h=>nomatch h.2
  have l2:=l.step fr0
  refine ⟨z,R',_,_,P.un j,s2,⟨ea,ob,φ,vs',rfl,Ql,hdt,hd2⟩,hk,λR σ' H' W' ρ' s' f' h=>?_,λR σ' H' W' ρ' s' f' h=>?_,λR σ' H' W' ρ' s' f' h=>?_,l2.rt,λR σ' H' W' ρ' d s' f' h=>h.elim⟩
  ·exact l2.nx R _ H' W' _ (s'.unset hjo) f' h
  ·exact l2.bk R _ H' W' _ (s'.unset hjo) f' h
  ·exact l2.ct R _ H' W' _ (s'.unset hjo) f' h
end
section
variable {N:List Str}
theorem Qn8 (F:Fun K x qual st f fd) (S:FnScope N ps (Qb st)) (hio:T.io=[]) (hown:∀i,i<ps.length->T.own i=false) (hg:∀ds kk kx,g ds kk kx->ds.length=ps.length)
  (hb:∀(cdv:Value) (A:Around) (outer:List PySem.Env) (s:Shared) (H:Hp) (E:XK) (XE:D->St->Hp->Prop),Room k (A.deeper (envOfC qual (Qb st) s.heap.objs.size f cdv)) ->
   (∀x C,atN K x C->Qbs (cxOf (CXD P w base) P w K mg base N qual (Qb st) f cdv A outer s H E) ⟨T.own,T.io,XE⟩ x C)->(∀x attr C,atN K x C->V9 (cxOf (CXD P w base) P w K mg base N qual (Qb st) f cdv A outer s H E) ⟨T.own,T.io,XE⟩ x C attr)->Z8 (cxOf (CXD P w base) P w K mg base N qual (Qb st) f cdv A outer s H E) ⟨T.own,T.io,XE⟩->Qbt (cxOf (CXD P w base) P w K mg base N qual (Qb st) f cdv A outer s H E) ⟨T.own,T.io,XE⟩->SVs (cxOf (CXD P w base) P w K mg base N qual (Qb st) f cdv A outer s H E) ⟨T.own,T.io,XE⟩ (Qw st) ww)
  (hr:∀ds kk kx,g ds kk kx->ww { nx:=λ_=>kk .non,rt:=λd _=>kk d,xc:=λd _=>kx d } (env0 N ds)):FnOk P w K mg base (CXD P w base) (k+1) f fd ps (spXD K g):=by
 obtain ⟨oc,od,kV,doc,pm,an,cdv,ct,osl,rfl,lk,hcd⟩:=F.ex
 refine Qyh lk hcd S (λvs H Q E h=>?_) λA outer s H vs Q E hroom h=>?_
 ·obtain ⟨ds,Fp,kk,kx,rep,hgk,_⟩:=h
  rw [rep.length];exact hg ds kk kx hgk
 ·obtain ⟨ds,Fp,kk,kx,rep,hgk,q,qx⟩:=h
  obtain ⟨ts,pts,gts⟩:=hb cdv A outer s H E (λd _ H'=>∀x C fs dx,atN K x C->d=.obj x fs->Fld H' dx fs->E (.ref C) dx H') hroom (λx C hn pins σ H1 s1 h1 e vs I hx hT=>by
   obtain ⟨t,ht,_,_⟩:=hx.there
   have hn1:H1 e=none:=by
    cases q:H1 e with
    | none=>rfl
    | some o =>
     obtain ⟨o1,e1⟩:=(I.hok e o q).there
     rw [hx.new] at e1
     cases e1
   refine Qbb (X:=cxOf (CXD P w base) P w K mg base N qual (Qb st) f cdv A outer s H E) ⟨rfl,rfl,rfl⟩ (I.kept (t':=s1.toks) hx.keeps) ht hn1 ?_ λh' B fl da=>⟨e,C,t,none,B,H1,rfl,fl,da,hT x C [] none hn rfl (.inl rfl)⟩
   cases q:s.heap.get? e with
   | none=>exact q
   | some o =>
    obtain ⟨o1,e1⟩:=I.base.there e o q (by show e∉[];simp)
    rw [hx.new] at e1
    cases e1) (λx attr C hn pins σ H1 s1 e d od t i I he hn1 h0 hd hT =>
   Qbb (X:=cxOf (CXD P w base) P w K mg base N qual (Qb st) f cdv A outer s H E) ⟨rfl,rfl,rfl⟩ I he hn1 h0 λh' B fl da=>⟨e,C,t,some d,B,H1,rfl,fl,da,hT x C _ (some d) hn rfl (.inr ⟨d,od,rfl,hd⟩)⟩) (λpins σ H1 s1 e s' I z=>by
   obtain ⟨ea,C,t,dx,B,H',rfl,fl,da,C',eC,y,fs,hn,hfl,hT⟩:=z
   cases eC
   exact Qkn (X:=cxOf (CXD P w base) P w K mg base N qual (Qb st) f cdv A outer s H E) ⟨rfl,rfl,rfl⟩ I fl da λh' fl' da'=>⟨ea,C,t,dx,B,H',rfl,fl',da',hT y C fs dx hn rfl hfl⟩) (λpins σ H1 s1 e s' I z=>wpAny_mono (Qij (X:=cxOf (CXD P w base) P w K mg base N qual (Qb st) f cdv A outer s H E) ⟨rfl,rfl,rfl⟩ I z) (λ_ s2 z=>by
   obtain ⟨ea,C,t,dx,B,H',rfl,fl,da,C',eC,y,fs,hn,hfl,hT⟩:=z
   cases eC
   exact ⟨ea,C,t,dx,B,H',rfl,fl,da,hT y C fs dx hn rfl hfl⟩) λ_ _ z=>z)
  have hl:=rep.length
  have hds:=hg ds kk kx hgk
  refine ⟨ts,pts,gts (λ_=>.non) (Any H) (L2.start N vs) H (λ_=>False) (env0 N ds) _ _ (SR.readonly hio ?_ λi d hli=>?_) (hr ds kk kx hgk) ⟨?_,?_,?_,?_,?_⟩⟩
  ·unfold env0 L2.start;simp [hl]
  ·unfold env0 at hli
   rw [Vd] at hli
   obtain ⟨v,B,h1,h2,_⟩:=rep.get hli
   exact ⟨hown i (by rw [← hds];exact (List.getElem?_eq_some_iff.mp hli).1),v,B,Vu h1,h2⟩
  ·intro R' σ' H' W' ρ' s' fr hk
   have sm:Same H H':=λb o e=>fr.keep b o e (λz=>z)
   exact q .non H' .non [] ⟨sm,.non,List.nodup_nil,λ_ m=>nomatch m⟩ hk
  ·exact λR' σ' H' W' ρ' s' fr hk=>hk.elim
  ·exact λR' σ' H' W' ρ' s' fr hk=>hk.elim
  ·intro R' v σ' H' W' ρ' d F' s' fr r nd nw hk
   have sm:Same H H':=λb o e=>fr.keep b o e (λz=>z)
   exact q v H' d F' ⟨sm,r,nd,λa ha=>(nw a ha).2.resolve_left id⟩ hk
  ·intro R' σ' H' W' ρ' d s' fr hk x C fs dx hn e hfl
   subst e
   exact qx x C dx fs H' hn (λb o e=>fr.keep b o e (λz=>z)) hfl hk
end
def Qua (g:GX) (wr:WA) (cat:Str->Bool) (j:Nat) (wh wo:WS):WS:=λP ρ=>wr ρ λds ρ'=>g ds (λ_=>wo P ρ') λd=>match d with
 | .obj x fs=>cat x=true/\wh (P.un j) (ρ'.set j (some (.obj x fs)))
 | _=>False
def Qzo (wr:WAX):WX:=λρ Q xc=>wr ρ (λds ρ'=>ds.length<=sizeLine/\Q (.lst ds) ρ') xc
def wMtX (i:Nat) (t:String) (g:GM) (wr:WAX):WX:=λρ Q xc=>tyD (look ρ i) t=true/\wr ρ (λds ρ1=>oget (look ρ1 i) λd=>g d ds λe d'=>Q e (ρ1.set i (some d'))) xc
end PV
namespace L2
open PySem PySem.Spec PyProof.Rows
def Qrk:V->List V->Hp->VK->Prop:=λx vs H Q=>(∃(y sep:Str),x=.str y/\vs=[.str sep]/\sep.length=1/\y.length=0/\∀l,H l=none->Q (.ref l) (upd H l (.lst [V.str y])))\/Qpa x vs H Q
theorem Qki:MtM X "str.split" Qrk:=by
 intro pins s σ H x vs v us Q I rx rv h
 rcases h with ⟨y,sep,rfl,rfl,h1,hy,q⟩ | h
 ·obtain ⟨t,rfl⟩:=rx
  obtain ⟨u,rfl,tu,rfl⟩:=rv.one
  refine call_meets PySem.F.slot_str_split (typeIs_str s y t) PySem.F.entry_str_split (PySem.F.args_str_split_2 _ _) (meets_str_split_cannot_occur y sep t tu (by rw [h1,hy];rfl)) ?_
  refine ⟨.ref s.heap.objs.size,_,I.laid (o:=.lst [V.str y]) (t':=s.toks) (λb o e=>Heap.get?_push_of_some _ e) (Nat.le_refl _) ?_,rfl,q _ (I.hok.fresh (Nat.le_refl _))⟩
  exact ⟨by show 1<=sizeLine;decide,[.str y t],0,.cons ⟨t,rfl⟩ .nil,Heap.get?_push_size _ rfl⟩
 ·exact Qnt pins s σ H x vs v us Q I rx rv h
end L2
namespace PV
open PySem PySem.Spec L2
def Xg:GS:=λy ds k=>match ds with
 | [.str sep]=>(sep.length=1/\y.length=0/\k (.lst [.str y]))\/Qyc y [.str sep] k
 | _=>False
theorem Qa9:MsD X "str.split" Xg:=by
 refine ⟨_,Qki,λH y ds xs F k Q r g q=>?_⟩
 cases ds with
 | nil=>exact (show False from g).elim
 | cons d ds =>
  cases ds with
  | cons _ _=>cases d <;> exact (show False from g).elim
  | nil =>
   cases d with
   | str sep =>
    obtain ⟨v,rfl,rd⟩:=r.at1
    cases rd
    rcases g with ⟨h1,h2,g⟩ | ⟨h1,h2,h3,h4,h5,g⟩
    ·exact .inl ⟨y,sep,rfl,rfl,h1,h2,λl hl=>q _ _ _ [l] ⟨Qj hl,.lst Ql (Reps.strs [y]),by simp,λc m=>by rw [List.mem_singleton.mp m];exact hl⟩ g⟩
    ·exact .inr ⟨y,sep,rfl,rfl,h1,h2,h3,h4,h5,λl hl=>q _ _ _ [l] ⟨Qj hl,.lst Ql (Reps.strs _),by simp,λc m=>by rw [List.mem_singleton.mp m];exact hl⟩ g⟩
   | _=>exact (show False from g).elim
end PV
variable {w:PV.WE}
namespace PV
open PySem PySem.Spec L2
open PyProof.Rows (envOfC)
def Qt9 (i:Nat) (c:Str) (g:GX) (wr:WA) (cat:Str->Bool) (j:Nat) (wh:WS):WS:=λP ρ=>wr ρ λds ρ'=>g ds (λd=>P.nx (ρ'.set i (some (.tup [.str c,d])))) λd=>match d with
 | .obj x fs=>cat x=true/\wh (P.un j) (ρ'.set j (some (.obj x fs)))
 | _=>False
end PV
namespace PV
open PySem PySem.Spec L2
def lcOf (d:D) (ds:List D) (k:D->Prop):Prop:=match d,ds with
 | .lst xs,[.int n]=>∃ns:List Int,xs=ns.map D.int/\k (.int (ns.count n:Nat))
 | _,_=>False
def isLs:D->Bool
 | .lst _=>true
 | _=>false
def Qqj (w:WE) (wr:WA):WE:=λρ Q=>w ρ λd ρ1=>isLs d=true/\wr ρ1 λds ρ2=>lcOf d ds λr=>Q r ρ2
def tlOf (d:D) (k:List D->List D->Prop):Prop:=match d with
 | .lst l=>∃ds xs,l=ds++[.lst xs]/\k ds xs
 | _=>False
def wTkl (i:Nat) (we:WE):WS:=λP ρ=>oget (look ρ i) λd=>tlOf d λds xs=>Qi xs=true/\xs.length<sizeLine/\we ρ λe _=>e.pure=true/\P.nx (ρ.set i (some (.lst (ds++[.lst (xs++[e])]))))
end PV
variable {a:Nat}
namespace L2
open PySem PySem.Spec PyProof.Rows
open Builtin.Str (occurrences strSub subAt strSliceIndices)
def toS (y:Str) (b:Nat):Str:=⟨(y.cps.toList.take b).toArray⟩
theorem Qfx:Txt.slice y (some (a:Int)) none=J0 y a:=by
 by_cases h:a<=y.length
 ·exact Qcj h
 ·have e:strSliceIndices (some (a:Int)) none 1 y.length=strSliceIndices (some (y.length:Int)) none 1 y.length:=by
   unfold strSliceIndices
   simp only [show ¬((a:Int)<0) by omega,show ¬((y.length:Int)<0) by omega,if_false,show ((1:Int) > 0)=True by simp,if_true]
   have:min (a:Int) (y.length:Int)=min (y.length:Int) (y.length:Int):=by omega
   rw [this]
  have e2:Txt.slice y (some (a:Int)) none=Txt.slice y (some (y.length:Int)) none:=by
   unfold Txt.slice
   rw [e]
  rw [e2,Qcj (Nat.le_refl _)]
  unfold J0
  rw [List.drop_eq_nil_iff.mpr (by rw [Array.length_toList];exact Nat.le_refl _),List.drop_eq_nil_iff.mpr (by rw [Array.length_toList];have:y.cps.size=y.length:=rfl;omega)]
theorem Qmx {b:Nat}:Txt.slice y none (some (b:Int))=toS y b:=by
 have ok:∀b:Nat,b<=y.length->Txt.slice y none (some (b:Int))=toS y b:=λb h=>by
  have h2:b<=y.cps.toList.length:=by rw [Array.length_toList];exact h
  show StrLaws.sliceText y none (some (b:Int))=_
  rw [StrLaws.sliceText_to ⟨by omega,by omega⟩]
  unfold toS
  rw [show ((b:Int)-0).toNat=b by omega,List.drop_zero]
 by_cases h:b<=y.length
 ·exact ok b h
 ·have e:strSliceIndices none (some (b:Int)) 1 y.length=strSliceIndices none (some (y.length:Int)) 1 y.length:=by
   unfold strSliceIndices
   simp only [show ¬((b:Int)<0) by omega,show ¬((y.length:Int)<0) by omega,if_false,show ((1:Int) > 0)=True by simp,if_true]
   have:min (b:Int) (y.length:Int)=min (y.length:Int) (y.length:Int):=by omega
   rw [this]
  have e2:Txt.slice y none (some (b:Int))=Txt.slice y none (some (y.length:Int)):=by
   unfold Txt.slice
   rw [e]
  rw [e2,ok _ (Nat.le_refl _)]
  unfold toS
  have hs:y.cps.size=y.length:=rfl
  rw [List.take_of_length_le (by rw [Array.length_toList];exact Nat.le_refl _),List.take_of_length_le (by rw [Array.length_toList];omega)]
def rSlF:V->Option Int->Option Int->Hp->VK->Prop:=λx lo hi H Q=>∃(y:Str) (a:Nat),x=.str y/\lo=some (a:Int)/\hi=none/\y.length<=sizeLine/\Q (.str (J0 y a)) H
theorem Qqs:SlR X rSlF:=by
 intro pins s σ H x v vl vu lo hi sl Q I rx hs pl pu h
 obtain ⟨y,a,rfl,rfl,rfl,hz,q⟩:=h
 obtain ⟨t,rfl⟩:=rx
 cases pu
 cases pl with
 | int i tk =>
  refine ⟨"str",_,F.slot_str_getitem.lookup,typeIs_str _ _ _,wpAny_getItem_str_slice (l:=some ((a:Int),tk)) (u:=none) (st:=none) hs rfl ?_⟩
  refine post_val_or_str ⟨Nat.le_trans (Txt.slice_le y (some (a:Int)) none) hz,λt' k=>?_⟩
  refine ⟨.str (J0 y a),H,I.tok _,⟨t',?_⟩,q⟩
  rw [← Qfx]
  rfl
def Q0t:V->Option Int->Option Int->Hp->VK->Prop:=λx lo hi H Q=>∃(y:Str) (b:Nat),x=.str y/\lo=none/\hi=some (b:Int)/\y.length<=sizeLine/\Q (.str (toS y b)) H
theorem Qmy:SlR X Q0t:=by
 intro pins s σ H x v vl vu lo hi sl Q I rx hs pl pu h
 obtain ⟨y,b,rfl,rfl,rfl,hz,q⟩:=h
 obtain ⟨t,rfl⟩:=rx
 cases pl
 cases pu with
 | int i tk =>
  refine ⟨"str",_,F.slot_str_getitem.lookup,typeIs_str _ _ _,wpAny_getItem_str_slice (l:=none) (u:=some ((b:Int),tk)) (st:=none) hs rfl ?_⟩
  refine post_val_or_str ⟨Nat.le_trans (Txt.slice_le y none (some (b:Int))) hz,λt' k=>?_⟩
  refine ⟨.str (toS y b),H,I.tok _,⟨t',?_⟩,q⟩
  rw [← Qmx]
  rfl
def atS (x y:Str):Int:=match occurrences x y 0 x.length 1 with
 | i::_=>(i:Int)
 | []=>-1
def Q0x:V->List V->Hp->VK->Prop:=λx vs H Q=>∃(y z:Str),x=.str y/\vs=[.str z]/\Q (.int (atS y z)) H
theorem Qsq:MtM X "str.find" Q0x:=by
 intro pins s σ H x vs v us Q I rx rv h
 obtain ⟨y,z,rfl,rfl,q⟩:=h
 obtain ⟨t,rfl⟩:=rx
 obtain ⟨u,rfl,tu,rfl⟩:=rv.one
 exact call_gives PySem.F.slot_str_find (typeIs_str _ _ _) PySem.F.entry_str_find (PySem.F.args_str_find_2 _ _) (gives_str_find y z t tu) ⟨.int _,H,I.tok _,⟨_,rfl⟩,q⟩
end L2
variable {wl:PV.WO}
namespace PV
open PySem PySem.Spec L2
def Qs8:GS:=λy ds k=>match ds with
 | [.str z]=>k (.int (atS y z))
 | _=>False
theorem Qst:MsD X "str.find" Qs8:=by
 refine ⟨_,Qsq,λH y ds xs F k Q r g q=>?_⟩
 cases ds with
 | nil=>exact (show False from g).elim
 | cons d ds =>
  cases ds with
  | cons _ _=>cases d <;> exact (show False from g).elim
  | nil =>
   cases d with
   | str z =>
    obtain ⟨v,rfl,rd⟩:=r.at1
    cases rd
    exact ⟨y,z,rfl,rfl,q _ _ _ _ (.flat (.int _)) g⟩
   | _=>exact (show False from g).elim
def dSlF:D->Option Int->(D->Prop)->Prop
 | .str y,some i,k=>0<=i/\y.length<=sizeLine/\k (.str (J0 y i.toNat))
 | _,_,_=>False
def Qyv:D->Option Int->(D->Prop)->Prop
 | .str y,some i,k=>0<=i/\y.length<=sizeLine/\k (.str (toS y i.toNat))
 | _,_,_=>False
def wSlF (w:WE) (wl:WO):WE:=λρ Q=>w ρ λd ρ1=>wl ρ1 λlo ρ2=>dSlF d lo λd'=>Q d' ρ2
def Gu (w:WE) (wl:WO):WE:=λρ Q=>w ρ λd ρ1=>wl ρ1 λlo ρ2=>Qyv d lo λd'=>Q d' ρ2
theorem Uj {lo:Option Expr} (he:EV X T m1 o1 e w) (hl:OV X T m2 lo wl):EV X T (m1 || m2) true (.Subscript e (.Slice lo none none p2) pos) (wSlF w wl):=by
 obtain ⟨te,pe,ge⟩:=he
 obtain ⟨tl,pl,gl⟩:=hl
 refine ⟨_,Qde Qqs pe pl Qf2,λz R σ H W ρ Q Q' s hw k=>?_⟩
 refine ge z R σ H W ρ _ _ s hw λv H1 W1 d ρ1 F p q=>?_
 refine gl z R σ H1 W1 ρ1 _ _ p.sr q λlo H2 W2 ρ2 p2 q2=>?_
 match d,lo,p.rep,q2 with
 | .str y,some i,r,q2 =>
  obtain ⟨h0,h2,q2⟩:=q2
  cases r
  refine ⟨y,i.toNat,rfl,by rw [Int.toNat_of_nonneg h0],rfl,h2,k _ H2 W2 _ ρ2 [] (Post.fin p2.sr (p.fr.trans p2.fr) (λh=>?_) (Same.refl H2) (.str _) (by simp) (λb m=>nomatch m)) q2⟩
  rw [Bool.or_eq_false_iff] at h
  obtain ⟨a1,a2,a3⟩:=p.calm h.1
  obtain ⟨b1,b2,b3⟩:=p2.calm h.2
  exact ⟨a1.trans b1,b2.trans a2,b3.trans a3⟩
theorem Xh {hi:Option Expr} (he:EV X T m1 o1 e w) (hl:OV X T m2 hi wl):EV X T (m1 || m2) true (.Subscript e (.Slice none hi none p2) pos) (Gu w wl):=by
 obtain ⟨te,pe,ge⟩:=he
 obtain ⟨tl,pl,gl⟩:=hl
 refine ⟨_,Qde Qmy pe Qf2 pl,λz R σ H W ρ Q Q' s hw k=>?_⟩
 refine ge z R σ H W ρ _ _ s hw λv H1 W1 d ρ1 F p q=>?_
 refine gl z R σ H1 W1 ρ1 _ _ p.sr q λlo H2 W2 ρ2 p2 q2=>?_
 match d,lo,p.rep,q2 with
 | .str y,some i,r,q2 =>
  obtain ⟨h0,h2,q2⟩:=q2
  cases r
  refine ⟨y,i.toNat,rfl,rfl,by rw [Int.toNat_of_nonneg h0],h2,k _ H2 W2 _ ρ2 [] (Post.fin p2.sr (p.fr.trans p2.fr) (λh=>?_) (Same.refl H2) (.str _) (by simp) (λb m=>nomatch m)) q2⟩
  rw [Bool.or_eq_false_iff] at h
  obtain ⟨a1,a2,a3⟩:=p.calm h.1
  obtain ⟨b1,b2,b3⟩:=p2.calm h.2
  exact ⟨a1.trans b1,b2.trans a2,b3.trans a3⟩
section
variable {i:Int} {k:D->Prop}
theorem Qg8:Qs8 x [.str y] k=k (.int (atS x y)):=rfl
theorem Uk:dSlF (.str x) (some i) k=(0<=i/\x.length<=sizeLine/\k (.str (J0 x i.toNat))):=rfl
theorem Gf:Qyv (.str x) (some i) k=(0<=i/\x.length<=sizeLine/\k (.str (toS x i.toNat))):=rfl
end
section
variable {o2:Bool}
theorem Qyp {g:G2} (hg:IxD X g) (hb:EV X T m2 o2 b wb) (hs:Qgx b:=by intro _ _;rfl) (hN:X.N[i]? = some x:=by rfl) (hv:Vis X.env.scope x:=by first | exact Or.inl rfl | exact Or.inr (Or.inl rfl) | exact Or.inr (Or.inr rfl))
  (hd:(x == ("__debug__" : Str))=false:=by decide) (hcd:(x == ("__classdict__" : Str))=false:=by decide):EV X T m2 false (.Subscript (.Name x p) b pos) (Qms i g wb):=by
 obtain ⟨r,ro,gr⟩:=hg
 obtain ⟨tb,pb,gb⟩:=hb
 refine ⟨_,Qw1 ro (Xx hN hv hd hcd) pb hs,λz R σ H W ρ Q Q' s hw k=>?_⟩
 obtain ⟨d1,hl,hw⟩:=Qt hw
 obtain ⟨fp,s0⟩:=id s
 obtain ⟨v,h1,h2⟩:=s0.at_ i d1 hl
 refine ⟨v,h1,gb z R σ H W ρ _ _ s hw λv2 H2 W2 d2 ρ2 F2 q q2=>?_⟩
 obtain ⟨hl2,q2⟩:=q2
 obtain ⟨fp2,s2⟩:=id q.sr
 obtain ⟨v',h3,h4⟩:=s2.at_ i d1 hl2
 have:v'=v:=by rw [h1] at h3;cases h3;rfl
 subst this
 exact gr H2 d1 d2 v' v2 (fp2 i) F2 _ Q' h4 q.rep q2 λu d F rd sub hk=>k u H2 W2 d ρ2 F ⟨q.sr,q.fr,q.calm,rd,λh=>nomatch h⟩ hk
end
end PV
variable {w:PySem.Str}
namespace Wd
open PySem PySem.Spec L2 PV S03 PySem.NumText
open PySem.Builtin.Str (glued)
def dg (c:Nat):Bool:=decide (48<=c) && decide (c<=57)
def val (w:Str):Int:=(PySem.intText? w).getD 0
theorem Qln (h:w.cps.toList=[]):w=Str.ofString "":=Str.ext' (Array.toList_inj.mp (h.trans (by decide)))
theorem Qla:∀(l:List Nat) (a:Nat),a<=l.foldl (λv c=>v*10+(c-48)) a
 | [],a=>Nat.le_refl a
 | c::l,a=>Nat.le_trans (by omega) (Qla l (a*10+(c-48)))
end Wd
namespace Wd
open PySem PySem.Spec L2 PV S03 PySem.NumText
theorem Qhp (l:List Nat) (c:Nat):digitsVal (l++[c])=digitsVal l*10+(c-48):=by
 unfold digitsVal;rw [List.foldl_append];rfl
theorem Qtm {r:List Nat} (h:48<c):0<digitsVal (c::r):=by
 have h3:c-48<=digitsVal (c::r):=by
  show c-48<=(c::r).foldl (λv c=>v*10+(c-48)) 0
  rw [List.foldl_cons]
  exact Nat.le_trans (by omega) (Qla r _)
 omega
theorem Qfb (h:d<10):(Nat.digitChar d).toNat=48+d:=by
 have key:∀k:Fin 10,(Nat.digitChar k.1).toNat=48+k.1:=by decide
 exact key ⟨d,h⟩
theorem Qhq:∀(n:Nat) (l:List Nat),l.length=n->l≠[]->(∀c∈l,48<=c/\c<=57)->(l[0]? ≠ some 48\/l.length=1)->(Nat.toDigits 10 (digitsVal l)).map Char.toNat=l:=by
 intro n
 induction n with
 | zero=>intro l h h1;exact absurd (List.length_eq_zero_iff.mp h) h1
 | succ n ih =>
  intro l hl hne hd hz
  obtain ⟨a,c,rfl⟩:∃a c,l=a++[c]:=⟨l.dropLast,l.getLast hne,(List.dropLast_concat_getLast hne).symm⟩
  have hc:=hd c (by simp)
  by_cases ha:a=[]
  ·subst ha
   have e:digitsVal ([]++[c])=c-48:=by rw [Qhp];show 0*10+_=_;omega
   rw [e,Nat.toDigits_of_lt_base (by omega),List.map_cons,List.map_nil,Qfb (by omega),show 48+(c-48)=c by omega];rfl
  ·have hla:a.length=n:=by simpa using hl
   have hz':a[0]? ≠ some 48:=by
    rcases hz with h | h
    ·rwa [List.getElem?_append_left (by rcases a with _ | _ <;> simp at ha ⊢)] at h
    ·rw [List.length_append] at h
     have:a.length=0:=by simp at h;exact List.length_eq_zero_iff.mpr h
     exact absurd (List.length_eq_zero_iff.mp this) ha
   have hpos:0<digitsVal a:=by
    cases a with
    | nil=>exact absurd rfl ha
    | cons b r =>
     have hb:=hd b (by simp)
     refine Qtm ?_
     have:b≠48:=λz=>hz' (by rw [z];rfl)
     omega
   rw [Qhp,Nat.toDigits_of_base_le (by decide) (by omega),List.map_append,show (digitsVal a*10+(c-48)) / 10=digitsVal a by omega,show (digitsVal a*10+(c-48)) % 10=c-48 by omega,ih a hla ha (λx hx=>hd x (by simp [hx])) (.inl hz'),List.map_cons,List.map_nil,Qfb (by omega),show 48+(c-48)=c by omega]
end Wd
variable {s p:Int}
namespace S25
open PySem PySem.Spec L2 PV S03 S24 PySem.NumText
open Wd (val Qhq dg)
open PySem.Builtin.Str (glued occurrences strSub subAt)
structure Nm (w:Str):Prop where
 ne:w.cps.toList≠[]
 len:w.length<=60
 dig:∀c∈w.cps.toList,48<=c/\c<=57
 zero:w.cps.toList=[48]\/w.cps.toList[0]? ≠ some 48
theorem Nm.int (h:Nm w):PySem.intText? w=some ((digitsVal w.cps.toList:Nat):Int):=intText_digits (λc hc=>by have:=h.dig c hc;exact ⟨this.1,this.2⟩) h.ne (by have:=h.len;omega)
theorem Nm.val (h:Nm w):Wd.val w=((digitsVal w.cps.toList:Nat):Int):=by unfold Wd.val;rw [h.int];rfl
theorem Nm.reads (h:Nm w):PySem.intText? w=some (Wd.val w):=by rw [h.val];exact h.int
theorem Nm.nn (h:Nm w):0<=Wd.val w:=by rw [h.val];exact Int.natCast_nonneg _
theorem Nm.back (h:Nm w):nw (Wd.val w)=w/\Wd.val w<big:=by
 have hb:=Qhq _ w.cps.toList rfl h.ne h.dig (h.zero.symm.imp id λz=>by rw [z];rfl)
 refine ⟨?_,?_⟩
 ·rw [h.val]
  exact Jc (by rw [Uq,hb])
 ·rw [h.val]
  have hl:(Nat.toDigits 10 (digitsVal w.cps.toList)).length<=60:=by
   have:=congrArg List.length hb
   rw [List.length_map] at this
   rw [this,Array.length_toList];exact h.len
  have:=(Nat.length_toDigits_le_iff (b:=10) (k:=60) (by decide) (by decide)).mp hl
  show _<(1000000000000000000000000000000000000000000000000000000000000:Int)
  have e:(10:Nat) ^ 60=1000000000000000000000000000000000000000000000000000000000000:=by decide
  rw [e] at this
  omega
theorem Qxj (h0:0<=n) (h1:n<big):Nm (nw n):=by
 obtain ⟨c,r,e,c1,c2,c3⟩:=Vz h0
 refine ⟨by rw [e];simp,Vi h0 h1,λc hc=>Qhf h0 hc,?_⟩
 by_cases hn:n=0
 ·subst hn;exact .inl (by rw [Qkg];decide)
 ·refine .inr ?_
  rw [e]
  intro z
  exact c3 (by omega) (by simpa using z)
theorem Qo1 (h0:0<=n) (h1:n<big):Wd.val (nw n)=n:=by unfold Wd.val;rw [Xc h0 h1];rfl
def digs (w:Str):Bool:=w.cps.toList.all dg
def fig (w:Str):Bool:=decide (0<w.length) && (decide (w.length<61) && (!decide (w.cps.toList[0]? = some 48) && digs w))
theorem Qpw (h:fig w=true):Nm w/\1<=Wd.val w:=by
 unfold fig digs at h
 simp only [Bool.and_eq_true,decide_eq_true_eq,Bool.not_eq_true',decide_eq_false_iff_not,List.all_eq_true,dg] at h
 obtain ⟨a,b,c,d⟩:=h
 have hn:Nm w:=⟨λz=>by rw [Jx,z] at a;simp at a,by omega,d,.inr c⟩
 refine ⟨hn,?_⟩
 have h0:=hn.nn
 rcases Int.lt_or_le (Wd.val w) 1 with z | z
 ·exfalso
  have:Wd.val w=0:=by omega
  have e:=hn.back.1
  rw [this,Qkg] at e
  exact c (by rw [← e];decide)
 ·exact z
theorem Qxk (h0:1<=n) (h1:n<big):fig (nw n)=true:=by
 have hn:=Qxj (n:=n) (by omega) h1
 obtain ⟨c,r,e,c1,c2,c3⟩:=Vz (n:=n) (by omega)
 unfold fig digs
 simp only [Bool.and_eq_true,decide_eq_true_eq,Bool.not_eq_true',decide_eq_false_iff_not,List.all_eq_true,dg]
 refine ⟨by rw [Jx,e];simp,by have:=hn.len;omega,?_,hn.dig⟩
 rw [e]
 intro z
 exact c3 (by omega) (by simpa using z)
def lf (w:Str) (least:Int):Option Int:=if fig w=true/\¬Wd.val w<least then some (Wd.val w) else none
theorem X0 {k:Int}:lf w k=some n↔w=nw n/\1<=n/\k<=n/\n<big:=by
 unfold lf
 constructor
 ·intro h
  split at h
  ·rename_i q
   obtain ⟨hn,h1⟩:=Qpw q.1
   have:=Option.some.inj h
   subst this
   exact ⟨hn.back.1.symm,h1,by omega,hn.back.2⟩
  ·cases h
 ·rintro ⟨rfl,h1,h2,h3⟩
  rw [Qo1 (by omega) h3,if_pos ⟨Qxk h1 h3,by omega⟩]
def lp (r:Str):Option Int:=if r=Str.ofString "" then some 1 else if toS r 2=Str.ofString "^-" then (lf (J0 r 2) 1).map (0 - ·) else if r.cps.toList[0]? = some 94 then lf (J0 r 1) 2 else none
theorem Qgg:(Str.ofString "^-").cps.toList=[94,45]:=by decide
theorem Jt (y:Str) (a:Nat):(J0 y a).cps.toList=y.cps.toList.drop a:=rfl
theorem Y9 (y:Str) (a:Nat):(toS y a).cps.toList=y.cps.toList.take a:=rfl
theorem Qaf (h:p<0):(hind p).cps.toList=94::45::(nw (-p)).cps.toList:=by
 unfold hind
 rw [if_neg (by omega),Qev h,Qn,Qn,Qag,Zl];rfl
theorem Z5 (h:p≠1):(hind p).cps.toList=94::(nw p).cps.toList:=by
 unfold hind
 rw [if_neg h,Qn,Qag];rfl
theorem Qpn {r:Str}:lp r=some p↔r=hind p/\p≠0/\av p<big:=by
 unfold lp
 constructor
 ·intro h
  split at h
  ·rename_i e
   have:=Option.some.inj h
   subst this
   exact ⟨by rw [e];rfl,by decide,by decide⟩
  split at h
  ·rename_i e
   obtain ⟨m,hm,rfl⟩:=Option.map_eq_some_iff.mp h
   obtain ⟨e1,h1,_,h2⟩:=X0.mp hm
   have e2:r.cps.toList.take 2=[94,45]:=by rw [← Y9,e,Qgg]
   have e3:r.cps.toList.drop 2=(nw m).cps.toList:=by rw [← Jt,e1]
   refine ⟨Jc ?_,by omega,by unfold av;split <;> omega⟩
   rw [Qaf (by omega),show -(0-m)=m by omega,← List.take_append_drop 2 r.cps.toList,e2,e3];rfl
  split at h
  ·rename_i e
   obtain ⟨e1,h1,h2,h3⟩:=X0.mp h
   have e3:r.cps.toList.drop 1=(nw p).cps.toList:=by rw [← Jt,e1]
   refine ⟨Jc ?_,by omega,by unfold av;split <;> omega⟩
   rw [Z5 (by omega)]
   cases q:r.cps.toList with
   | nil=>rw [q] at e;cases e
   | cons c l =>
    rw [q] at e e3
    have:c=94:=by simpa using e
    rw [this,← e3];rfl
  ·cases h
 ·rintro ⟨rfl,h0,hb⟩
  by_cases h1:p=1
  ·subst h1;rfl
  ·have hne:hind p≠Str.ofString "":=λz=>by
    have:=congrArg (λs:Str=>s.cps.toList) z
    simp only [Z5 h1,Yd] at this
    cases this
   rw [if_neg hne]
   by_cases hn:p<0
   ·have e2:toS (hind p) 2=Str.ofString "^-":=Jc (by rw [Y9,Qaf hn,Qgg];rfl)
    have e3:J0 (hind p) 2=nw (-p):=Jc (by rw [Jt,Qaf hn];rfl)
    rw [if_pos e2,e3,X0.mpr ⟨rfl,by omega,by omega,by unfold av at hb;rw [if_pos hn] at hb;exact hb⟩]
    show some (0 - -p)=some p
    congr 1;omega
   ·obtain ⟨c,r,e,c1,c2,c3⟩:=Vz (n:=p) (by omega)
    have e2:toS (hind p) 2≠Str.ofString "^-":=λz=>by
     have:=congrArg (λs:Str=>s.cps.toList) z
     simp only [Y9,Z5 h1,Qgg,e] at this
     have:c=45:=by simpa using this
     omega
    have e3:J0 (hind p) 1=nw p:=Jc (by rw [Jt,Z5 h1];rfl)
    rw [if_neg e2,if_pos (by rw [Z5 h1];rfl),e3]
    exact X0.mpr ⟨rfl,by omega,by omega,by unfold av at hb;rw [if_neg hn] at hb;exact hb⟩
theorem X1':Str.ofString "x" = ⟨#[120]⟩:=by decide
theorem Qtz (h:120∉w.cps.toList):atS w (Str.ofString "x") = -1:=by
 unfold atS
 rw [X1']
 rcases StrLaws.occ_head w ⟨#[120]⟩ 1 (Nat.le_refl 1) with ⟨h0,_⟩ | ⟨i,r,h0,h1,_⟩
 ·rw [h0]
 ·exact absurd (List.mem_of_getElem? ((StrLaws.subAt_one w 120 i).mp h1)) h
theorem Qgv (h:120∉A.cps.toList):atS (A++Str.ofString "x" ++ B) (Str.ofString "x")=A.length:=by
 have hl:(A++Str.ofString "x" ++ B).cps.toList=A.cps.toList++120::B.cps.toList:=by rw [Qn,Qn,Uw];simp
 have hA:A.length=A.cps.toList.length:=Jx A
 have hat:(A++Str.ofString "x" ++ B).cps.toList[A.length]? = some 120:=by rw [hl,hA];simp
 unfold atS
 rw [X1'] at hl hat ⊢
 rcases StrLaws.occ_head (A++⟨#[120]⟩++B) ⟨#[120]⟩ 1 (Nat.le_refl 1) with ⟨h0,h1⟩ | ⟨i,r,h0,h1,h2⟩
 ·exact absurd ((StrLaws.subAt_one _ 120 A.length).mpr hat) (h1 _)
 ·have q:=(StrLaws.subAt_one _ 120 i).mp h1
  have hi:i=A.length:=by
   rcases Nat.lt_trichotomy i A.length with g | g | g
   ·rw [hl,List.getElem?_append_left (by omega)] at q
    exact absurd (List.mem_of_getElem? q) h
   ·exact g
   ·exact absurd ((StrLaws.subAt_one _ 120 A.length).mpr hat) (h2 _ g)
  rw [h0,hi]
theorem Qyy (w:Str):120∉w.cps.toList\/∃A B:Str,120∉A.cps.toList/\w=A++Str.ofString "x" ++ B:=by
 by_cases h:120∈w.cps.toList
 ·right
  obtain ⟨a,b,e,hn⟩:=List.eq_append_cons_of_mem h
  exact ⟨⟨a.toArray⟩,⟨b.toArray⟩,by simpa using hn,Jc (by rw [Qn,Qn,Uw,e];simp)⟩
 ·exact .inl h
def lt (w:Str):Option (Int × Int):=if atS w (Str.ofString "x")<0 then (lf w 1).map λn=>(0,n) else (lp (J0 w (atS w (Str.ofString "x")+1).toNat)).bind λp=>if 0<atS w (Str.ofString "x") then (lf (toS w (atS w (Str.ofString "x")).toNat) 2).map λn=>(p,n) else some (p,1)
structure Tn (t:Int × Int):Prop where
 n1:1<=t.2
 nb:t.2<big
 pb:av t.1<big
theorem Qbq (h:1<=n):av n=n:=by unfold av;rw [if_neg (by omega)]
theorem Qhw (h:A.length=k):J0 (A++B) k=B:=Jc (by rw [Jt,Qn,← h,Jx,List.drop_left])
theorem Qlo:A.length=0↔A=Str.ofString "":=by
 constructor
 ·intro h
  refine Jc ?_
  rw [Yd]
  exact List.length_eq_zero_iff.mp (by rw [← Jx];exact h)
 ·rintro rfl;decide
theorem Qpm:lt w=some t↔w=tm t/\Tn t:=by
 rcases Qyy w with hx | ⟨A,B,hA,rfl⟩
 ·unfold lt
  rw [Qtz hx,if_pos (by decide)]
  constructor
  ·intro h
   obtain ⟨n,hn,rfl⟩:=Option.map_eq_some_iff.mp h
   obtain ⟨e,h1,_,h2⟩:=X0.mp hn
   refine ⟨?_,h1,h2,show av 0<big by decide⟩
   unfold tm
   rw [if_pos rfl,Qbq h1];exact e
  ·rintro ⟨e,ht⟩
   by_cases h0:t.1=0
   ·unfold tm at e
    rw [if_pos h0,Qbq ht.n1] at e
    rw [X0.mpr ⟨e,ht.n1,ht.n1,ht.nb⟩]
    show some (0,t.2)=some t
    rw [← h0]
   ·exfalso
    apply hx
    rw [e]
    unfold tm
    rw [if_neg h0,Qn,Qn,Uw]
    simp
 ·have ha:=Qgv (B:=B) hA
  have hB:J0 (A++Str.ofString "x" ++ B) ((A.length:Int)+1).toNat=B:=Qhw (by rw [Str.length_append,show (Str.ofString "x").length=1 by decide];omega)
  have hA2:toS (A++Str.ofString "x" ++ B) (A.length:Int).toNat=A:=by
   rw [Int.toNat_natCast]
   exact Jc (by rw [Y9,Qn,Qn,List.append_assoc,Jx,List.take_left])
  unfold lt
  rw [ha,if_neg (by omega),hB,hA2]
  constructor
  ·intro h
   obtain ⟨p,hp,h⟩:=Option.bind_eq_some_iff.mp h
   obtain ⟨e1,h0,hb⟩:=Qpn.mp hp
   by_cases q:0<(A.length:Int)
   ·rw [if_pos q] at h
    obtain ⟨n,hn,rfl⟩:=Option.map_eq_some_iff.mp h
    obtain ⟨e2,h1,h2,h3⟩:=X0.mp hn
    refine ⟨?_,h1,h3,hb⟩
    unfold tm fore
    rw [if_neg h0,Qbq h1,if_neg (by show n≠1;omega),← e1,← e2]
   ·rw [if_neg q] at h
    have:=Option.some.inj h
    subst this
    refine ⟨?_,show (1:Int)<=1 by omega,show (1:Int)<big by decide,hb⟩
    have hA0:A=Str.ofString "":=Qlo.mp (by omega)
    unfold tm fore
    rw [if_neg h0,if_pos (show av 1=1 by decide),← e1,hA0]
  ·rintro ⟨e,ht⟩
   have h0:t.1≠0:=λz=>by
    have:(120:Nat)∈(tm t).cps.toList:=by rw [← e,Qn,Qn,Uw];simp
    unfold tm at this
    rw [if_pos z] at this
    exact Qcn (Xk _) (.inr (by decide)) this
   unfold tm at e
   rw [if_neg h0] at e
   have hf:=Qbh t (d:=120) (.inr (by decide))
   have el:=congrArg (λs=>atS s (Str.ofString "x")) e
   simp only [Qgv hA,Qgv hf] at el
   have el:A.length=(fore t).length:=by omega
   have eA:A=fore t:=by
    have h1:toS (A++Str.ofString "x" ++ B) A.length=A:=by rw [← Int.toNat_natCast (n:=A.length)];exact hA2
    have h2:toS (fore t++Str.ofString "x" ++ hind t.1) A.length=fore t:=by
     rw [el]
     exact Jc (by rw [Y9,Qn,Qn,List.append_assoc,Jx,List.take_left])
    rw [← h1,e,h2]
   have eB:B=hind t.1:=by
    have h2:J0 (fore t++Str.ofString "x" ++ hind t.1) ((A.length:Int)+1).toNat=hind t.1:=Qhw (by rw [Str.length_append,show (Str.ofString "x").length=1 by decide,el];omega)
    rw [← hB,e,h2]
   rw [eB,Qpn.mpr ⟨rfl,h0,ht.pb⟩]
   show (if 0<(A.length:Int) then _ else _)=_
   by_cases h1:t.2=1
   ·have:A.length=0:=by rw [eA];unfold fore;rw [Qbq ht.n1,if_pos h1];decide
    rw [if_neg (by omega),← h1]
   ·have ef:fore t=nw t.2:=by unfold fore;rw [Qbq ht.n1,if_neg h1]
    have:0<A.length:=by
     rw [eA,ef,Jx]
     obtain ⟨c,r,e,_⟩:=Vz (n:=t.2) (by have:=ht.n1;omega)
     rw [e];simp
    have n1:=ht.n1
    rw [if_pos (by omega),eA,ef,X0.mpr ⟨rfl,n1,by omega,ht.nb⟩]
    rfl
def Up (ts:List (Int × Int)):Prop:=ts.Pairwise λa b=>a.1<b.1
theorem Qi4 {f:List (Int × Int)}:Up (f++[t])↔Up f/\∀l,f.getLast? = some l->l.1<t.1:=by
 unfold Up
 rw [List.pairwise_append]
 constructor
 ·rintro ⟨a,_,c⟩
  exact ⟨a,λl hl=>c l (List.mem_of_getLast? hl) t (by simp)⟩
 ·rintro ⟨a,c⟩
  refine ⟨a,by simp,λx hx y hy=>?_⟩
  rw [List.mem_singleton.mp hy]
  have hne:f≠[]:=λz=>by rw [z] at hx;cases hx
  have hl:=List.getLast?_eq_some_getLast hne
  have:=c _ hl
  rw [← List.dropLast_concat_getLast hne] at a hx
  rcases List.mem_append.mp hx with h | h
  ·have:=(List.pairwise_append.mp a).2.2 x h (f.getLast hne) (by simp)
   omega
  ·rw [List.mem_singleton.mp h];exact this
def lw:Int->Bool->List (Int × Int)->List Str->Option (List (Int × Int))
 | _,od,f,[]=>if od=true then some f else none
 | s,false,f,w::r=>(lt w).bind λt=>if ∃l,f.getLast? = some l/\t.1<=l.1 then none else lw s true (f++[(t.1,s*t.2)]) r
 | _,true,f,w::r=>if w=Str.ofString "+" then lw 1 false f r else if w=Str.ofString "-" then lw (-1) false f r else none
def so (n:Int):Int:=if n<0 then -1 else 1
theorem Quy:so n*av n=n:=by unfold so av;split <;> omega
theorem Qu2:sg n=if so n=1 then Str.ofString "+" else Str.ofString "-":=by
 unfold sg so
 split <;> rfl
theorem Qzx (hs:s=1\/s = -1) (h:Tn t):tm (t.1,s*t.2)=tm t/\Tm (t.1,s*t.2)/\so (s*t.2)=s:=by
 have n1:=h.n1
 have nb:=h.nb
 have ha:av (s*t.2)=av t.2:=by
  rcases hs with rfl | rfl
  ·rw [Int.one_mul]
  ·unfold av;rw [if_pos (by omega),if_neg (by omega)];omega
 refine ⟨?_,⟨?_,?_,h.pb⟩,?_⟩
 ·unfold tm fore;rw [ha]
 ·rcases hs with rfl | rfl
  ·show 1*t.2≠0;omega
  ·show -1*t.2≠0;omega
 ·show av (s*t.2)<big
  rw [ha,Qbq n1];exact nb
 ·unfold so
  rcases hs with rfl | rfl
  ·rw [if_neg (by omega)]
  ·rw [if_pos (by omega)]
theorem Qzw (h:Tm t):lt (tm t)=some (t.1,av t.2):=by
 have n0:=h.n0
 have h1:1<=av t.2:=by unfold av;split <;> omega
 refine Qpm.mpr ⟨?_,h1,h.nb,h.pb⟩
 unfold tm fore
 rw [show av (t.1,av t.2).2=av t.2 from Qbq h1]
theorem Qaj (t:Int × Int) (r:List (Int × Int)):S24.ws (t::r)=sg t.2::tm t::S24.ws r:=rfl
theorem Qhh:∀(n:Nat) (ws:List Str) (s:Int) (f ts:List (Int × Int)),ws.length<=n->(s=1\/s = -1)->Up f ->
  (lw s false f ws=some ts↔∃t r,ts=f++t::r/\ws=tm t::S24.ws r/\so t.2=s/\(∀x∈t::r,Tm x)/\Up ts):=by
 intro n
 induction n with
 | zero =>
  intro ws s f ts hl hs hf
  have:ws=[]:=List.length_eq_zero_iff.mp (by omega)
  subst this
  constructor
  ·intro h;rw [lw,if_neg (by decide)] at h;cases h
  ·rintro ⟨t,r,_,h,_⟩;cases h
 | succ n ih =>
  intro ws s f ts hl hs hf
  constructor
  ·intro h
   cases ws with
   | nil=>rw [lw,if_neg (by decide)] at h;cases h
   | cons w r =>
    rw [lw] at h
    obtain ⟨t0,h0,h'⟩:=Option.bind_eq_some_iff.mp h
    clear h
    have h:=h'
    clear h'
    obtain ⟨rfl,tn⟩:=Qpm.mp h0
    obtain ⟨e1,e2,e3⟩:=Qzx hs tn
    by_cases q:∃l,f.getLast? = some l/\t0.1<=l.1
    ·rw [if_pos q] at h;cases h
    ·rw [if_neg q] at h
     have hu:Up (f++[(t0.1,s*t0.2)]):=Qi4.mpr ⟨hf,λl hl=>by
      rcases Int.lt_or_le l.1 t0.1 with z | z
      ·exact z
      ·exact absurd ⟨l,hl,z⟩ q⟩
     cases r with
     | nil =>
      rw [lw,if_pos rfl] at h
      have:=Option.some.inj h
      subst this
      exact ⟨_,[],rfl,by rw [e1];rfl,e3,λx hx=>by rw [List.mem_singleton.mp hx];exact e2,hu⟩
     | cons v r =>
      have go:∀s',(s'=1\/s' = -1)->v=(if s'=1 then Str.ofString "+" else Str.ofString "-")->lw s' false (f++[(t0.1,s*t0.2)]) r=some ts->∃t r',ts=f++t::r'/\tm t0::v::r=tm t::S24.ws r'/\so t.2=s/\(∀x∈t::r',Tm x)/\Up ts:=λs' hs' hv h=>by
       obtain ⟨t',r',a,b,c,d,e⟩:=(ih r s' _ ts (by simp at hl;omega) hs' hu).mp h
       refine ⟨(t0.1,s*t0.2),t'::r',by rw [a];simp,?_,e3,λx hx=>?_,e⟩
       ·rw [e1,Qaj,Qu2,c,← hv,b]
       ·rcases List.mem_cons.mp hx with rfl | hx
        ·exact e2
        ·exact d x hx
      rw [lw] at h
      by_cases hp:v=Str.ofString "+"
      ·rw [if_pos hp] at h
       exact go 1 (.inl rfl) (by rw [if_pos rfl];exact hp) h
      ·rw [if_neg hp] at h
       by_cases hm:v=Str.ofString "-"
       ·rw [if_pos hm] at h
        exact go (-1) (.inr rfl) (by rw [if_neg (by decide)];exact hm) h
       ·rw [if_neg hm] at h;cases h
  ·rintro ⟨t,r,rfl,rfl,hso,htm,hup⟩
   have h1:Up (f++[t]):=by
    have:f++t::r=(f++[t])++r:=by simp
    rw [this] at hup
    exact (List.pairwise_append.mp hup).1
   rw [lw,Qzw (htm t (by simp))]
   show (if ∃l,f.getLast? = some l/\t.1<=l.1 then none else lw s true (f++[(t.1,s*av t.2)]) (S24.ws r))=_
   rw [if_neg (λ⟨l,a,b⟩=>by have:=(Qi4.mp h1).2 l a;omega),← hso,Quy]
   cases r with
   | nil=>rfl
   | cons t' r' =>
    rw [Qaj,lw,Qu2]
    have go:=λs' hs' (e:so t'.2=s')=>(ih (tm t'::S24.ws r') s' (f++[t]) (f++t::t'::r') (by rw [Qaj] at hl;simp at hl ⊢;omega) hs' h1).mpr ⟨t',r',by simp,rfl,e,λx hx=>htm x (List.mem_cons_of_mem _ hx),hup⟩
    by_cases q:so t'.2=1
    ·rw [if_pos q,if_pos rfl]
     exact go 1 (.inl rfl) q
    ·have q':so t'.2 = -1:=by unfold so at q ⊢;split at q <;> simp_all
     rw [if_neg q,if_neg (by decide),if_pos rfl]
     exact go (-1) (.inr rfl) q'
def LD (text:Str):Option (List (Int × Int)):=if text=Str.ofString "0" then some [] else match Jv text (Str.ofString " ") with
 | []=>none
 | w::r=>if toS w 1=Str.ofString "-" then lw (-1) false [] (J0 w 1::r) else lw 1 false [] (w::r)
def Is (ts:List (Int × Int)):Prop:=(∀t∈ts,Tm t)/\Up ts
theorem Ul:glued (Str.ofString " ") (Jv x (Str.ofString " "))=x:=StrLaws.glued_between_self _ _ _
theorem Qcz (t:Int × Int) (r:List (Int × Int)):tx (t::r)=glued (Str.ofString " ") ((S24.fst t.2++tm t)::S24.ws r):=Qya _ _ _ _
theorem Qgj (h:n<0):S24.fst n=Str.ofString "-":=by unfold S24.fst;rw [if_pos h]
theorem Qgi (h:¬n<0):S24.fst n=Str.ofString "":=by unfold S24.fst;rw [if_neg h]
theorem Qgl (w:Str):Str.ofString "" ++ w=w:=Jc (by rw [Qn,Yd];rfl)
theorem Qqb {text:Str}:LD text=some ts↔Is ts/\text=tx ts:=by
 unfold LD
 constructor
 ·intro h
  split at h
  ·rename_i e
   have:=Option.some.inj h
   subst this
   exact ⟨⟨λt ht=>(by simp at ht),List.Pairwise.nil⟩,e⟩
  ·split at h
   ·cases h
   ·rename_i w r e
    have hb:=Ul (x:=text)
    rw [e] at hb
    split at h
    ·rename_i hm
     obtain ⟨t,r',rfl,e1,e2,e3,e4⟩:=(Qhh _ _ _ _ _ (Nat.le_refl _) (.inr rfl) List.Pairwise.nil).mp h
     obtain ⟨f1,f2⟩:=List.cons.inj e1
     refine ⟨⟨e3,e4⟩,?_⟩
     have hn:t.2<0:=by unfold so at e2;split at e2 <;> omega
     have ew:w=Str.ofString "-" ++ tm t:=Jc (by
      rw [Qn,← f1,← hm,Jt,Y9,List.take_append_drop])
     show text=tx (t::r')
     rw [Qcz,Qgj hn,← ew,← f2,hb]
    ·obtain ⟨t,r',rfl,e1,e2,e3,e4⟩:=(Qhh _ _ _ _ _ (Nat.le_refl _) (.inl rfl) List.Pairwise.nil).mp h
     refine ⟨⟨e3,e4⟩,?_⟩
     have hn:¬t.2<0:=by unfold so at e2;split at e2 <;> omega
     show text=tx (t::r')
     rw [Qcz,Qgi hn,Qgl,← e1,hb]
 ·rintro ⟨⟨h1,h2⟩,rfl⟩
  cases ts with
  | nil=>exact if_pos rfl
  | cons t r =>
   have ht:=h1 t (by simp)
   rw [if_neg (Qur ht)]
   have hp:Jv (tx (t::r)) (Str.ofString " ")=(S24.fst t.2++tm t)::S24.ws r:=by
    rw [Qcz,S03.Qmg]
    refine Xw (by simp) λw hw=>?_
    rcases List.mem_cons.mp hw with rfl | hw
    ·rw [Qn]
     intro z
     rcases List.mem_append.mp z with z | z
     ·unfold S24.fst at z;split at z <;> exact absurd z (by decide)
     ·exact Qft t z
    ·exact Qiz r w hw
   rw [hp]
   obtain ⟨c,l,e,_,c2⟩:=Qfs ht
   by_cases hn:t.2<0
   ·have e1:toS (S24.fst t.2++tm t) 1=Str.ofString "-":=Jc (by rw [Y9,Qgj hn,Qn,Zl];rfl)
    have e2:J0 (S24.fst t.2++tm t) 1=tm t:=Jc (by rw [Jt,Qgj hn,Qn,Zl];rfl)
    show (if toS (S24.fst t.2++tm t) 1=Str.ofString "-" then _ else _)=_
    rw [if_pos e1,e2]
    exact (Qhh _ _ _ _ _ (Nat.le_refl _) (.inr rfl) List.Pairwise.nil).mpr ⟨t,r,rfl,rfl,by unfold so;rw [if_pos hn],h1,h2⟩
   ·have e1:toS (S24.fst t.2++tm t) 1≠Str.ofString "-":=λz=>by
     have:=congrArg (λs:Str=>s.cps.toList) z
     simp only [Y9,Qgi hn,Qgl,e,Zl] at this
     exact c2 (by simpa using this)
    show (if toS (S24.fst t.2++tm t) 1=Str.ofString "-" then _ else _)=_
    rw [if_neg e1,Qgi hn,Qgl]
    exact (Qhh _ _ _ _ _ (Nat.le_refl _) (.inl rfl) List.Pairwise.nil).mpr ⟨t,r,rfl,rfl,by unfold so;rw [if_neg hn],h1,h2⟩
end S25
namespace S25
open PySem PySem.Spec L2 PV S03 S24 PySem.NumText
open PySem.Builtin.Str (glued occurrences strSub subAt)
def nm6 (w:Str):Bool:=!decide (w=Str.ofString "") && (decide (w.length<=60) && (w.cps.toList.all Wd.dg && (decide (w=Str.ofString "0") || !decide (w.cps.toList[0]? = some 48))))
theorem Qgb:nm6 w=true↔Nm w:=by
 unfold nm6
 simp only [Bool.and_eq_true,Bool.not_eq_true',decide_eq_false_iff_not,decide_eq_true_eq,List.all_eq_true,Wd.dg,Bool.or_eq_true]
 constructor
 ·rintro ⟨a,b,c,d⟩
  exact ⟨λh=>a (Wd.Qln h),b,c,d.imp (λz=>by rw [z];decide) id⟩
 ·rintro ⟨a,b,c,d⟩
  exact ⟨λh=>a (by rw [h];decide),b,c,d.imp (λz=>Jc (z.trans (by decide))) id⟩
def rn (w:Str):Option Int:=if nm6 w=true then some (Wd.val w) else none
theorem Qm3 (h0:0<=n) (h1:n<big):rn (nw n)=some n:=by
 unfold rn
 rw [if_pos (Qgb.mpr (Qxj h0 h1)),Qo1 h0 h1]
theorem Qq1 (h:rn w=some n):0<=n/\n<big:=by
 unfold rn at h
 split at h
 ·rename_i q
  have hn:=Qgb.mp q
  have:=Option.some.inj h
  subst this
  exact ⟨hn.nn,hn.back.2⟩
 ·cases h
def rp (w:Str):Option Int:=if w=Str.ofString "" then some 1 else if Vt w (Str.ofString "^-")=true then (rn (J0 w 2)).map (λn=>-n) else rn (J0 w 1)
theorem Qq0 (h0:p≠0) (hb:av p<big):rp (hind p)=some p:=by
 unfold rp
 by_cases h1:p=1
 ·subst h1;rfl
 ·have hne:hind p≠Str.ofString "":=λz=>by
   have:=congrArg (λs:Str=>s.cps.toList) z
   simp only [Z5 h1,Yd] at this
   cases this
  rw [if_neg hne]
  have hs:=Qh5 (x:=hind p) (.inr trivial) (Z5 h1)
  by_cases hn:p<0
  ·have e0:(nw p).cps.toList[0]? = some 45:=by rw [Qev hn,Qn,Zl];rfl
   have e3:J0 (hind p) 2=nw (-p):=Jc (by rw [Jt,Qaf hn];rfl)
   rw [if_pos (by rw [hs,e0];rfl),e3,Qm3 (by omega) (by unfold av at hb;rw [if_pos hn] at hb;exact hb)]
   show some (- -p)=some p
   rw [Int.neg_neg]
  ·obtain ⟨c,r,e,c1,c2,c3⟩:=Vz (n:=p) (by omega)
   have e0:(nw p).cps.toList[0]? ≠ some 45:=by
    rw [e]
    intro z
    have:c=45:=by simpa using z
    omega
   have e3:J0 (hind p) 1=nw p:=Jc (by rw [Jt,Z5 h1];rfl)
   rw [if_neg (by rw [hs,decide_eq_false e0];decide),e3]
   exact Qm3 (by omega) (by unfold av at hb;rw [if_neg hn] at hb;exact hb)
theorem Qz9 (h:rp w=some p):av p<big:=by
 unfold rp at h
 split at h
 ·have:=Option.some.inj h
  subst this
  decide
 split at h
 ·obtain ⟨n,hn,rfl⟩:=Option.map_eq_some_iff.mp h
  have:=Qq1 hn
  unfold av
  split <;> omega
 ·have:=Qq1 h
  unfold av
  split <;> omega
def rt (s w:Str):Option (Int × Int):=match Zi w (Str.ofString "x") with
 | [a,b,c]=>(if a=Str.ofString "" then some 1 else rn a).bind λn=>(if b=Str.ofString "" then some 0 else rp c).map λp=>(p,if s=Str.ofString "-" then -n else n)
 | _=>none
theorem Qo2:sg n=Str.ofString "-" ↔ n<0:=by
 unfold sg
 split
 ·rename_i h;exact ⟨λ_=>h,λ_=>rfl⟩
 ·rename_i h;exact ⟨λz=>absurd z (by decide),λz=>absurd z h⟩
theorem Qu5 (h:Tm t):rt (sg t.2) (tm t)=some t:=by
 have hs:(if sg t.2=Str.ofString "-" then -av t.2 else av t.2)=t.2:=by
  unfold av
  by_cases hn:t.2<0
  ·rw [if_pos (Qo2.mpr hn),if_pos hn];omega
  ·rw [if_neg (λz=>hn (Qo2.mp z)),if_neg hn]
 unfold rt
 by_cases h0:t.1=0
 ·have e:tm t=nw (av t.2):=if_pos h0
  rw [e,Qcm (Qcn (Xk _) (.inr (by decide)))]
  show Option.bind (if nw (av t.2)=Str.ofString "" then some 1 else rn (nw (av t.2))) _=_
  rw [if_neg (Qa8 (Xk _)),Qm3 (Xk _) h.nb]
  show (some ((0:Int),if sg t.2=Str.ofString "-" then -av t.2 else av t.2))=_
  rw [hs,← h0]
 ·have e:tm t=fore t++Str.ofString "x" ++ hind t.1:=if_neg h0
  rw [e,Qcl (Qbh t (.inr (by decide)))]
  show (if fore t=Str.ofString "" then some 1 else rn (fore t)).bind (λn=>(if Str.ofString "x" = Str.ofString "" then some 0 else rp (hind t.1)).map λp=>(p,if sg t.2=Str.ofString "-" then -n else n))=_
  rw [if_neg (show ¬Str.ofString "x" = Str.ofString "" by decide),Qq0 h0 h.pb]
  by_cases h1:av t.2=1
  ·rw [if_pos (show fore t=Str.ofString "" from if_pos h1)]
   rw [h1] at hs
   show some (t.1,if sg t.2=Str.ofString "-" then -1 else 1)=_
   rw [hs]
  ·have ef:fore t=nw (av t.2):=if_neg h1
   rw [ef,if_neg (Qa8 (Xk _)),Qm3 (Xk _) h.nb]
   show some (t.1,if sg t.2=Str.ofString "-" then -av t.2 else av t.2)=_
   rw [hs]
theorem Qz8 {s:Str} (h:rt s w=some t):av t.2<big/\av t.1<big:=by
 unfold rt at h
 split at h
 ·obtain ⟨n,hn,h⟩:=Option.bind_eq_some_iff.mp h
  obtain ⟨p,hp,rfl⟩:=Option.map_eq_some_iff.mp h
  have n1:0<=n/\n<big:=by
   split at hn
   ·have:=Option.some.inj hn
    subst this
    exact ⟨by decide,by decide⟩
   ·exact Qq1 hn
  have p1:av p<big:=by
   split at hp
   ·have:=Option.some.inj hp
    subst this
    decide
   ·exact Qz9 hp
  refine ⟨?_,p1⟩
  show av (if s=Str.ofString "-" then -n else n)<big
  unfold av
  split <;> split <;> omega
 ·cases h
def wbs (x:Str):List Str:=if Vt x (Str.ofString "-")=true then Str.ofString "-" :: Jv (J0 x 1) (Str.ofString " ") else Str.ofString "+" :: Jv x (Str.ofString " ")
theorem Qt6 (h:Tm t):wbs (tx (t::r))=S24.ws (t::r):=by
 unfold wbs
 rw [Qi5 h]
 by_cases hn:t.2<0
 ·rw [if_pos (decide_eq_true hn),Qqm hn,Qe0,Qaj,show sg t.2=Str.ofString "-" from if_pos hn]
 ·rw [if_neg (by simpa using hn),Quq hn,Qe0,Qaj,show sg t.2=Str.ofString "+" from if_neg hn]
def prs (x:Str):List (Str × Str):=(Zk (wbs x) (some 0) none (some 2)).zip (Zk (wbs x) (some 1) none (some 2))
theorem Qwp (h:Tm t):prs (tx (t::r))=(t::r).map λt=>(sg t.2,tm t):=by
 unfold prs
 rw [Qt6 h]
 have e0:=Qz7 (λs=>s) (t::r)
 have e1:=Qz6 (λs=>s) (t::r)
 rw [List.map_id'] at e0 e1
 rw [e0,e1,List.zip_map']
end S25
variable {w:PySem.World} {k:Bool} {ps:List (Int × Int)}
namespace K25
open PySem PySem.Spec L2 PV S03 S24 S25
open PyProof.Rows (envOfC)
def top (i:Nat):Stmt:=PySem.Challenge.pw_tanglehouse_k25_whole_any_text_read_or_n.main.body.getD i (.Pass ⟨0,0,0,0⟩)
def tbF (x:Str):Option Bool:=if x=(Str.ofString "NoText") then some false else none
theorem Qqo (h:tbF x=some k):(x=(Str.ofString "NoText")/\k=false):=by
 unfold tbF at h
 split at h
 ·rename_i h1;exact ⟨h1,by cases h;rfl⟩
 ·cases h
def Va (x:Str):Option Bool:=if x=(Str.ofString "NoText") then some true else none
theorem Qfu (h:Va x=some k):(x=(Str.ofString "NoText")/\k=true):=by
 unfold Va at h
 split at h
 ·rename_i h1;exact ⟨h1,by cases h;rfl⟩
 ·cases h
def Ym (x:Str):Option Bool:=if x=(Str.ofString "NoText") then some true else none
theorem Qap (h:Ym x=some k):(x=(Str.ofString "NoText")/\k=true):=by
 unfold Ym at h
 split at h
 ·rename_i h1;exact ⟨h1,by cases h;rfl⟩
 ·cases h
def isR (x:Str):Bool:=decide (x=(Str.ofString "NoText"))
theorem Q1m (h:isR x=true):x=(Str.ofString "NoText"):=by
 simpa [isR] using h
def Qn6 (x:Str):Bool:=decide (x=(Str.ofString "NoText"))
abbrev Yj:Stmt:=Qy1 (top 4)
structure Bn (K:Frag) (mg:Str->Option Value):Prop where
 nb_abs:mg "abs" = none
 nb_all:mg "all" = none
 nb_bool:mg "bool" = none
 nb_int:mg "int" = none
 nb_isinstance:mg "isinstance" = none
 nb_len:mg "len" = none
 nb_range:mg "range" = none
 nb_str:mg "str" = none
 nb_tuple:mg "tuple" = none
 nb_zip:mg "zip" = none
 c_FIGURES:∃t:Tok,mg "FIGURES" = some (.str (Str.ofString "0123456789") t)
 c_MOST_FIGURES:∃t:Tok,mg "MOST_FIGURES" = some (.int 60 t)
 h_TangleError:∃C0,mg "TangleError" = some (.ref C0)/\∀x C,isR x=true->atN K x C->exmOne K (.ref C) (.ref C0)=some true
 i_NoWeb:∃C,mg "NoWeb" = some (.ref C)/\∀x k R,tbF x=some k->atN K x R->ExcQ K R/\kitOne K (.ref R) (.ref C)=some k
 i_Odd:∃C,mg "Odd" = some (.ref C)/\∀x k R,tbF x=some k->atN K x R->ExcQ K R/\kitOne K (.ref R) (.ref C)=some k
 i_NoText:∃C,mg "NoText" = some (.ref C)/\∀x k R,Va x=some k->atN K x R->ExcQ K R/\kitOne K (.ref R) (.ref C)=some k
 i_NotFlat:∃C,mg "NotFlat" = some (.ref C)/\∀x k R,tbF x=some k->atN K x R->ExcQ K R/\kitOne K (.ref R) (.ref C)=some k
 i_ValueError:mg "ValueError" = none/\∀x k R,Ym x=some k->atN K x R->ExcQ K R/\kitOne K (.ref R) (.type "ValueError")=some k
 a_at:∀x C,Qn6 x=true->atN K x C->ExcC K C/\ExcQ K C/\PySem.W.findIn K (.ref C) "at" = some none
theorem Jd {n:Nat} (h:n<=1000000):n<sizeLine:=Nat.lt_of_le_of_lt h (by decide)
structure okc (w:Str):Prop where
 len:w.length<=5000
 sg:∀c∈w.cps.toList,c<128
theorem Qpo {w:Str} (h:okc w):w.cps.all (· < 128)=true:=by
 rw [← Array.all_toList,List.all_eq_true]
 intro c hc
 exact decide_eq_true (h.sg c hc)
theorem lenZ {w:Str} (h:okc w):w.length<=sizeLine:=Nat.le_of_lt (Jd (by have:=h.len;omega))
def two (t:Int × Int):D:=.tup [.int t.1,.int t.2]
theorem V6:Qi (ps.map two)=true:=Vy λ_ _=>rfl
theorem Qtv:cutD (ps.map two) (some 1) none=(ps.drop 1).map two:=by
 cases ps with
 | nil=>rfl
 | cons p r =>
  have:=Qhs (ds:=(p::r).map two) (a:=1) (by simp)
  rw [show ((1:Nat):Int)=1 from rfl] at this
  rw [this];rfl
theorem Qqc {qs:List (Int × Int)}:Ua (ps.map two) (qs.map two)=(ps.zip qs).map λq=>.tup [two q.1,two q.2]:=by
 unfold Ua
 rw [List.zip_map,List.map_map]
 rfl
def Zq:GA:=λds k=>∃n:Int,ds=[.int n]/\k (.bl true)
abbrev Zm:Stmt:=top 8
theorem Qfz:FnScope ["thing"] ["thing"] (Qb Zm):=⟨rfl,rfl,rfl,by decide +kernel,rfl,by decide +kernel,by decide +kernel⟩
def Qch:Tg:={ own:=λi=>false,io:=[] }
def Qcb:WS:=(wRet (Qfq (Qs dIsi (Qd (wVar 0) (Qd (wC (.ty .int)) wNil))) (Qqh (Qs dIsi (Qd (wVar 0) (Qd (wC (.ty .bool)) wNil))))))
theorem Qir (B:Bn K mg):∀(cdv:Value) (A:Around) (outer:List PySem.Env) (s:Shared) (H:Hp) (E:XK),Room 0 (A.deeper (envOfC "is_whole" (Qb Zm) s.heap.objs.size f cdv))->SVs (cxOf CX0 P w K mg base ["thing"] "is_whole" (Qb Zm) f cdv A outer s H E).nox Qch (Qw Zm) Qcb:=λcdv A outer s H E hr =>
  (Qh (Qu (Qe5 (J1 Qfc B.nb_isinstance Yq (Qa (Qc 0) (Qa (Qli .int B.nb_int Qcw) Qg))) (Qhm (Qyo (J1 Qfc B.nb_isinstance Yq (Qa (Qc 0) (Qa (Qli .bool B.nb_bool Qtx) Qg))))))))
theorem Qf5 (F:Fun K "is_whole" "is_whole" Zm f fd) (B:Bn K mg):FnOk P w K mg base CX0 1 f fd ["thing"] (spR K Zq):=by
 refine Gp (T:=Qch) F Qfz rfl (by decide) (λds kk h=>?_) (Qir B) (λds kk h=>?_)
 ·obtain ⟨n,rfl,_⟩:=h
  rfl
 ·obtain ⟨n,rfl,k⟩:=h
  simp only [Qcb,wRet,env0,List.map_cons,List.map_nil,List.length_cons,List.length_nil,Nat.zero_add,List.cons_append,List.nil_append,Qg5,Qs,Qd,wC,wNil,Qo7,Qia,isiD,Q3,Jz,look,Qp,BEq.rfl,reduceIte]
  exact k
structure Pl (ts:List (Int × Int)):Prop where
 tm:∀t∈ts,Tm t
 up:ts.Pairwise λa b=>a.1<b.1
 few:ts.length<=2000
def dgF:D->D
 | .str x=>.bl (x.cps.toList.all Wd.dg)
 | d=>d
theorem Qpx:decide (c∈(Str.ofString "0123456789").cps.toList)=Wd.dg c:=by
 rw [show (Str.ofString "0123456789").cps.toList=[48,49,50,51,52,53,54,55,56,57] by decide]
 unfold Wd.dg
 by_cases h:48<=c/\c<=57
 ·rw [decide_eq_true h.1,decide_eq_true h.2]
  apply decide_eq_true
  simp only [List.mem_cons,List.not_mem_nil,or_false]
  omega
 ·rw [← Bool.decide_and,decide_eq_false h]
  apply decide_eq_false
  simp only [List.mem_cons,List.not_mem_nil,or_false]
  omega
theorem Qu1 {w:Str}:(sgn w).map dgF=(w.cps.toList.map Wd.dg).map D.bl:=by
 unfold sgn
 rw [List.map_map,List.map_map]
 refine List.map_congr_left λc _=>?_
 simp [dgF]
theorem Qka:decide ((⟨#[c]⟩:Str)=⟨#[d]⟩)=decide (c=d):=by
 by_cases h:c=d
 ·subst h;simp
 ·rw [decide_eq_false h]
  exact decide_eq_false λq=>h (by simpa using q)
def Ze:GA:=λds k=>∃w,ds=[.str w,.int 60]/\okc w/\k (.bl (nm6 w))
abbrev Yi:Stmt:=top 9
theorem Qc6:FnScope ["word","most"] ["word","most"] (Qb Yi):=⟨rfl,rfl,rfl,by decide +kernel,rfl,by decide +kernel,by decide +kernel⟩
def Xt:Tg:={ own:=λi=>false,io:=[] }
def Xp:WS:=(wSeq (wIf (wOr (wBl (wBin dEq (wVar 0) (wC (.str (Str.ofString ""))))) (wOr (wBl (wBin (dCmp λi j=>decide (j<i)) (Qs dLen (Qd (wVar 0) wNil)) (wVar 1))) (wNot (wTru (Qs dAll (Qd (Qmr (Qcd (wVar 0)) wAll (wBin (dIn false) (wVar 0) (wC (.str (Str.ofString "0123456789")))) []) wNil)))))) (wRet (wC (.bl false))) Qx)
 (wRet (wOrV (wBin dEq (wVar 0) (wC (.str (Str.ofString "0")))) (wBin dNe (wBin dIx (wVar 0) (wC (.int 0))) (wC (.str (Str.ofString "0")))))))
theorem Qfm (B:Bn K mg):∀(cdv:Value) (A:Around) (outer:List PySem.Env) (s:Shared) (H:Hp) (E:XK),Room 0 (A.deeper (envOfC "is_written" (Qb Yi) s.heap.objs.size f cdv))->SVs (cxOf CX0 P w K mg base ["word","most"] "is_written" (Qb Yi) f cdv A outer s H E).nox Xt (Qw Yi) Xp:=λcdv A outer s H E hr =>
  (Qf (Yc (Y3 (Qb6 (Q0 (Zr hr.units) (Qc 0) Qo) (Qb6 (Q0 Qkf (J1 Qbl B.nb_len Qbn (Qa (Qc 0) Qg)) (Qc 1)) (X4 (Uf (Zy (J1 (Ql4 rfl) B.nb_all Qme (Qa (Qhn (Ql1 [] (Qpu (Qc 0)) (λ_ _ _ _ _=>Qlz) (λ_ _ _ _ _=>(X3 (Q1f (Jh hr)) (Qc 0) (Qth B.c_FIGURES.choose_spec)))) (Qai (Qb Yi) ["word","most"] (by decide +kernel))) Qg)))))))) (Qh (Qu Qb4)) Qv)
  (Qh (Qu (Q1v (X3 (Zr hr.units) (Qc 0) Qo) (Qhm (X3 (Qf7 hr.units) (Jy (Ju (Jh hr)) (Qc 0) Qe) Qo))))))
theorem Qdh (F:Fun K "is_written" "is_written" Yi f fd) (B:Bn K mg):FnOk P w K mg base CX0 1 f fd ["word","most"] (spR K Ze):=by
 refine Gp (T:=Xt) F Qc6 rfl (by decide) (λds kk h=>?_) (Qfm B) (λds kk h=>?_)
 ·obtain ⟨n,rfl,_⟩:=h
  rfl
 ·obtain ⟨w,rfl,h,k⟩:=h
  have hz:=lenZ h
  unfold nm6 at k
  simp only [Xp,wSeq,wIf,wOr,env0,List.map_cons,List.map_nil,List.length_cons,List.length_nil,Nat.zero_add,Nat.reduceAdd,List.cons_append,List.nil_append,wRet,wC,Qx,Qve,wBin,Jz,reduceIte,wNot,X8,Qs,Qd,wNil,Qjr,Qcd,r_bl,look,Qp,Qda,Qpo h,true_and,Qaz,hz,Gy,Q3,U9]
  by_cases e1:w=Str.ofString ""
  ·rw [decide_eq_true e1] at k
   simp only [decide_eq_true e1,reduceIte]
   exact k
  rw [decide_eq_false e1] at k
  simp only [decide_eq_false e1,Bool.false_eq_true,reduceIte]
  by_cases e2:w.length<=60
  ·have e2':decide ((60:Int)<(w.length:Int))=false:=decide_eq_false (by omega)
   rw [decide_eq_true e2] at k
   simp only [e2',Bool.false_eq_true,reduceIte]
   refine Qe9 dgF (by unfold sgn;rw [List.length_map,Array.length_toList];exact Jd (by have:w.cps.size<=60:=e2;omega)) (λd hd Q' hQ=>?_) ?_
   ·obtain ⟨c,hc,rfl⟩:=List.mem_map.mp hd
    simp only [wBin,blkE,List.map_nil,wC,Jz,look,Qp,Qre]
    rw [StrLaws.found_one,Qpx,Bool.false_xor]
    have:dgF (.str ⟨#[c]⟩)=.bl (Wd.dg c):=by simp [dgF]
    rw [this] at hQ
    exact hQ
   ·rw [Qu1]
    simp only [look,Qp,Qej,Uv,Qm6,U9,Q3,Qek,Zh]
    rw [List.all_map] 
    have eA:w.cps.toList.all (id ∘ Wd.dg)=w.cps.toList.all Wd.dg:=rfl
    rw [eA]
    cases hA:w.cps.toList.all Wd.dg with
    | false =>
     rw [hA] at k
     simp only [Bool.not_false,reduceIte]
     exact k
    | true =>
     rw [hA] at k
     simp only [Bool.not_true,Bool.false_eq_true,hz,true_and,reduceIte]
     by_cases e3:w=Str.ofString "0"
     ·rw [decide_eq_true e3] at k
      simp only [decide_eq_true e3,reduceIte]
      exact k
     ·rw [decide_eq_false e3] at k
      simp only [decide_eq_false e3,Bool.false_eq_true,reduceIte]
      cases hc:w.cps.toList with
      | nil=>exact absurd (Wd.Qln hc) e1
      | cons c r =>
       rw [hc] at k
       simp only [List.getElem?_cons_zero,Qp]
       rw [Z1,Qka]
       have:decide ((c::r)[0]? = some 48)=decide (c=48):=by simp
       rw [this] at k
       exact k
  ·have e2':decide ((60:Int)<(w.length:Int))=true:=decide_eq_true (by omega)
   rw [decide_eq_false e2] at k
   simp only [e2',reduceIte]
   exact k
def ntz (t:Int × Int):Bool:=!decide (t.2=0)
def V3:GA:=λds k=>∃t:Int × Int,ds=[two t]/\k (.bl (ntz t))
abbrev Vc:Stmt:=top 11
theorem Qh6:FnScope ["thing"] ["thing"] (Qb Vc):=⟨rfl,rfl,rfl,by decide +kernel,rfl,by decide +kernel,by decide +kernel⟩
def Qd8:Tg:={ own:=λi=>false,io:=[] }
def Qdz:WS:=(wSeq (wIf (wOr (wNot (wTru (Qs dIsi (Qd (wVar 0) (Qd (wC (.ty .tuple)) wNil))))) (wBl (wBin dNe (Qs dLen (Qd (wVar 0) wNil)) (wC (.int 2))))) (wRet (wC (.bl false))) Qx)
 (wRet (Qfq (Qs Zq (Qd (wBin dIx (wVar 0) (wC (.int 0))) wNil)) (Qfq (Qs Zq (Qd (wBin dIx (wVar 0) (wC (.int 1))) wNil)) (wBin dNe (wBin dIx (wVar 0) (wC (.int 1))) (wC (.int 0)))))))
theorem Qmh (B:Bn K mg) (C_is_whole:Cal P w K mg base "is_whole" 1 ["thing"] (spR K Zq)):∀(cdv:Value) (A:Around) (outer:List PySem.Env) (s:Shared) (H:Hp) (E:XK),Room 1 (A.deeper (envOfC "is_term" (Qb Vc) s.heap.objs.size f cdv))->SVs (cxOf CX0 P w K mg base ["thing"] "is_term" (Qb Vc) f cdv A outer s H E).nox Qd8 (Qw Vc) Qdz:=λcdv A outer s H E hr =>
  (Qf (Yc (Y3 (Qb6 (Uf (Zy (J1 Qfc B.nb_isinstance Yq (Qa (Qc 0) (Qa (Qli .tuple B.nb_tuple Gr) Qg))))) (X4 (Q0 (Qf7 hr.units) (J1 Qbl B.nb_len Qbn (Qa (Qc 0) Qg)) Qe)))) (Qh (Qu Qb4)) Qv)
  (Qh (Qu (Qe5 (Jg C_is_whole (hr.mono (by decide)) (Qa (Jy (Ju (Jh hr)) (Qc 0) Qe) Qg)) (Qe5 (Jg C_is_whole (hr.mono (by decide)) (Qa (Jy (Ju (Jh hr)) (Qc 0) Qe) Qg)) (Qhm (X3 (Qf7 hr.units) (Jy (Ju (Jh hr)) (Qc 0) Qe) Qe)))))))
theorem Qif (F:Fun K "is_term" "is_term" Vc f fd) (B:Bn K mg) (C1:Cal P w K mg base "is_whole" 1 ["thing"] (spR K Zq)):FnOk P w K mg base CX0 2 f fd ["thing"] (spR K V3):=by
 refine Gp (T:=Qd8) F Qh6 rfl (by decide) (λds kk h=>?_) (Qmh B C1) (λds kk h=>?_)
 ·obtain ⟨t,rfl,_⟩:=h
  rfl
 ·obtain ⟨t,rfl,k⟩:=h
  simp only [Qdz,wSeq,wIf,wOr,wNot,env0,two,List.map_cons,List.map_nil,List.length_cons,List.length_nil,Nat.zero_add,List.cons_append,List.nil_append,wRet,wC,Qx,Qg5,Qs,Qd,wBin,wNil,Jz,reduceIte,r_bl,X8,Qia,isiD,Zh,look,Qp,Qc8,Qb9,List.getElem?_cons_succ,List.getElem?_cons_zero,Qra,Uv,Qo8,Nat.reduceAdd,show (((0+1+1:Nat):Int)=2)=True by simp,decide_true,Bool.not_true,Q3,Bool.false_eq_true,BEq.rfl]
  refine ⟨t.1,rfl,?_⟩
  simp only [Q3,reduceIte]
  refine ⟨t.2,rfl,?_⟩
  simp only [Q3,reduceIte]
  exact k
def tF:D->D
 | .tup [_,.int n]=>.bl (!decide (n=0))
 | d=>d
def ris (ts:List (Int × Int)):Bool:=(ts.zip (ts.drop 1)).all λq=>decide (q.1.1<q.2.1)
theorem Qjl:∀{ts:List (Int × Int)},ris ts=true↔S25.Up ts
 | []=>⟨λ_=>List.Pairwise.nil,λ_=>rfl⟩
 | [t]=>⟨λ_=>by unfold S25.Up;simp,λ_=>rfl⟩
 | t::u::r=>by
  have ih:=Qjl (ts:=u::r)
  have e:ris (t::u::r)=(decide (t.1<u.1) && ris (u::r)):=rfl
  rw [e,Bool.and_eq_true,decide_eq_true_eq,ih]
  unfold S25.Up
  constructor
  ·rintro ⟨a,b⟩
   refine List.pairwise_cons.mpr ⟨λx hx=>?_,b⟩
   rcases List.mem_cons.mp hx with rfl | hx
   ·exact a
   ·have:=(List.pairwise_cons.mp b).1 x hx
    omega
  ·intro h
   exact ⟨(List.pairwise_cons.mp h).1 u (by simp),(List.pairwise_cons.mp h).2⟩
def isP (ts:List (Int × Int)):Bool:=ts.all ntz && ris ts
def Yk:GA:=λds k=>∃ts:List (Int × Int),ds=[.tup (ts.map two)]/\ts.length<=3000/\k (.bl (isP ts))
abbrev Jb:Stmt:=top 12
theorem X6:FnScope ["thing"] ["thing"] (Qb Jb):=⟨rfl,rfl,rfl,by decide +kernel,rfl,by decide +kernel,by decide +kernel⟩
def Vs:Tg:={ own:=λi=>false,io:=[] }
def Vp:WS:=(wSeq (wIf (wOr (wNot (wTru (Qs dIsi (Qd (wVar 0) (Qd (wC (.ty .tuple)) wNil))))) (wNot (wTru (Qs dAll (Qd (Qmr (Qi2 (wVar 0)) wAll (Qs V3 (Qd (wVar 0) wNil)) []) wNil))))) (wRet (wC (.bl false))) Qx)
 (wRet (Qs dAll (Qd (Qg1 (Qmq (Qd (wVar 0) (Qd (wSlT (wVar 0) (Y2 (wC (.int 1))) X5) wNil))) wAll (wBin (dCmp λi j=>decide (i<j)) (wBin dIx (wVar 0) (wC (.int 0))) (wBin dIx (wVar 1) (wC (.int 0)))) []) wNil))))
theorem Qbp (B:Bn K mg) (C_is_term:Cal P w K mg base "is_term" 2 ["thing"] (spR K V3)):∀(cdv:Value) (A:Around) (outer:List PySem.Env) (s:Shared) (H:Hp) (E:XK),Room 2 (A.deeper (envOfC "is_polynomial" (Qb Jb) s.heap.objs.size f cdv))->SVs (cxOf CX0 P w K mg base ["thing"] "is_polynomial" (Qb Jb) f cdv A outer s H E).nox Vs (Qw Jb) Vp:=λcdv A outer s H E hr =>
  (Qf (Yc (Y3 (Qb6 (Uf (Zy (J1 Qfc B.nb_isinstance Yq (Qa (Qc 0) (Qa (Qli .tuple B.nb_tuple Gr) Qg))))) (X4 (Uf (Zy (J1 (Ql4 rfl) B.nb_all Qme (Qa (Qhn (Ql1 [] (Qkw (Qc 0)) (λ_ _ _ _ _=>Qlz) (λ_ _ _ _ _=>(Jg C_is_term (hr.mono (by decide)) (Qa (Qc 0) Qg)))) (Qai (Qb Jb) ["thing"] (by decide +kernel))) Qg))))))) (Qh (Qu Qb4)) Qv)
  (Qh (Qu (J1 (Ql4 rfl) B.nb_all Qme (Qa (Qod (Qoj [] (Qs3 B.nb_zip (Qa (Qc 0) (Qa (Qlj (Qc 0) (Jp Qe) Qa2) Qg))) (λ_ _ _ _ _=>Qlz) (λ_ _ _ _ _=>(X3 Qf8 (Jy (Ju (Jh hr)) (Qc 0) Qe) (Jy (Ju (Jh hr)) (Qc 1) Qe)))) (Qfa (Qb Jb) ["thing"] (by decide +kernel))) Qg)))))
theorem X9 (F:Fun K "is_polynomial" "is_polynomial" Jb f fd) (B:Bn K mg) (C1:Cal P w K mg base "is_term" 2 ["thing"] (spR K V3)):FnOk P w K mg base CX0 3 f fd ["thing"] (spR K Yk):=by
 refine Gp (T:=Vs) F X6 rfl (by decide) (λds kk h=>?_) (Qbp B C1) (λds kk h=>?_)
 ·obtain ⟨ts,rfl,_⟩:=h
  rfl
 ·obtain ⟨ts,rfl,hl,k⟩:=h
  simp only [Vp,wSeq,wIf,wOr,wNot,env0,List.map_cons,List.map_nil,List.length_cons,List.length_nil,Nat.zero_add,List.cons_append,List.nil_append,wRet,wC,Qx,Qs,Qd,Qg1,Qmq,wSlT,X5,wNil,Vo,Zg,Jz,reduceIte,X8,Qjr,Qm5,Qia,isiD,Zh,look,Qp,Qjp,V6,true_and,BEq.rfl,Bool.not_true,Bool.false_eq_true]
  refine Qe9 tF (by rw [List.length_map];exact Jd (by omega)) (λd hd Q' hQ=>?_) ?_
  ·obtain ⟨t,ht,rfl⟩:=List.mem_map.mp hd
   simp only [Qs,Qd,blkE,List.map_nil,wNil,Jz,look,Qp]
   exact ⟨t,rfl,hQ⟩
  ·have e1:(ts.map two).map tF=(ts.map ntz).map D.bl:=by rw [List.map_map,List.map_map];rfl
   rw [e1]
   simp only [look,Qp,Qpd,V6,Qtv,true_and,Qjx,Qqc,Qek,Zh]
   have ea:(ts.map ntz).all id=ts.all ntz:=by rw [List.all_map];rfl
   rw [ea]
   unfold isP at k
   cases hn:ts.all ntz with
   | false =>
    rw [hn] at k
    simp only [Bool.not_false,reduceIte]
    exact k
   | true =>
    rw [hn,Bool.true_and] at k
    simp only [Bool.not_true,Bool.false_eq_true,reduceIte]
    generalize hz:ts.zip (ts.drop 1)=zs
    have hzl:zs.length<=3000:=by rw [← hz,List.length_zip];omega
    refine ⟨λi ys=>ys=(zs.take i).map λq=>D.bl (decide (q.1.1<q.2.1)),by simp,?_,?_⟩
    ·rintro i d ys hd rfl
     rw [List.getElem?_map] at hd
     cases hq:zs[i]? with
     | none=>rw [hq] at hd;cases hd
     | some q =>
      rw [hq] at hd
      cases hd
      refine ⟨by rw [List.length_map,List.length_take];exact Jd (by omega),?_⟩
      simp only [two,wAll,wBin,Qdv,List.map_nil,wC,Jz,look,Qp,reduceIte,Qjy,Qc8,Uv,List.getElem?_cons_zero,Gy]
      rw [List.take_add_one,hq,List.map_append];rfl
    ·rintro ys rfl
     rw [show (zs.map λq=>D.tup [two q.1,two q.2]).length=zs.length from List.length_map _,List.take_length]
     have e2:(zs.map λq=>D.bl (decide (q.1.1<q.2.1)))=(zs.map λq=>decide (q.1.1<q.2.1)).map D.bl:=by rw [List.map_map];rfl
     refine ⟨by rw [List.length_map];exact Nat.le_of_lt (Jd (by omega)),?_⟩
     rw [e2]
     simp only [Qek]
     have e3:(zs.map λq=>decide (q.1.1<q.2.1)).all id=ris ts:=by unfold ris;rw [List.all_map,hz];rfl
     rw [e3]
     exact k
theorem Qt0 {α:Type} {xs:List α} {r:Int} (h0:0<=r) (h1:r<xs.length):∃d,L2.atI xs r=some d/\d∈xs:=by
 obtain ⟨n,rfl⟩:=Int.eq_ofNat_of_zero_le h0
 rw [Zv]
 have:n<xs.length:=by omega
 exact ⟨xs[n],List.getElem?_eq_getElem this,List.getElem_mem this⟩
theorem Qae {α:Type} {xs:List α} {r:Int} {k:α->Prop} (h0:0<=r) (h1:r<xs.length) (hk:∀d∈xs,k d):oget (L2.atI xs r) k:=by
 obtain ⟨d,h,m⟩:=Qt0 h0 h1
 rw [h]
 exact hk d m
def Qm:GI:=λds k=>∃c n b,ds=[rowD c n,.int b]/\0<b/\b<115792089237316195423570985008687907853269984665640564039457584007913129639936/\0<=n/\n<=1000000/\∀c' r,0<=r->r<b->k (.int r) (rowD c' (n+1))
abbrev Y7:Stmt:=top 25
theorem Z3:FnScope ["_law_row","_law_base","_law_rest","_law_number_here"] ["_law_row","_law_base"] (Qb Y7):=⟨rfl,rfl,rfl,by decide +kernel,rfl,by decide +kernel,by decide +kernel⟩
def Qas:Tg:={ own:=λi=>i == 0 || i == 2 || i == 3,io:=[0] }
def Qan:WS:=(wSeq (Xr 0 (wBin J6 (wBin dIx (wVar 0) (wC (.int 1))) (wC (.int 1))) (wC (.int 1)))
 (wSeq (wIf (wBl (wBin (dCmp λi j=>decide (j<i)) (wBin dIx (wVar 0) (wC (.int 0))) (wBin dPow (wC (.int 10)) (wC (.int 18))))) (wSeq (wSet 2 (wBin dSub (wBin dIx (wVar 0) (wC (.int 0))) (wBin dPow (wC (.int 10)) (wC (.int 18)))))
 (wSeq (Xr 0 (wBin J6 (wBin dPow (wC (.int 10)) (wC (.int 18))) (wBin Qgn (wVar 2) (wVar 1))) (wC (.int 0)))
 (wRet (wBin dMod (wVar 2) (wVar 1))))) Qx)
 (wSeq (wSet 3 (wBin dMod (wBin J6 (wBin J6 (wBin dMul (wBin dIx (wVar 0) (wC (.int 0))) (wC (.int 48271))) (wBin dMul (wBin dMul (wC (.int 7919)) (wBin dIx (wVar 0) (wC (.int 1)))) (wBin dIx (wVar 0) (wC (.int 1))))) (wC (.int 11))) (wC (.int 2147483629))))
 (wSeq (wSet 3 (wBin dMod (wBin J6 (wBin J6 (wBin dMul (wVar 3) (wVar 3)) (wBin dMul (wC (.int 69621)) (wBin dIx (wVar 0) (wC (.int 1))))) (wC (.int 7))) (wC (.int 2147483587))))
 (wRet (wBin dMod (wBin Qgn (wVar 3) (wC (.int 5))) (wVar 1)))))))
theorem Qgt (B:Bn K mg):∀(cdv:Value) (A:Around) (outer:List PySem.Env) (s:Shared) (H:Hp) (E:XK),Room 0 (A.deeper (envOfC "_law_take" (Qb Y7) s.heap.objs.size f cdv))->SVs (cxOf CX0 P w K mg base ["_law_row","_law_base","_law_rest","_law_number_here"] "_law_take" (Qb Y7) f cdv A outer s H E).nox Qas (Qw Y7) Qan:=λcdv A outer s H E hr =>
  (Qf (Qc0 (i:=0) (Jh hr) (Qz Q4 (Jy (Ju (Jh hr)) (Qc 0) Qe) Qe) Qe)
  (Qf (Yc (Q0 Qkf (Jy (Ju (Jh hr)) (Qc 0) Qe) (Qz Xy Qe Qe)) (Qf (Q1 (i:=2) (Qz Qeu (Jy (Ju (Jh hr)) (Qc 0) Qe) (Qz Xy Qe Qe)) Z3.nd)
  (Qf (Qc0 (i:=0) (Jh hr) (Qz Q4 (Qz Xy Qe Qe) (Qz Qa7 (Qc 2) (Qc 1))) Qe)
  (Qh (Qu (Qz Xz (Qc 2) (Qc 1)))))) Qv)
  (Qf (Q1 (i:=3) (Qz Xz (Qz Q4 (Qz Q4 (Qz Qa6 (Jy (Ju (Jh hr)) (Qc 0) Qe) Qe) (Qz Qa6 (Qz Qa6 Qe (Jy (Ju (Jh hr)) (Qc 0) Qe)) (Jy (Ju (Jh hr)) (Qc 0) Qe))) Qe) Qe) Z3.nd)
  (Qf (Q1 (i:=3) (Qz Xz (Qz Q4 (Qz Q4 (Qz Qa6 (Qc 3) (Qc 3)) (Qz Qa6 Qe (Jy (Ju (Jh hr)) (Qc 0) Qe))) Qe) Qe) Z3.nd)
  (Qh (Qu (Qz Xz (Qz Qa7 (Qc 3) Qe) (Qc 1))))))))
theorem Qet (F:Fun K "_law_take" "_law_take" Y7 f fd) (B:Bn K mg):FnOk P w K mg base CX0 1 f fd ["_law_row","_law_base"] (spI K 0 Qm):=by
 refine Qn9 (T:=Qas) F Z3 rfl rfl (λds kk h=>?_) (Qgt B) (λds kk h=>?_)
 ·obtain ⟨c,n,b,rfl,_⟩:=h
  exact ⟨rfl,_,rfl,rfl⟩
 ·obtain ⟨c,n,b,rfl,hb,hb2,hn,hn2,k⟩:=h
  have hn1:-18446744073709551616<n+1:=by omega
  have hn2':n+1<18446744073709551616:=by omega
  simp only [Qan,wSeq,Xr,wBin,env0,rowD,List.map_cons,List.map_nil,List.length_cons,List.length_nil,Nat.zero_add,Nat.reduceAdd,List.replicate,List.cons_append,List.nil_append,wC,wIf,wSet,wRet,Jz,Int.reduceLE,Int.reduceNeg,Int.reduceLT,Qee,Int.reduceToNat,Int.reducePow,Qx,r_bl,look,Option.isSome_some,List.set_cons_zero,List.set_cons_succ,Qp,true_and,Qjo,Nat.lt_add_one,Qx6,List.length_set,Nat.zero_lt_succ,Qs2,Z6,Gx,Uv,Qb9,List.getElem?_cons_zero,Qi,Bool.and_true,Qjn,hb,Qax,hb2,Gz,Vw,D.pure,Bool.true_and,List.getElem?_cons_succ,Qjq,Gy,Q3,Qef,hn1,hn2']
  split
  ·exact k _ _ (Int.emod_nonneg _ (by omega)) (Int.emod_lt_of_pos _ hb)
  ·have hx:-18446744073709551616<(c*48271+7919*(n+1)*(n+1)+11) % 2147483629/\(c*48271+7919*(n+1)*(n+1)+11) % 2147483629<18446744073709551616:=by omega
   generalize (c*48271+7919*(n+1)*(n+1)+11) % 2147483629=x at hx
   simp only [Int.reduceNeg,hx.1,hx.2,Qef,Vw,Int.reduceLT,Qax,Gz,hb]
   exact k _ _ (Int.emod_nonneg _ (by omega)) (Int.emod_lt_of_pos _ hb)
def Yv:GI:=λds k=>∃c n m M,ds=[rowD c n,.int m]/\0<=m/\m<=M/\4<=M/\0<=n/\n<=999000/\∀c' n' x,n<=n'->n'<=n+20 -> -M<=x->x<=M->k (.int x) (rowD c' n')
abbrev Yo:Stmt:=top 26
theorem Ys:FnScope ["_law_row","_law_most","_law_number_here","_law_part"] ["_law_row","_law_most"] (Qb Yo):=⟨rfl,rfl,rfl,by decide +kernel,rfl,by decide +kernel,by decide +kernel⟩
def U6:Tg:={ own:=λi=>i == 0 || i == 2 || i == 3,io:=[0] }
def Uz:WS:=(wSeq (wIf (wBl (wBin (dCmp λi j=>decide (j<i)) (Jr 0 Qm (Yx 0 (Qd (wC (.int 3)) wNil))) (wC (.int 0)))) (wRet (wBin dSub (Jr 0 Qm (Yx 0 (Qd (wC (.int 9)) wNil))) (wC (.int 4)))) Qx)
 (wSeq (wSet 2 (wC (.int 0)))
 (wSeq (wFor (Qfo (Qd (wC (.int 7)) wNil)) (gN 3) (wSet 2 (wBin J6 (wBin dMul (wVar 2) (wBin dPow (wC (.int 10)) (wC (.int 9)))) (Jr 0 Qm (Yx 0 (Qd (wBin dPow (wC (.int 10)) (wC (.int 9))) wNil))))))
 (wSeq (wSet 2 (wBin Qgn (wBin dMod (wVar 2) (wBin J6 (wVar 1) (wC (.int 1)))) (wBin dIx (wLst (Qd (wC (.int 1)) (Qd (wBin dPow (wC (.int 10)) (wC (.int 9))) (Qd (wBin dPow (wC (.int 10)) (wC (.int 30))) wNil)))) (Jr 0 Qm (Yx 0 (Qd (wC (.int 3)) wNil))))))
 (wRet (wBin dIx (wLst (Qd (Yl (wVar 2)) (Qd (wBin dSub (wC (.int 0)) (wVar 2)) wNil))) (Jr 0 Qm (Yx 0 (Qd (wC (.int 2)) wNil)))))))))
theorem Qdy (B:Bn K mg) (C__law_take:Cal P w K mg base "_law_take" 1 ["_law_row","_law_base"] (spI K 0 Qm)):∀(cdv:Value) (A:Around) (outer:List PySem.Env) (s:Shared) (H:Hp) (E:XK),Room 1 (A.deeper (envOfC "_law_number" (Qb Yo) s.heap.objs.size f cdv))->SVs (cxOf CX0 P w K mg base ["_law_row","_law_most","_law_number_here","_law_part"] "_law_number" (Qb Yo) f cdv A outer s H E).nox U6 (Qw Yo) Uz:=λcdv A outer s H E hr =>
  (Qf (Yc (Q0 Qkf (Q6 C__law_take (hr.mono (by decide)) (J2 (i:=0) (Qa Qe Qg))) Qe) (Qh (Qu (Qz Qeu (Q6 C__law_take (hr.mono (by decide)) (J2 (i:=0) (Qa Qe Qg))) Qe))) Qv)
  (Qf (Q1 (i:=2) Qe Ys.nd)
  (Qf (Xv PassesOwn.never (Gn B.nb_range (Qa Qe Qg)) (V1 (i:=3) Ys.nd) (Qh (Q1 (i:=2) (Qz Q4 (Qz Qa6 (Qc 2) (Qz Xy Qe Qe)) (Q6 C__law_take (hr.mono (by decide)) (J2 (i:=0) (Qa (Qz Xy Qe Qe) Qg)))) Ys.nd)))
  (Qf (Q1 (i:=2) (Qz Qa7 (Qz Xz (Qc 2) (Qz Q4 (Qc 1) Qe)) (Jy (Ju (Jh hr)) (Yw (Qa Qe (Qa (Qz Xy Qe Qe) (Qa (Qz Xy Qe Qe) Qg)))) (Q6 C__law_take (hr.mono (by decide)) (J2 (i:=0) (Qa Qe Qg))))) Ys.nd)
  (Qh (Qu (Jy (Ju (Jh hr)) (Yw (Qa (Yr (Qc 2)) (Qa (Qz Qeu Qe (Qc 2)) Qg))) (Q6 C__law_take (hr.mono (by decide)) (J2 (i:=0) (Qa Qe Qg))))))))))
theorem Qb1 (F:Fun K "_law_number" "_law_number" Yo f fd) (B:Bn K mg) (C1:Cal P w K mg base "_law_take" 1 ["_law_row","_law_base"] (spI K 0 Qm)):FnOk P w K mg base CX0 2 f fd ["_law_row","_law_most"] (spI K 0 Yv):=by
 refine Qn9 (T:=U6) F Ys rfl rfl (λds kk h=>?_) (Qdy B C1) (λds kk h=>?_)
 ·obtain ⟨c,n,m,M,rfl,_⟩:=h
  exact ⟨rfl,_,rfl,rfl⟩
 ·obtain ⟨c,n,m,M,rfl,hm,hM,hM4,hn,hn2,k⟩:=h
  simp only [Uz,wSeq,wIf,env0,rowD,List.map_cons,List.map_nil,List.length_cons,List.length_nil,Nat.zero_add,Nat.reduceAdd,List.replicate,List.cons_append,List.nil_append,wRet,wBin,Jr,Yx,Qd,wC,wNil,Qi,D.pure,Bool.and_self,true_and,Qx,wSet,Qc9,Qed,Qaw,Int.reducePow,Int.reduceNeg,Int.reduceLE,Int.reduceLT,Int.reduceToNat,r_bl,look,Option.isSome_some,List.set_cons_zero,Qp,List.set_cons_succ,Z6]
  refine ⟨c,n,3,rfl,by decide,by decide,hn,by omega,λc1 r1 a1 b1=>?_⟩
  simp only [rowD,Z6,Qi,D.pure,Bool.and_self,true_and,Gy,Q3]
  split
  ·refine ⟨c1,n+1,9,rfl,by decide,by decide,by omega,by omega,λc2 r2 a2 b2=>?_⟩
   simp only [rowD,Z6,Qi,D.pure,Bool.and_self,true_and,Qjn]
   exact k _ _ _ (by omega) (by omega) (by omega) (by omega)
  ·refine ⟨Vx,λt ρ=>∃(c' x:Int) (o3:Option D),t<=7/\ρ=[some (.lst [.int c',.int (n+1+(t:Int))]),some (.int m),some (.int x),o3],⟨c1,0,none,by omega,by simp⟩,?_,?_⟩
   ·rintro t d ρ hd ⟨c',x,o3,ht,rfl⟩
    obtain ⟨htl,rfl⟩:=Qad hd
    have ht7:t<7:=by simpa using htl
    simp only [gN,wSet,wBin,List.set_cons_succ,List.set_cons_zero,wC,Jr,Yx,Qd,wNil,Qi,Bool.and_true,List.nil_append,Int.reduceLE,Int.reduceNeg,Int.reduceLT,Qee,D.pure,Int.reduceToNat,Int.reducePow,true_and,Jz,look,Option.isSome_some,Qp,Z6,Bool.and_self,Qjq]
    refine ⟨c',n+1+(t:Int),_,rfl,by decide,by decide,by omega,by omega,λc2 r2 a2 b2=>?_⟩
    simp only [rowD,Vw]
    exact ⟨c2,_,_,by omega,by rw [show n+1+(t:Int)+1=n+1+((t+1:Nat):Int) by omega]⟩
   ·rintro ρ ⟨c',x,o3,ht,rfl⟩
    rw [Y8]
    have hm1:0<m+1:=by omega
    simp only [wSeq,wSet,wBin,wC,wLst,Qd,wNil,List.length_cons,List.length_nil,Nat.zero_add,Nat.reduceAdd,sz3,Jr,Yx,Qi,D.pure,Bool.and_self,List.nil_append,wRet,Yl,sz2,true_and,Jz,Int.reduceLE,Int.reduceNeg,Int.reduceLT,Qee,Int.reduceToNat,Int.reducePow,look,Option.isSome_some,List.set_cons_zero,List.set_cons_succ,Qp,Z6,Vw,hm1,Qax]
    refine ⟨c',n+1+7,3,by rfl,by decide,by decide,by omega,by omega,λc2 r2 a2 b2=>?_⟩
    obtain ⟨q,hat,hq0,hq1⟩:∃q,L2.atI [D.int 1,D.int 1000000000,D.int 1000000000000000000000000000000] r2=some (.int q)/\0<q/\q<115792089237316195423570985008687907853269984665640564039457584007913129639936:=by
     rcases Q04 (a:=D.int 1) (b:=.int 1000000000) (c:=.int 1000000000000000000000000000000) a2 b2 with e | e | e
     ·exact ⟨_,e,by decide,by decide⟩
     ·exact ⟨_,e,by decide,by decide⟩
     ·exact ⟨_,e,by decide,by decide⟩
    simp only [rowD,Z6,Qi,D.pure,Bool.and_self,true_and,Gx,hat,Qp,hq0,hq1,Gz,Qjn]
    refine ⟨c2,_,2,rfl,by decide,by decide,by omega,by omega,λc3 r3 a3 b3=>?_⟩
    simp only [rowD,Z6,Qi,D.pure,Bool.and_self,true_and,Gx]
    have y0:0<=x % (m+1):=Int.emod_nonneg _ (by omega)
    have y1:x % (m+1)<m+1:=Int.emod_lt_of_pos _ hm1
    have z0:0<=x % (m+1) / q:=Int.ediv_nonneg y0 (by omega)
    have z1:x % (m+1) / q<=x % (m+1):=Int.ediv_le_self _ y0
    rcases Q05 (a:=D.int (x % (m+1) / q)) (b:=D.int (0-x % (m+1) / q)) a3 b3 with ⟨_,e⟩ | ⟨_,e⟩ <;> (rw [e];simp only [wSeq,wSet,Xr,wIf,Qc9,Qvu,wRet,Qzm,Qbv,Qx,wAsg,wBin,wUn,Jz,wC,Yl,Qs,Jr,Yx,Qzg,Qd,wNil,wTup,wLst,wMt,wSl,Vo,X5,r_bl,Q3,X8,Zh,Qvc,Qvb,Qva,wNot,wAnd,wOr,wIfE,Qg5,Qve,Qo7,Qed,Qaw,Qvd,Qq7,Qvv,Qrh,Qu8,Qq3,Qm5,Qjp,Qo6,Qvk,Qo9,Zg,Qjr,gN,Qvs,Qrf,Qvt,Q0s,Qvy,Qvx,Qvz,Qjn,Qef,Qjq,Qvg,Qvw,Qax,Qee,Qh9,Qei,Qra,Q0q,Q0i,U9,Qm6,Qrg,Qvf,Q0p,Q0h,Gy,Gx,Qc8,Qvl,Qvo,Qvn,Qvm,Qeg,Qo8,Qvi,Qvj,Q0m,Qeh,Qv0,Q0k,Q0l,Qrc,Qrb,Qrd,Qg4,Qu9,Qq8,Qia,isiD,Q0d,Q0e,Q0c,Qjo,Qq6,Qq5,Qq4,Qvr,Qvq,Qvp,Qre,Qm7,Qq9,Q0g,Qri,Qjm,Q0b,Q0a,Z6,Q0o,Q0n,Qp,look,List.set_cons_zero,List.set_cons_succ,D.pure,Qi,wAll,Uv,Qb9,Qy8,Q2a,Qs2,Qx6,Q1l,Q1k,Qqy,List.getElem?_cons_zero,List.getElem?_cons_succ,List.length_cons,List.length_nil,List.length_set,Nat.zero_add,Nat.reduceAdd,Nat.reduceLT,Nat.lt_add_one,Nat.zero_lt_succ,Bool.and_true,Bool.true_and,Bool.and_self,true_and,and_true,Option.isSome_some,BEq.rfl,Zb,Option.map_some,Option.map_none,reduceIte,Bool.false_eq_true,Bool.not_true,Bool.not_false,Int.reduceToNat,Int.reduceLT,Int.reduceLE,Int.reduceNeg,Int.reducePow,Int.reduceAdd,Int.reduceSub,Int.reduceMul,List.eraseIdx_cons_zero,Int.toNat_natCast,List.nil_append,List.cons_append,wSlT,Vw,Z7,Qrz,Qa0,Qpe,Qpf,Qpd,Qrt,Qrw,Qry,Qrx,Qwd,Qwf,Qna,Qwg,Qwe,Qrv,Qru,Qm9,Qwb,Qrs,Qwc,Qzs,Qqi,Qzh,wDka,Que,Option.bind_some,kD,Quk,Qwa,Q00,Qv9,Qrr,Qm8,Quj,Qzn,Qul,Qum,Qug,Qub,Gz,Qek,Qjx,Qjy,Qmq,Qg1,Qzp,Qms,S03.Qpc,S03.Qrq,S03.Qjw,S03.Qaz,Qjt,Qro,Qrn,Qg7,Qv5,Qjs,Qg6,Qv3,wRev,Qrp,Qv4,sz0,sz1,sz2,sz3,sz4,sz5,Qne,Qnd,Qg2,Qqk,Qib,wTka,wIsx,Qqe,Qud,EndsP.un,Ql6,Qjz,Qf1,Qr2,Qzl,Qpb,Qv2,Qv1,wFrz,Qzj,Qzi,Qqg,Qgz,Qzf,Qnb,Quf,Qkx,Qql,Qzq,Qdb,Qfp,Qf0,Vh,Qda,Qaz,Qej,Qjw,wMs,Qcd,wOf,wAOf,Ue,wIfX,wUnX,Qd1,Qze,Qao,Qd0,Qui,Qi3,Qzo,wMtX,Vq,Qua,Qg0,Qce,wTkl,Qqj,isLs,lcOf,Quh,Qwh,Qnc,Qr1,Qt9,Qjs,Qg6,Qg7,Qv5,Quc,Qcf,Qay,Qjv,Qv7,Qv6,Qju,Qv8,wSlS,wSt,Qi1,wFs,Qg8,Uk,Gf,wSlF,Gu];exact k _ _ _ (by omega) (by omega) (by omega) (by omega))
structure PI (M:Nat) (i:Nat) (x:Int) (ts:List (Int × Int)):Prop where
 tm:∀t∈ts,Tm t
 up:ts.Pairwise λa b=>a.1<b.1
 lt:∀t∈ts,t.1<x
 few:ts.length<=i
 im:i<=M
 lo:-10000000000000000000000000000000000000000000000000000000000<=x
 hi:x<=10000000000000000000000000000000000000000000000000000000000+(i:Int)*1000000000000000000000000000000000000000000000000000000000
theorem PI.start {M:Nat} {x:Int} (h1:-10000000000000000000000000000000000000000000000000000000000<=x) (h2:x<=10000000000000000000000000000000000000000000000000000000000):PI M 0 x []:=⟨by simp,List.Pairwise.nil,by simp,by simp,by omega,h1,by omega⟩
theorem PI.skip {M:Nat} {x q:Int} (h:PI M i x ts) (hi:i<M) (h0:0<=q) (h1:q<1000000000000000000000000000000000000000000000000000000000):PI M (i+1) (x+1+q) ts:=by
 obtain ⟨a,b,c,d,e,f,g⟩:=h
 exact ⟨a,b,λt ht=>by have:=c t ht;omega,by omega,by omega,by omega,by push_cast;omega⟩
theorem PI.more {M:Nat} {x y q:Int} (h:PI M i x ts) (hi:i<M) (hM:M<=100) (hy:y≠0) (hy1:av y<big) (h0:0<=q) (h1:q<1000000000000000000000000000000000000000000000000000000000):PI M (i+1) (x+1+q) (ts++[(x,y)]):=by
 obtain ⟨a,b,c,d,e,f,g⟩:=h
 refine ⟨λt ht=>?_,?_,λt ht=>?_,by simp;omega,by omega,by omega,by push_cast;omega⟩
 ·rcases List.mem_append.mp ht with ht | ht
  ·exact a t ht
  ·rw [List.mem_singleton.mp ht]
   refine ⟨hy,hy1,?_⟩
   show av x<_
   unfold av big;split <;> omega
 ·rw [List.pairwise_append]
  exact ⟨b,List.pairwise_singleton _ _,λu hu v hv=>by rw [List.mem_singleton.mp hv];exact c u hu⟩
 ·rcases List.mem_append.mp ht with ht | ht
  ·have:=c t ht;omega
  ·rw [List.mem_singleton.mp ht];show x<_;omega
theorem PI.pl {M:Nat} {x:Int} (h:PI M i x ts) (hM:M<=100):Pl ts:=⟨h.tm,h.up,by have:=h.few;have:=h.im;omega⟩
def J9:GI:=λds k=>∃c n m t,ds=[rowD c n,.int m,.int t]/\4<=m/\m<big/\0<=t/\t<=8/\0<=n/\n<=900000/\∀(c' n':Int) (ts:List (Int × Int)),n<=n'->n'<=n+10000->Pl ts->ts.length<=8->k (.tup (ts.map two)) (rowD c' n')
abbrev Jm:Stmt:=top 27
theorem Je:FnScope ["_law_row","_law_most","_law_terms","_law_found","_law_power_here","_law_k","_law_number_here"] ["_law_row","_law_most","_law_terms"] (Qb Jm):=⟨rfl,rfl,rfl,by decide +kernel,rfl,by decide +kernel,by decide +kernel⟩
def Vb:Tg:={ own:=λi=>i == 0 || i == 3 || i == 4 || i == 5 || i == 6,io:=[0] }
def Z9:WS:=(wSeq (wSet 3 (wLst wNil))
 (wSeq (wSet 4 (Jr 0 Yv (Yx 0 (Qd (wBin Qgn (wVar 1) (wC (.int 1000))) wNil))))
 (wSeq (wFor (Qfo (Qd (Jr 0 Qm (Yx 0 (Qd (wBin J6 (wVar 2) (wC (.int 1))) wNil))) wNil)) (gN 5) (wSeq (wSet 6 (Jr 0 Yv (Yx 0 (Qd (wVar 1) wNil))))
 (wSeq (wIf (wBl (wBin dNe (wVar 6) (wC (.int 0)))) (Qbv (wMt 3 "list" Qbg (Qd (Yl (wTup (Qd (wVar 4) (Qd (wVar 6) wNil)))) wNil))) Qx)
 (wSet 4 (wBin J6 (wBin J6 (wVar 4) (wC (.int 1))) (wBin dIx (wLst (Qd (wC (.int 0)) (Qd (wC (.int 1)) (Qd (Jr 0 Qm (Yx 0 (Qd (wC (.int 4)) wNil))) (Qd (Jr 0 Qm (Yx 0 (Qd (wBin J6 (wC (.int 1)) (wBin Qgn (wVar 1) (wC (.int 1000)))) wNil))) wNil))))) (Jr 0 Qm (Yx 0 (Qd (wC (.int 4)) wNil)))))))))
 (wRet (Qs Qbj (Qd (wVar 3) wNil))))))
theorem Xj (B:Bn K mg) (C__law_take:Cal P w K mg base "_law_take" 1 ["_law_row","_law_base"] (spI K 0 Qm)) (C__law_number:Cal P w K mg base "_law_number" 2 ["_law_row","_law_most"] (spI K 0 Yv)):∀(cdv:Value) (A:Around) (outer:List PySem.Env) (s:Shared) (H:Hp) (E:XK),Room 2 (A.deeper (envOfC "_law_polynomial" (Qb Jm) s.heap.objs.size f cdv))->SVs (cxOf CX0 P w K mg base ["_law_row","_law_most","_law_terms","_law_found","_law_power_here","_law_k","_law_number_here"] "_law_polynomial" (Qb Jm) f cdv A outer s H E).nox Vb (Qw Jm) Z9:=λcdv A outer s H E hr =>
  (Qf (Q1 (i:=3) (Yw Qg) Je.nd)
  (Qf (Q1 (i:=4) (Q6 C__law_number (hr.mono (by decide)) (J2 (i:=0) (Qa (Qz Qa7 (Qc 1) Qe) Qg))) Je.nd)
  (Qf (Xv PassesOwn.never (Gn B.nb_range (Qa (Q6 C__law_take (hr.mono (by decide)) (J2 (i:=0) (Qa (Qz Q4 (Qc 2) Qe) Qg))) Qg)) (V1 (i:=5) Je.nd) (Qf (Q1 (i:=6) (Q6 C__law_number (hr.mono (by decide)) (J2 (i:=0) (Qa (Qc 1) Qg))) Je.nd)
  (Qf (Yc (Q0 (Qf7 hr.units) (Qc 6) Qe) (Qh (Qfw (Qtf (i:=3) Qex PySem.F.plainAttrs_list PySem.F.slot_list_append PySem.F.type_list_append (Qa (Yr (Ui (Qa (Qc 4) (Qa (Qc 6) Qg)))) Qg)))) Qv)
  (Qh (Q1 (i:=4) (Qz Q4 (Qz Q4 (Qc 4) Qe) (Jy (Ju (Jh hr)) (Yw (Qa Qe (Qa Qe (Qa (Q6 C__law_take (hr.mono (by decide)) (J2 (i:=0) (Qa Qe Qg))) (Qa (Q6 C__law_take (hr.mono (by decide)) (J2 (i:=0) (Qa (Qz Q4 Qe (Qz Qa7 (Qc 1) Qe)) Qg))) Qg))))) (Q6 C__law_take (hr.mono (by decide)) (J2 (i:=0) (Qa Qe Qg))))) Je.nd)))))
  (Qh (Qu (Zf Qds B.nb_tuple Gr (Qa (Qc 3) Qg)))))))
theorem Gh (F:Fun K "_law_polynomial" "_law_polynomial" Jm f fd) (B:Bn K mg) (C1:Cal P w K mg base "_law_take" 1 ["_law_row","_law_base"] (spI K 0 Qm)) (C2:Cal P w K mg base "_law_number" 2 ["_law_row","_law_most"] (spI K 0 Yv)) :
  FnOk P w K mg base CX0 3 f fd ["_law_row","_law_most","_law_terms"] (spI K 0 J9):=by
 refine Qn9 (T:=Vb) F Je rfl rfl (λds kk h=>?_) (Xj B C1 C2) (λds kk h=>?_)
 ·obtain ⟨c,n,m,t,rfl,_⟩:=h
  exact ⟨rfl,_,rfl,rfl⟩
 ·obtain ⟨c,n,m,t,rfl,hm,hm2,ht0,ht,hn,hn2,k⟩:=h
  have hm2':m<1000000000000000000000000000000000000000000000000000000000000:=hm2
  have hq:0<=m / 1000/\m / 1000<1000000000000000000000000000000000000000000000000000000000:=by omega
  simp only [Z9,wSeq,wSet,wLst,wNil,List.length_nil,sz0,Jr,Yx,env0,rowD,List.map_cons,List.map_nil,List.length_cons,Nat.zero_add,Nat.reduceAdd,List.replicate,List.cons_append,List.nil_append,List.set_cons_succ,List.set_cons_zero,look,Option.isSome_some,Qd,wBin,wC,Qi,Bool.and_true,Qc9,Qed,Jz,Qp,Vw,D.pure,true_and,Z6,Bool.and_self,Int.reduceLT,Gz]
  refine ⟨c,n,m / 1000,m / 1000+4,rfl,hq.1,by omega,by omega,hn,by omega,λc1 n1 x1 a1 b1 e1 f1=>?_⟩
  simp only [rowD,Z6,Qi,D.pure,Bool.and_self,true_and]
  refine ⟨c1,n1,t+1,rfl,by omega,by omega,by omega,by omega,λc2 r2 a2 b2=>?_⟩
  simp only [rowD,Qaw,Int.reducePow,Int.reduceNeg]
  refine ⟨by omega,by omega,Vx,λi ρ=>∃(c' n' x:Int) (ts:List (Int × Int)) (o5 o6:Option D),PI r2.toNat i x ts/\n<=n'/\n'<=n+30+30*(i:Int)/\ρ=[some (.lst [.int c',.int n']),some (.int m),some (.int t),some (.lst (ts.map two)),some (.int x),o5,o6],⟨c2,n1+1,x1,[],none,none,PI.start (by omega) (by omega),by omega,by omega,rfl⟩,?_,?_⟩
  ·rintro i d ρ hd ⟨c',n',x,ts,o5,o6,hP,h1,h2,rfl⟩
   obtain ⟨hil,rfl⟩:=Qad hd
   have rest:∀(c4 n4:Int) (us:List (Int × Int)) (z:Int) (o5 o6:Option D),n<=n4->n4<=n'+20->(∀q,0<=q->q<1000000000000000000000000000000000000000000000000000000000->PI r2.toNat (i+1) (z+q) us) ->
     Qm [D.lst [D.int c4,D.int n4],D.int 4] λd d'=>Zw d'=true/\Qm [d',D.int (1+m / 1000)] λd_1 d'=>Zw d'=true/\Qm [d',D.int 4] λd_2 d' =>
      dIx (D.lst [D.int 0,D.int 1,d,d_1]) d_2 λd=>J6 (D.int z) d λd=>∃(c' n' x:Int) (ts:List (Int × Int)) (o5_1 o6_1:Option D),PI r2.toNat (i+1) x ts/\n<=n'/\n'<=n+30+30*((i+1:Nat):Int) /\
       [some d',some (D.int m),some (D.int t),some (D.lst (us.map two)),some d,o5,o6]=[some (.lst [.int c',.int n']),some (.int m),some (.int t),some (.lst (ts.map two)),some (.int x),o5_1,o6_1]:=by
    intro c4 n4 us z o5 o6 k1 k2 k3
    refine ⟨c4,n4,4,rfl,by decide,by decide,by omega,by have:=hP.im;omega,λc5 r5 a5 b5=>⟨rfl,c5,n4+1,1+m / 1000,rfl,by omega,by omega,by omega,by have:=hP.im;omega,λc6 r6 a6 b6=>⟨rfl,c6,n4+1+1,4,rfl,by decide,by decide,by omega,by have:=hP.im;omega,λc7 r7 a7 b7=>?_⟩⟩⟩
    obtain ⟨q,hat,q0,q1⟩:∃q,L2.atI [D.int 0,D.int 1,D.int r5,D.int r6] r7=some (.int q)/\0<=q/\q<1000000000000000000000000000000000000000000000000000000000:=by
     rcases Q03 (a:=D.int 0) (b:=D.int 1) (c:=D.int r5) (d:=D.int r6) a7 b7 with e | e | e | e
     ·exact ⟨_,e,by decide,by decide⟩
     ·exact ⟨_,e,by decide,by decide⟩
     ·exact ⟨_,e,a5,by omega⟩
     ·exact ⟨_,e,a6,by omega⟩
    simp only [rowD,Gx,hat,Qp,Vw]
    exact ⟨c7,n4+1+1+1,z+q,us,o5,o6,k3 q q0 q1,by omega,by omega,rfl⟩
   simp only [gN,wSeq,wSet,Jr,Yx,List.set_cons_succ,List.set_cons_zero,look,Option.isSome_some,Qd,wNil,Qi,Bool.and_true,List.nil_append,wIf,Qbv,wMt,Yl,wTup,List.length_cons,List.length_nil,Nat.zero_add,Nat.reduceAdd,sz2,D.pure,wBin,wC,wLst,Bool.and_self,sz4,true_and,Jz,Qx,r_bl,Qjm,BEq.rfl,Qp,Int.reduceLT,Gz,Vw,Qm7,Bool.true_and,Z6]
   refine ⟨c',n',m,m,rfl,by omega,by omega,by omega,by omega,by have:=hP.im;omega,λc3 n3 x3 a3 b3 e3 f3=>?_⟩
   simp only [D.pure,rowD,Z6,Qi,Bool.and_self,true_and,Qra,Q3]
   split
   ·rename_i hne
    have hx3:x3≠0:=by simpa using hne
    have hb3:av x3<big:=by unfold av big;split <;> omega
    have hf:=hP.few
    have him:=hP.im
    rw [List.length_map]
    refine ⟨Jd (by omega),?_⟩
    have e:ts.map two++[D.tup [D.int x,D.int x3]]=(ts++[(x,x3)]).map two:=by rw [List.map_append];rfl
    rw [e]
    exact rest c3 n3 (ts++[(x,x3)]) (x+1) _ _ (by omega) (by omega) λq q0 q1=>hP.more (by omega) (by omega) hx3 hb3 q0 q1
   ·exact rest c3 n3 ts (x+1) _ _ (by omega) (by omega) λq q0 q1=>hP.skip (by omega) q0 q1
  ·rintro ρ ⟨c',n',x,ts,o5,o6,hP,h1,h2,rfl⟩
   simp only [wRet,Qs,Qd,wNil,Jz,look,Qp,Z6,Qi,D.pure,Bool.and_self,true_and,Qg4,V6]
   rw [Y8] at h2
   exact k _ _ ts h1 (by omega) (hP.pl (by omega)) (by have:=hP.few;rw [Y8] at this;omega)
end K25
variable {b:Nat} {k:PV.D->Prop}
namespace K25
open PySem PySem.Spec L2 PV S03 S24 S25
open PySem.Builtin.Str (glued)
open PyProof.Rows (envOfC)
theorem Qy7:(if n<0 then -n else n)=av n:=rfl
theorem Qp9 (h:av n<big):n.natAbs<1000000000000000000000000000000000000000000000000000000000000:=by
 unfold av big at h
 split at h <;> omega
theorem Q19:av (av n)=av n:=by
 have:=Xk n
 show (if av n<0 then -av n else av n)=_
 rw [if_neg (by omega)]
def Y0:GA:=λds k=>∃p:Int,ds=[.int p]/\av p<big/\k (.str (pw p))
abbrev Yn:Stmt:=top 15
theorem Qbx:FnScope ["power"] ["power"] (Qb Yn):=⟨rfl,rfl,rfl,by decide +kernel,rfl,by decide +kernel,by decide +kernel⟩
def U5:Tg:={ own:=λi=>false,io:=[] }
def Ux:WS:=(wSeq (wIf (wBl (wBin dEq (wVar 0) (wC (.int 0)))) (wRet (wC (.str (Str.ofString "")))) Qx)
 (wSeq (wIf (wBl (wBin dEq (wVar 0) (wC (.int 1)))) (wRet (wC (.str (Str.ofString "x")))) Qx)
 (wRet (wFs (Str.ofString "x^") (wVar 0)))))
theorem Qdw (B:Bn K mg):∀(cdv:Value) (A:Around) (outer:List PySem.Env) (s:Shared) (H:Hp) (E:XK),Room 0 (A.deeper (envOfC "shown_power" (Qb Yn) s.heap.objs.size f cdv))->SVs (cxOf CX0 P w K mg base ["power"] "shown_power" (Qb Yn) f cdv A outer s H E).nox U5 (Qw Yn) Ux:=λcdv A outer s H E hr =>
  (Qf (Yc (Q0 (Zr hr.units) (Qc 0) Qe) (Qh (Qu Qo)) Qv)
  (Qf (Yc (Q0 (Zr hr.units) (Qc 0) Qe) (Qh (Qu Qo)) Qv)
  (Qh (Qu (Q1w (Qc 0))))))
theorem Qbz (F:Fun K "shown_power" "shown_power" Yn f fd) (B:Bn K mg):FnOk P w K mg base CX0 1 f fd ["power"] (spR K Y0):=by
 refine Gp (T:=U5) F Qbx rfl (by decide) (λds kk h=>?_) (Qdw B) (λds kk h=>?_)
 ·obtain ⟨p,rfl,_⟩:=h
  rfl
 ·obtain ⟨p,rfl,hp,k⟩:=h
  unfold pw at k
  simp only [Ux,wSeq,wIf,env0,List.map_cons,List.map_nil,List.length_cons,List.length_nil,Nat.zero_add,List.cons_append,List.nil_append,wRet,wC,Qx,wFs,Jz,r_bl,wBin,look,Qp,Qv8,Qei,Q3]
  by_cases h0:p=0
  ·rw [if_pos h0] at k
   simp only [h0,decide_true,reduceIte]
   exact k
  ·rw [if_neg h0] at k
   simp only [h0,decide_false,Bool.false_eq_true,reduceIte]
   by_cases h1:p=1
   ·rw [if_pos h1] at k
    simp only [h1,decide_true,reduceIte]
    exact k
   ·rw [if_neg h1] at k
    simp only [h1,decide_false,Bool.false_eq_true,reduceIte]
    have hl:=Qga hp
    refine ⟨by decide,Qsu (Qp9 hp),?_,k⟩
    rw [Str.length_append,show (Str.ofString "x^").length=2 by decide]
    exact Nat.le_of_lt (Jd (by omega))
def Zc:GA:=λds k=>∃t:Int × Int,ds=[two t]/\Tm t/\k (.str (tm t))
theorem Qwj (h:av p<big):(pw p).length<=63:=by
 have hl:=Qga h
 unfold pw
 split
 ·decide
 ·split
  ·decide
  ·rw [Str.length_append,show (Str.ofString "x^").length=2 by decide];omega
abbrev Yt:Stmt:=top 16
theorem Vg:FnScope ["term","figures","power"] ["term"] (Qb Yt):=⟨rfl,rfl,rfl,by decide +kernel,rfl,by decide +kernel,by decide +kernel⟩
def Xs:Tg:={ own:=λi=>i == 1 || i == 2,io:=[] }
def Xn:WS:=(wSeq (wSet 1 (Qs dStr (Qd (Qs dAbs (Qd (wBin dIx (wVar 0) (wC (.int 1))) wNil)) wNil)))
 (wSeq (wSet 2 (Qs Y0 (Qd (wBin dIx (wVar 0) (wC (.int 0))) wNil)))
 (wSeq (wIf (wAnd (wBl (wBin dEq (wVar 1) (wC (.str (Str.ofString "1"))))) (wBl (wBin dNe (wVar 2) (wC (.str (Str.ofString "")))))) (wRet (Yl (wVar 2))) Qx)
 (wRet (wBin J6 (wVar 1) (wVar 2))))))
theorem Qfk (B:Bn K mg) (C_shown_power:Cal P w K mg base "shown_power" 1 ["power"] (spR K Y0)):∀(cdv:Value) (A:Around) (outer:List PySem.Env) (s:Shared) (H:Hp) (E:XK),Room 1 (A.deeper (envOfC "shown_term" (Qb Yt) s.heap.objs.size f cdv))->SVs (cxOf CX0 P w K mg base ["term","figures","power"] "shown_term" (Qb Yt) f cdv A outer s H E).nox Xs (Qw Yt) Xn:=λcdv A outer s H E hr =>
  (Qf (Q1 (i:=1) (Zf Qy2 B.nb_str Qp8 (Qa (J1 Qy3 B.nb_abs Qy4 (Qa (Jy (Ju (Jh hr)) (Qc 0) Qe) Qg)) Qg)) Vg.nd)
  (Qf (Q1 (i:=2) (Jg C_shown_power (hr.mono (by decide)) (Qa (Jy (Ju (Jh hr)) (Qc 0) Qe) Qg)) Vg.nd)
  (Qf (Yc (Y3 (Qff (Q0 (Zr hr.units) (Qc 1) Qo) (Qbm (Q0 (Qf7 hr.units) (Qc 2) Qo)))) (Qh (Qu (Yr (Qc 2)))) Qv)
  (Qh (Qu (Qz Q4 (Qc 1) (Qc 2)))))))
theorem Qdf (F:Fun K "shown_term" "shown_term" Yt f fd) (B:Bn K mg) (C1:Cal P w K mg base "shown_power" 1 ["power"] (spR K Y0)):FnOk P w K mg base CX0 2 f fd ["term"] (spR K Zc):=by
 refine Gp (T:=Xs) F Vg rfl (by decide) (λds kk h=>?_) (Qfk B C1) (λds kk h=>?_)
 ·obtain ⟨p,rfl,_⟩:=h
  rfl
 ·obtain ⟨t,rfl,h,k⟩:=h
  rw [Qmv] at k
  have hx:=Qi9 h
  simp only [Xn,wSeq,wSet,Qs,Qd,wBin,env0,two,List.map_cons,List.map_nil,List.length_cons,List.length_nil,Nat.zero_add,Nat.reduceAdd,List.replicate,List.cons_append,List.nil_append,wC,wNil,wIf,wAnd,wRet,Yl,Jz,Qx,r_bl,Bool.false_eq_true,reduceIte,look,List.set_cons_succ,List.set_cons_zero,Qp,Qc8,Uv,List.getElem?_cons_zero,Qb9,List.getElem?_cons_succ,Qv0,Qy7,Qjw,U9,Q3]
  refine ⟨Qsu (Qp9 (by rw [Q19];exact h.nb)),t.1,rfl,h.pb,?_⟩
  have l1:=Vi (Xk t.2) h.nb
  have l2:=Qwj h.pb
  have hz:(nw (av t.2)).length+(pw t.1).length<=sizeLine:=Nat.le_of_lt (Jd (by omega))
  simp only [D.pure,true_and,Z7,Qm6,Q3]
  by_cases a:decide (nw (av t.2)=Str.ofString "1")=true
  ·simp only [a,reduceIte]
   by_cases b:decide (pw t.1=Str.ofString "")=true
   ·rw [a,b] at hx
    rw [if_neg (of_decide_eq_false hx.symm)] at k
    simp only [b,Bool.not_true,Bool.false_eq_true,reduceIte]
    exact ⟨hz,k⟩
   ·have b':decide (pw t.1=Str.ofString "")=false:=by simpa using b
    rw [a,b'] at hx
    rw [if_pos (of_decide_eq_true hx.symm)] at k
    simp only [b',Bool.not_false,reduceIte]
    exact k
  ·have a':decide (nw (av t.2)=Str.ofString "1")=false:=by simpa using a
   rw [a',Bool.false_and] at hx
   rw [if_neg (of_decide_eq_false hx.symm)] at k
   simp only [a',Bool.false_eq_true,reduceIte]
   exact ⟨hz,k⟩
def Qy:GA:=λds k=>∃ts:List (Int × Int),ds=[.tup (ts.map two)]/\Pl ts/\k (.str (tx ts))
theorem Qiy (h:ts[i]? = some t):S24.ws (ts.take i)++[sg t.2,tm t]=S24.ws (ts.take (i+1)):=by
 rw [List.take_add_one,h]
 unfold S24.ws
 rw [List.flatMap_append];simp
theorem Qt3:cutD ((S24.ws (t::r)).map D.str) (some 1) none=(tm t::S24.ws r).map D.str:=by
 have:=Qhs (ds:=(S24.ws (t::r)).map D.str) (a:=1) (by rw [List.length_map,Qca,List.length_cons];omega)
 rw [show ((1:Nat):Int)=1 from rfl] at this
 rw [this];rfl
theorem Qjc (h:Pl (t::r)):Builtin.Str.tooLong ((tm t::S24.ws r).toArray.foldl (λn w=>n+w.length+(Str.ofString " ").length) 0)=false/\(glued (Str.ofString " ") (tm t::S24.ws r)).length<=600000:=by
 have hf:=h.few
 rw [List.length_cons] at hf
 have hs:∀w∈tm t::S24.ws r,w.length<=130:=λw hw=>by
  rcases List.mem_cons.mp hw with rfl | hw
  ·exact Qja (h.tm t List.mem_cons_self)
  ·exact Qgy (λu hu=>h.tm u (List.mem_cons_of_mem _ hu)) w hw
 have hl:(tm t::S24.ws r).length=2*r.length+1:=by rw [List.length_cons,Qca]
 constructor
 ·refine StrLaws.joinFits (B:=130) hs ?_
  rw [show (Str.ofString " ").length=1 by decide,hl];omega
 ·have:=Qpv (c:=Str.ofString " ") (by decide) hs
  rw [hl] at this;omega
abbrev Jf:Stmt:=top 17
theorem J3:FnScope ["one","words","term","first"] ["one"] (Qb Jf):=⟨rfl,rfl,rfl,by decide +kernel,rfl,by decide +kernel,by decide +kernel⟩
def Z0:Tg:={ own:=λi=>i == 1 || i == 2 || i == 3,io:=[] }
def Zx:WS:=(wSeq (wIf (wBl (wBin dEq (wVar 0) (wTup wNil))) (wRet (wC (.str (Str.ofString "0")))) Qx)
 (wSeq (wSet 1 (wLst wNil))
 (wSeq (wFor (Qi2 (Yl (wVar 0))) (gN 2) (Qbv (wMt 1 "list" Qgh (Qd (wLst (Qd (wIfE (wBl (wBin (dCmp λi j=>decide (i<j)) (wBin dIx (wVar 2) (wC (.int 1))) (wC (.int 0)))) (wC (.str (Str.ofString "-"))) (wC (.str (Str.ofString "+")))) (Qd (Qs Zc (Qd (wVar 2) wNil)) wNil))) wNil))))
 (wSeq (wSet 3 (wIfE (wBl (wBin (dCmp λi j=>decide (i<j)) (wBin dIx (wBin dIx (wVar 0) (wC (.int 0))) (wC (.int 1))) (wC (.int 0)))) (wC (.str (Str.ofString "-"))) (wC (.str (Str.ofString "")))))
 (wRet (wBin J6 (wVar 3) (wMs Qye (wC (.str (Str.ofString " "))) (Qd (wSlT (wVar 1) (Y2 (wC (.int 1))) X5) wNil))))))))
theorem Gs (B:Bn K mg) (C_shown_term:Cal P w K mg base "shown_term" 2 ["term"] (spR K Zc)):∀(cdv:Value) (A:Around) (outer:List PySem.Env) (s:Shared) (H:Hp) (E:XK),Room 2 (A.deeper (envOfC "shown_polynomial" (Qb Jf) s.heap.objs.size f cdv))->SVs (cxOf CX0 P w K mg base ["one","words","term","first"] "shown_polynomial" (Qb Jf) f cdv A outer s H E).nox Z0 (Qw Jf) Zx:=λcdv A outer s H E hr =>
  (Qf (Yc (Q0 (Zr hr.units) (Qc 0) (Ui Qg)) (Qh (Qu Qo)) Qv)
  (Qf (Q1 (i:=1) (Yw Qg) J3.nd)
  (Qf (Xv PassesOwn.never (Qkw (Yr (Qc 0))) (V1 (i:=2) J3.nd) (Qh (Qfw (Qtf (i:=1) Qkl PySem.F.plainAttrs_list PySem.F.slot_list_extend PySem.F.type_list_extend (Qa (Yw (Qa (Qtg (Q0 Qf8 (Jy (Ju (Jh hr)) (Qc 2) Qe) Qe) Qo Qo) (Qa (Jg C_shown_term (hr.mono (by decide)) (Qa (Qc 2) Qg)) Qg))) Qg)))))
  (Qf (Q1 (i:=3) (Qtg (Q0 Qf8 (Jy (Ju (Jh hr)) (Jy (Ju (Jh hr)) (Qc 0) Qe) Qe) Qe) Qo Qo) J3.nd)
  (Qh (Qu (Qz Q4 (Qc 3) (Qe3 Qss PySem.F.slot_str_join PySem.F.type_str_join Qo (Qa (Qlj (Qc 1) (Jp Qe) Qa2) Qg)))))))))
theorem Uo (F:Fun K "shown_polynomial" "shown_polynomial" Jf f fd) (B:Bn K mg) (C1:Cal P w K mg base "shown_term" 2 ["term"] (spR K Zc)):FnOk P w K mg base CX0 3 f fd ["one"] (spR K Qy):=by
 refine Gp (T:=Z0) F J3 rfl (by decide) (λds kk h=>?_) (Gs B C1) (λds kk h=>?_)
 ·obtain ⟨p,rfl,_⟩:=h
  rfl
 ·obtain ⟨ts,rfl,h,k⟩:=h
  have hf:=h.few
  have he9:eqOk 9 (.tup (ts.map two))=true:=by
   show Ub 8 _=true
   exact Qe6 λ_ _=>rfl
  simp only [Zx,wSeq,wIf,env0,List.map_cons,List.map_nil,List.length_cons,List.length_nil,Nat.zero_add,Nat.reduceAdd,List.replicate,List.cons_append,List.nil_append,wRet,wC,Qx,wSet,wLst,wNil,sz0,Qc9,Qm5,Yl,Jz,true_and,r_bl,wBin,wTup,look,List.set_cons_succ,List.set_cons_zero,Qp,D.pure,Qjp,Qrg,he9,Q3,reduceIte,Bool.false_eq_true]
  cases ts with
  | nil =>
   refine ⟨by decide,λ_=>?_,λh=>absurd rfl h⟩
   exact k
  | cons t r =>
   refine ⟨by decide,λh=>(nomatch h),λ_=>?_⟩
   simp only [List.map_cons,Qi,show (two t).pure=true from rfl,V6,Bool.and_self,true_and]
   refine ⟨λi ρ=>∃o2:Option D,ρ=[some (.tup ((t::r).map two)),some (.lst ((S24.ws ((t::r).take i)).map .str)),o2,none],⟨none,rfl⟩,?_,?_⟩
   ·rintro i d ρ hd ⟨o2,rfl⟩
    rw [← List.map_cons,List.getElem?_map] at hd
    cases hq:(t::r)[i]? with
    | none=>rw [hq] at hd;cases hd
    | some u =>
     rw [hq] at hd
     cases hd
     have hu:=h.tm u (List.mem_of_getElem? hq)
     have hlt:=(List.getElem?_eq_some_iff.mp hq).1
     have hlen:(S24.ws ((t::r).take i)).length<=4000:=by rw [Qca,List.length_take];omega
     simp only [gN,Qbv,wMt,two,List.set_cons_succ,List.set_cons_zero,look,Qjm,BEq.rfl,Qd,wLst,wIfE,wC,Qs,wNil,List.length_cons,List.length_nil,Nat.zero_add,Nat.reduceAdd,sz2,true_and,Jz,r_bl,wBin,Qp,Qpc,Qi,D.pure,Bool.and_true,Bool.true_and,Qc8,Qb9,List.getElem?_cons_succ,List.getElem?_cons_zero,Gy,Q3]
     split
     ·rename_i hn
      have hs:sg u.2=Str.ofString "-":=if_pos (of_decide_eq_true hn)
      refine ⟨u,rfl,hu,rfl,by rw [List.length_map];exact Nat.le_of_lt (Jd (by omega)),some (two u),?_⟩
      rw [← Qiy hq,hs,List.map_append];rfl
     ·rename_i hn
      have hs:sg u.2=Str.ofString "+":=if_neg (λq=>hn (decide_eq_true q))
      refine ⟨u,rfl,hu,rfl,by rw [List.length_map];exact Nat.le_of_lt (Jd (by omega)),some (two u),?_⟩
      rw [← Qiy hq,hs,List.map_append];rfl
   ·rintro ρ ⟨o2,rfl⟩
    rw [← List.map_cons,List.length_map,List.take_length]
    simp only [wSeq,wSet,wIfE,List.map_cons,two,wC,wRet,wBin,wMs,Qd,wSlT,X5,wNil,Vo,Zg,Jz,Vh,r_bl,look,List.set_cons_succ,List.set_cons_zero,Qp,Qpe,Qt3,Qc8,Uv,List.getElem?_cons_zero,Qb9,List.getElem?_cons_succ,Gy,Q3]
    obtain ⟨q1,q2⟩:=Qjc h
    have kx:kk (.str (S24.fst t.2++glued (Str.ofString " ") (tm t::S24.ws r))):=k
    have l1:(Str.ofString "-").length=1:=by decide
    have l2:(Str.ofString "").length=0:=by decide
    split
    ·rename_i hn
     rw [show S24.fst t.2=Str.ofString "-" from if_pos (of_decide_eq_true hn)] at kx
     refine ⟨Za,tm t::S24.ws r,rfl,q1,Nat.le_of_lt (Jd (by omega)),?_⟩
     simp only [Z7]
     exact ⟨Nat.le_of_lt (Jd (by omega)),kx⟩
    ·rename_i hn
     rw [show S24.fst t.2=Str.ofString "" from if_neg (λq=>hn (decide_eq_true q))] at kx
     refine ⟨Za,tm t::S24.ws r,rfl,q1,Nat.le_of_lt (Jd (by omega)),?_⟩
     simp only [Z7]
     exact ⟨Nat.le_of_lt (Jd (by omega)),kx⟩
abbrev nNT:Str:=Str.ofString "NoText"
def nt (i:Nat):D:=.obj nNT [(Str.ofString "at",(i:Int))]
theorem Qkd (i:Int):(Str.ofString (toString i)).length=(toString i).length:=by
 show (Str.ofString _).cps.size=_
 rw [← Array.length_toList,PyProof.Rows.signs_ofString,List.length_map,String.length_toList]
theorem smI (h:i<=2000):(i:Int).natAbs.log2<1920/\(toString (i:Int)).length<=700:=by
 refine ⟨Qsu (by omega),?_⟩
 have:=Vi (n:=(i:Int)) (by omega) (by show (i:Int)<1000000000000000000000000000000000000000000000000000000000000;omega)
 have e:(nw (i:Int)).length=_:=Qkd i
 omega
theorem Qc7:FnScope ["self","at"] ["self","at"] (Qb Yj):=⟨rfl,rfl,rfl,by decide +kernel,rfl,by decide +kernel,by decide +kernel⟩
theorem Qdi (F:Fun K "__init__" "NoText.__init__" Yj f fd) (hm:mg "TangleError" = some (.ref tE))
  (hsp:specialIn K (.ref tE) "__getattribute__" = some (some (.builtin "type.__getattribute__"))) (hrd:readsIn K tE (.type "type")=true)
  (hfc:findCls K (.ref tE) (.type "type") "__init__" = some (.val (.builtin "ValueError.__init__"))) (kc:ExcC K C) (hna:PySem.W.findIn K (.ref C) "at" = some none):FnOk P w K mg base CX0 1 f fd ["self","at"] (L2.spS K C "at"):=by
 refine F.ok Qc7 (λvs H Q E h=>by obtain ⟨a,v,rfl,_⟩:=h;rfl) λcdv A outer s H vs Q E hr h=>?_
 obtain ⟨a,v,rfl,⟨i,rfl,h1,h2⟩,ha,q⟩:=h
 refine ⟨_,Qg9 (Qj1 (tE:=tE) rfl hm hsp hrd hfc (Um (pv 0) (Um (Qnj (pv 1)) Qj7))) (Qj0 (Qr6 (pv 0) (pv 1))),?_⟩
 have z0:=Qkd i
 have z1:(Str.ofString "it can't be read from word " ++ Str.ofString (toString i)).length<=800:=by
  rw [Str.length_append,show (Str.ofString "it can't be read from word ").length=27 by decide];omega
 have z2:(Str.ofString "it can't be read from word " ++ Str.ofString (toString i)++Str.ofString " on").length<=900:=by
  rw [Str.length_append,show (Str.ofString " on").length=3 by decide];omega
 exact ⟨_,rfl,by decide,_,rfl,i,rfl,h1,Nat.le_of_lt (Jd (by omega)),Nat.le_of_lt (Jd (by omega)),a,C,_,rfl,ha,kc,_,rfl,_,rfl,a,C,rfl,ha,kc,hna,q⟩
theorem Qps:∀{l:List (List Nat)} {a:List Nat},a∈l->∃u v,S03.jl 32 l=u++a++v
 | [a],b,h=>by
  rw [List.mem_singleton.mp h]
  exact ⟨[],[],by simp [S03.jl]⟩
 | a::b::r,x,h=>by
  have e:S03.jl 32 (a::b::r)=a++32::S03.jl 32 (b::r):=rfl
  rcases List.mem_cons.mp h with rfl | h
  ·exact ⟨[],32::S03.jl 32 (b::r),by rw [e];simp⟩
  ·obtain ⟨u,v,q⟩:=Qps h
   exact ⟨a++32::u,v,by rw [e,q];simp⟩
theorem Qdc {w:Str} (h:okc x) (hw:w∈Jv x (Str.ofString " ")):okc w:=by
 have e:=Ul (x:=x)
 have e2:x.cps.toList=S03.jl 32 ((Jv x (Str.ofString " ")).map λw=>w.cps.toList):=by
  have:=congrArg (λs:Str=>s.cps.toList) e
  rw [StrLaws.glued_eq_join,S03.Qmg] at this
  simp only [S03.Qbd] at this
  rw [← this];rfl
 obtain ⟨u,v,q⟩:=Qps (List.mem_map.mpr ⟨w,hw,rfl⟩)
 rw [q] at e2
 refine ⟨?_,λc hc=>h.sg c (by rw [e2];simp [hc])⟩
 have h1:=h.len
 rw [Jx,e2] at h1
 rw [Jx]
 rw [List.length_append,List.length_append] at h1
 omega
theorem Vj (h:okc x):okc (J0 x a):=⟨by have:=h.len;rw [Jx] at this ⊢;rw [Jt,List.length_drop];omega,λc hc=>h.sg c (List.mem_of_mem_drop hc)⟩
theorem Qzv (h:okc x):okc (toS x a):=⟨by have:=h.len;rw [Jx] at this ⊢;rw [Y9,List.length_take];omega,λc hc=>h.sg c (List.mem_of_mem_take hc)⟩
theorem Zo:(Jv x (Str.ofString " ")).length<=x.length+1:=by
 have e:=Ul (x:=x)
 have e2:x.cps.toList=S03.jl 32 ((Jv x (Str.ofString " ")).map λw=>w.cps.toList):=by
  have:=congrArg (λs:Str=>s.cps.toList) e
  rw [StrLaws.glued_eq_join,S03.Qmg] at this
  simp only [S03.Qbd] at this
  rw [← this];rfl
 have key:∀l:List (List Nat),l.length<=(S03.jl 32 l).length+1:=by
  intro l
  induction l with
  | nil=>simp
  | cons a r ih =>
   cases r with
   | nil=>simp
   | cons b r =>
    have e:S03.jl 32 (a::b::r)=a++32::S03.jl 32 (b::r):=rfl
    rw [e]
    simp at ih ⊢
    omega
 have:=key ((Jv x (Str.ofString " ")).map λw=>w.cps.toList)
 rw [← e2,List.length_map] at this
 rw [Jx];exact this
theorem Qc3 (h:okc x) (hk:k (.lst ((Jv x (Str.ofString " ")).map .str))):Xg x [.str (Str.ofString " ")] k:=by
 by_cases h0:x.length=0
 ·refine .inl ⟨by decide,h0,?_⟩
  have e:x=Str.ofString "":=Qlo.mp h0
  have e2:Jv (Str.ofString "") (Str.ofString " ")=[Str.ofString ""]:=by decide +kernel
  rw [e,e2] at hk
  rw [e];exact hk
 ·have hl:=h.len
  have hp:=Zo (x:=x)
  exact .inr ⟨by decide,by decide +kernel,by omega,lenZ h,Nat.le_of_lt (Jd (by omega)),hk⟩
def J8:GA:=λds k=>∃x,ds=[.str x]/\okc x/\k (.lst ((wbs x).map .str))
abbrev Js:Stmt:=top 18
theorem Gw:FnScope ["text"] ["text"] (Qb Js):=⟨rfl,rfl,rfl,by decide +kernel,rfl,by decide +kernel,by decide +kernel⟩
def Vm:Tg:={ own:=λi=>false,io:=[] }
def Vl:WS:=(wSeq (wIf (wTru (wMs Qdq (wVar 0) (Qd (wC (.str (Str.ofString "-"))) wNil))) (wRet (wBin J6 (wLst (Qd (wC (.str (Str.ofString "-"))) wNil)) (wMs Xg (wSlF (wVar 0) (Y2 (wC (.int 1)))) (Qd (wC (.str (Str.ofString " "))) wNil)))) Qx)
 (wRet (wBin J6 (wLst (Qd (wC (.str (Str.ofString "+"))) wNil)) (wMs Xg (wVar 0) (Qd (wC (.str (Str.ofString " "))) wNil)))))
theorem Qaa (B:Bn K mg):∀(cdv:Value) (A:Around) (outer:List PySem.Env) (s:Shared) (H:Hp) (E:XK),Room 0 (A.deeper (envOfC "words_by_signs" (Qb Js) s.heap.objs.size f cdv))->SVs (cxOf CX0 P w K mg base ["text"] "words_by_signs" (Qb Js) f cdv A outer s H E).nox Vm (Qw Js) Vl:=λcdv A outer s H E hr =>
  (Qf (Yc (Zy (Qe3 Qew PySem.F.slot_str_startswith PySem.F.type_str_startswith (Qc 0) (Qa Qo Qg))) (Qh (Qu (Qz Q4 (Yw (Qa Qo Qg)) (Qe3 Qa9 PySem.F.slot_str_split PySem.F.type_str_split (Uj (Qc 0) (Jp Qe)) (Qa Qo Qg))))) Qv)
  (Qh (Qu (Qz Q4 (Yw (Qa Qo Qg)) (Qe3 Qa9 PySem.F.slot_str_split PySem.F.type_str_split (Qc 0) (Qa Qo Qg))))))
theorem Xb (F:Fun K "words_by_signs" "words_by_signs" Js f fd) (B:Bn K mg):FnOk P w K mg base CX0 1 f fd ["text"] (spR K J8):=by
 refine Gp (T:=Vm) F Gw rfl (by decide) (λds kk h=>?_) (Qaa B) (λds kk h=>?_)
 ·obtain ⟨x,rfl,_⟩:=h
  rfl
 ·obtain ⟨x,rfl,h,k⟩:=h
  unfold wbs at k
  have hl:=h.len
  have hp:=Zo (x:=x)
  have hp1:=Zo (x:=J0 x 1)
  have hl1:=(Vj (a:=1) h).len
  simp only [Vl,wSeq,wIf,env0,List.map_cons,List.map_nil,List.length_cons,List.length_nil,Nat.zero_add,List.cons_append,List.nil_append,wRet,wBin,wLst,Qd,wC,wNil,sz1,wMs,wSlF,Vo,Zg,Jz,true_and,Qx,X8,Qay,Zh,look,Qp,Uk,Int.reduceLE,Int.reduceToNat,Vh]
  cases hs:Vt x (Str.ofString "-") with
  | true =>
   rw [hs,if_pos rfl] at k
   simp only [lenZ h,true_and,reduceIte]
   refine Qc3 (Vj h) ?_
   simp only [Qa0,Qi,D.pure,Bool.and_self,List.length_cons,List.length_nil,Nat.zero_add,List.length_map,List.cons_append,List.nil_append,true_and]
   exact ⟨Za,Nat.le_of_lt (Jd (by omega)),k⟩
  | false =>
   rw [hs,if_neg (by decide)] at k
   simp only [Bool.false_eq_true,reduceIte]
   refine Qc3 h ?_
   simp only [Qa0,Qi,D.pure,Bool.and_self,List.length_cons,List.length_nil,Nat.zero_add,List.length_map,List.cons_append,List.nil_append,true_and]
   exact ⟨Za,Nat.le_of_lt (Jd (by omega)),k⟩
def Jj:GX:=λds k kx=>∃w,ds=[.str w]/\okc w/\(∀n,rn w=some n->k (.int n))/\(rn w=none->kx (nt 0))
abbrev Q8:Stmt:=top 19
theorem Qby:FnScope ["word"] ["word"] (Qb Q8):=⟨rfl,rfl,rfl,by decide +kernel,rfl,by decide +kernel,by decide +kernel⟩
def Q7:Tg:={ own:=λi=>false,io:=[] }
def Uy:WS:=(wSeq (wIf (wNot (wTru (Qs Ze (Qd (wVar 0) (Qd (wC (.int 60)) wNil))))) (Vq (Str.ofString "NoText") (Str.ofString "at") (Qd (wC (.int 0)) wNil)) Qx)
 (wRet (Qs Qly (Qd (wVar 0) wNil))))
theorem Qdx (B:Bn K mg) (C_is_written:Cal P w K mg base "is_written" 1 ["word","most"] (spR K Ze)) (I_NoText:Qcx P w K mg base "NoText" "at" 1):∀(cdv:Value) (A:Around) (outer:List PySem.Env) (s:Shared) (H:Hp) (E:XK) (XE:D->St->Hp->Prop),Room 2 (A.deeper (envOfC "read_number" (Qb Q8) s.heap.objs.size f cdv))->(∀x C,atN K x C->Qbs (cxOf (CXD P w base) P w K mg base ["word"] "read_number" (Qb Q8) f cdv A outer s H E) ⟨Q7.own,Q7.io,XE⟩ x C)->(∀x attr C,atN K x C->V9 (cxOf (CXD P w base) P w K mg base ["word"] "read_number" (Qb Q8) f cdv A outer s H E) ⟨Q7.own,Q7.io,XE⟩ x C attr)->Z8 (cxOf (CXD P w base) P w K mg base ["word"] "read_number" (Qb Q8) f cdv A outer s H E) ⟨Q7.own,Q7.io,XE⟩->Qbt (cxOf (CXD P w base) P w K mg base ["word"] "read_number" (Qb Q8) f cdv A outer s H E) ⟨Q7.own,Q7.io,XE⟩->SVs (cxOf (CXD P w base) P w K mg base ["word"] "read_number" (Qb Q8) f cdv A outer s H E) ⟨Q7.own,Q7.io,XE⟩ (Qw Q8) Uy:=λcdv A outer s H E XE hr hX hXI hP hH =>
  (Qf (Yc (Uf (Zy (Jg C_is_written (hr.mono (by decide)) (Qa (Qc 0) (Qa (Qti B.c_MOST_FIGURES.choose_spec) Qg))))) (Qh (Qat I_NoText (hr.mono (by decide)) (λC h=>hXI _ _ C h) (Qa Qe Qg))) Qv)
  (Qh (Qu (Zf Qgo B.nb_int Qcw (Qa (Qc 0) Qg)))))
theorem Qb0 (F:Fun K "read_number" "read_number" Q8 f fd) (B:Bn K mg) (C1:Cal P w K mg base "is_written" 1 ["word","most"] (spR K Ze)) (I1:Qcx P w K mg base "NoText" "at" 1):FnOk P w K mg base (CXD P w base) 3 f fd ["word"] (spXD K Jj):=by
 refine Qn8 (T:=Q7) F Qby rfl (by decide) (λds kk kx h=>?_) (Qdx B C1 I1) (λds kk kx h=>?_)
 ·obtain ⟨w,rfl,_⟩:=h
  rfl
 ·obtain ⟨w,rfl,ho,h1,h2⟩:=h
  simp only [Uy,wSeq,wIf,wNot,env0,List.map_cons,List.map_nil,List.length_cons,List.length_nil,Nat.zero_add,List.cons_append,List.nil_append,Vq,Qd,wC,wNil,Qx,wRet,Qs,Jz,X8,look,Qp,Qf0]
  refine ⟨w,rfl,ho,?_⟩
  unfold rn at h1 h2
  cases hn:nm6 w with
  | false =>
   rw [hn] at h2
   simp only [Zh,Bool.not_false,reduceIte]
   exact ⟨smI (i:=0) (by omega),h2 (if_neg (by decide))⟩
  | true =>
   rw [hn] at h1
   have hN:=Qgb.mp hn
   simp only [hN.reads,Qp,Zh,Bool.not_true,Bool.false_eq_true,reduceIte]
   exact ⟨by have:=hN.len;omega,h1 _ (if_pos rfl)⟩
def Zd:GX:=λds k kx=>∃w,ds=[.str w]/\okc w/\(∀n,rp w=some n->k (.int n))/\(rp w=none->kx (nt 0))
abbrev Jl:Stmt:=top 20
theorem Qc5:FnScope ["word"] ["word"] (Qb Jl):=⟨rfl,rfl,rfl,by decide +kernel,rfl,by decide +kernel,by decide +kernel⟩
def Ja:Tg:={ own:=λi=>false,io:=[] }
def Xo:WS:=(wSeq (wIf (wBl (wBin dEq (wVar 0) (wC (.str (Str.ofString ""))))) (wRet (wC (.int 1))) Qx)
 (wSeq (wIf (wTru (wMs Qdq (wVar 0) (Qd (wC (.str (Str.ofString "^-"))) wNil))) (Qi3 (wUnX dNeg (Ue Jj (Qd (wSlF (wVar 0) (Y2 (wC (.int 2)))) wNil)))) Qx)
 (Qi3 (Ue Jj (Qd (wSlF (wVar 0) (Y2 (wC (.int 1)))) wNil)))))
theorem Qfl (B:Bn K mg) (C_read_number:CalD P w K mg base "read_number" 3 ["word"] (spXD K Jj)):∀(cdv:Value) (A:Around) (outer:List PySem.Env) (s:Shared) (H:Hp) (E:XK) (XE:D->St->Hp->Prop),Room 3 (A.deeper (envOfC "read_power" (Qb Jl) s.heap.objs.size f cdv))->(∀x C,atN K x C->Qbs (cxOf (CXD P w base) P w K mg base ["word"] "read_power" (Qb Jl) f cdv A outer s H E) ⟨Ja.own,Ja.io,XE⟩ x C)->(∀x attr C,atN K x C->V9 (cxOf (CXD P w base) P w K mg base ["word"] "read_power" (Qb Jl) f cdv A outer s H E) ⟨Ja.own,Ja.io,XE⟩ x C attr)->Z8 (cxOf (CXD P w base) P w K mg base ["word"] "read_power" (Qb Jl) f cdv A outer s H E) ⟨Ja.own,Ja.io,XE⟩->Qbt (cxOf (CXD P w base) P w K mg base ["word"] "read_power" (Qb Jl) f cdv A outer s H E) ⟨Ja.own,Ja.io,XE⟩->SVs (cxOf (CXD P w base) P w K mg base ["word"] "read_power" (Qb Jl) f cdv A outer s H E) ⟨Ja.own,Ja.io,XE⟩ (Qw Jl) Xo:=λcdv A outer s H E XE hr hX hXI hP hH =>
  (Qf (Yc (Q0 (Zr hr.units) (Qc 0) Qo) (Qh (Qu Qe)) Qv)
  (Qf (Yc (Zy (Qe3 Qew PySem.F.slot_str_startswith PySem.F.type_str_startswith (Qc 0) (Qa Qo Qg))) (Qh (Qjf (Qym Qd5 (Gq C_read_number (hr.mono (by decide)) hP (Qa (Uj (Qc 0) (Jp Qe)) Qg))))) Qv)
  (Qh (Qjf (Gq C_read_number (hr.mono (by decide)) hP (Qa (Uj (Qc 0) (Jp Qe)) Qg))))))
theorem Qdg (F:Fun K "read_power" "read_power" Jl f fd) (B:Bn K mg) (C1:CalD P w K mg base "read_number" 3 ["word"] (spXD K Jj)):FnOk P w K mg base (CXD P w base) 4 f fd ["word"] (spXD K Zd):=by
 refine Qn8 (T:=Ja) F Qc5 rfl (by decide) (λds kk kx h=>?_) (Qfl B C1) (λds kk kx h=>?_)
 ·obtain ⟨w,rfl,_⟩:=h
  rfl
 ·obtain ⟨w,rfl,ho,h1,h2⟩:=h
  unfold rp at h1 h2
  simp only [Xo,wSeq,wIf,env0,List.map_cons,List.map_nil,List.length_cons,List.length_nil,Nat.zero_add,List.cons_append,List.nil_append,wRet,wC,Qx,Qi3,wUnX,Ue,Qd,wSlF,wNil,Vo,Zg,Jz,X8,wMs,Qay,Zh,r_bl,wBin,look,Qp,Uk,Int.reduceLE,Int.reduceToNat,true_and,Vh,U9,Q3]
  by_cases h0:w=Str.ofString ""
  ·rw [if_pos h0] at h1
   simp only [decide_eq_true h0,reduceIte]
   exact h1 1 rfl
  ·rw [if_neg h0] at h1 h2
   simp only [decide_eq_false h0,Bool.false_eq_true,reduceIte]
   cases hs:Vt w (Str.ofString "^-") with
   | true =>
    rw [hs,if_pos rfl] at h1 h2
    simp only [lenZ ho,true_and,reduceIte]
    refine ⟨_,rfl,Vj ho,λn hn=>?_,λhn=>h2 (by rw [hn];rfl)⟩
    simp only [Qh9]
    exact h1 (-n) (by rw [hn];rfl)
   | false =>
    rw [hs,if_neg (by decide)] at h1 h2
    simp only [Bool.false_eq_true,lenZ ho,true_and,reduceIte]
    exact ⟨_,rfl,Vj ho,h1,h2⟩
theorem Qy9 (h:okc (A++B)):okc A:=⟨by have:=h.len;rw [Str.length_append] at this;omega,λc hc=>h.sg c (by rw [Qn];simp [hc])⟩
theorem Q2b (h:okc (A++B)):okc B:=⟨by have:=h.len;rw [Str.length_append] at this;omega,λc hc=>h.sg c (by rw [Qn];simp [hc])⟩
theorem Qnn {w:Str} (h:okc w):∃a b c,Zi w (Str.ofString "x")=[a,b,c]/\okc a/\okc c:=by
 rcases Qyy w with hx | ⟨A,B,hA,rfl⟩
 ·exact ⟨_,_,_,Qcm hx,h,⟨by decide,λc hc=>(by cases hc)⟩⟩
 ·exact ⟨_,_,_,Qcl hA,Qy9 (Qy9 h),Q2b h⟩
def Zt:GX:=λds k kx=>∃s w,ds=[.str s,.str w]/\okc w/\(∀t,rt s w=some t->k (two t))/\(rt s w=none->kx (nt 0))
abbrev Jw:Stmt:=top 21
theorem Z2:FnScope ["sign","word","parts","number","power"] ["sign","word"] (Qb Jw):=⟨rfl,rfl,rfl,by decide +kernel,rfl,by decide +kernel,by decide +kernel⟩
def Jo:Tg:={ own:=λi=>i == 2 || i == 3 || i == 4,io:=[] }
def Qak:WS:=(wSeq (wSet 2 (wMs Qs7 (wVar 1) (Qd (wC (.str (Str.ofString "x"))) wNil)))
 (wSeq (Qd0 3 (wIfX (wBl (wBin dEq (wBin dIx (wVar 2) (wC (.int 0))) (wC (.str (Str.ofString ""))))) (wOf (wC (.int 1))) (Ue Jj (Qd (wBin dIx (wVar 2) (wC (.int 0))) wNil))))
 (wSeq (Qd0 4 (wIfX (wBl (wBin dEq (wBin dIx (wVar 2) (wC (.int 1))) (wC (.str (Str.ofString ""))))) (wOf (wC (.int 0))) (Ue Zd (Qd (wBin dIx (wVar 2) (wC (.int 2))) wNil))))
 (wRet (wTup (Qd (Yl (wVar 4)) (Qd (wIfE (wBl (wBin dEq (wVar 0) (wC (.str (Str.ofString "-"))))) (wUn dNeg (wVar 3)) (Yl (wVar 3))) wNil)))))))
theorem Qgq (B:Bn K mg) (C_read_number:CalD P w K mg base "read_number" 3 ["word"] (spXD K Jj)) (C_read_power:CalD P w K mg base "read_power" 4 ["word"] (spXD K Zd)):∀(cdv:Value) (A:Around) (outer:List PySem.Env) (s:Shared) (H:Hp) (E:XK) (XE:D->St->Hp->Prop),Room 4 (A.deeper (envOfC "read_term" (Qb Jw) s.heap.objs.size f cdv))->(∀x C,atN K x C->Qbs (cxOf (CXD P w base) P w K mg base ["sign","word","parts","number","power"] "read_term" (Qb Jw) f cdv A outer s H E) ⟨Jo.own,Jo.io,XE⟩ x C)->(∀x attr C,atN K x C->V9 (cxOf (CXD P w base) P w K mg base ["sign","word","parts","number","power"] "read_term" (Qb Jw) f cdv A outer s H E) ⟨Jo.own,Jo.io,XE⟩ x C attr)->Z8 (cxOf (CXD P w base) P w K mg base ["sign","word","parts","number","power"] "read_term" (Qb Jw) f cdv A outer s H E) ⟨Jo.own,Jo.io,XE⟩->Qbt (cxOf (CXD P w base) P w K mg base ["sign","word","parts","number","power"] "read_term" (Qb Jw) f cdv A outer s H E) ⟨Jo.own,Jo.io,XE⟩->SVs (cxOf (CXD P w base) P w K mg base ["sign","word","parts","number","power"] "read_term" (Qb Jw) f cdv A outer s H E) ⟨Jo.own,Jo.io,XE⟩ (Qw Jw) Qak:=λcdv A outer s H E XE hr hX hXI hP hH =>
  (Qf (Q1 (i:=2) (Qe3 Qsr PySem.F.slot_str_partition PySem.F.type_str_partition (Qc 1) (Qa Qo Qg)) Z2.nd (hio:=List.not_mem_nil))
  (Qf (Qfv (i:=3) (Qpz (Q0 (Zr hr.units) (Jy (Ju (Jh hr)) (Qc 2) Qe) Qo) (Qpy Qe) (Gq C_read_number (hr.mono (by decide)) hP (Qa (Jy (Ju (Jh hr)) (Qc 2) Qe) Qg))) Z2.nd)
  (Qf (Qfv (i:=4) (Qpz (Q0 (Zr hr.units) (Jy (Ju (Jh hr)) (Qc 2) Qe) Qo) (Qpy Qe) (Gq C_read_power (hr.mono (by decide)) hP (Qa (Jy (Ju (Jh hr)) (Qc 2) Qe) Qg))) Z2.nd)
  (Qh (Qu (Ui (Qa (Yr (Qc 4)) (Qa (Qtg (Q0 (Zr hr.units) (Qc 0) Qo) (Qob Qd5 (Qc 3)) (Yr (Qc 3))) Qg))))))))
theorem Qeq (F:Fun K "read_term" "read_term" Jw f fd) (B:Bn K mg) (C1:CalD P w K mg base "read_number" 3 ["word"] (spXD K Jj)) (C2:CalD P w K mg base "read_power" 4 ["word"] (spXD K Zd)):FnOk P w K mg base (CXD P w base) 5 f fd ["sign","word"] (spXD K Zt):=by
 refine Qn8 (T:=Jo) F Z2 rfl (by decide) (λds kk kx h=>?_) (Qgq B C1 C2) (λds kk kx h=>?_)
 ·obtain ⟨s,w,rfl,_⟩:=h
  rfl
 ·obtain ⟨s,w,rfl,ho,h1,h2⟩:=h
  obtain ⟨a,b,c,hp,oa,oc⟩:=Qnn ho
  unfold rt at h1 h2
  rw [hp] at h1 h2
  simp only [Qak,wSeq,wSet,wMs,env0,List.map_cons,List.map_nil,List.length_cons,List.length_nil,Nat.zero_add,Nat.reduceAdd,List.replicate,List.cons_append,List.nil_append,Qd,wC,wNil,Qd0,wIfX,wOf,wRet,wTup,Yl,wIfE,wUn,sz2,true_and,Jz,r_bl,wBin,Ue,Qjv,look,List.set_cons_succ,List.set_cons_zero,Qp,Qh9,Int.reduceNeg,D.pure,U9,Q3,Qc8,Qy8,Qb9,Uv,Vh]
  refine ⟨by decide,lenZ ho,?_⟩
  rw [hp]
  simp only [List.map_cons,List.map_nil,List.getElem?_cons_zero,List.getElem?_cons_succ,Int.reduceNeg,Qp,U9,Q3]
  -- behind the power
  have fin:∀n p:Int,(if a=Str.ofString "" then some 1 else rn a)=some n->(if b=Str.ofString "" then some 0 else rp c)=some p->kk (.tup [.int p,.int (if s=Str.ofString "-" then -n else n)]):=λn p e1 e2=>h1 (p,if s=Str.ofString "-" then -n else n) (by
   show Option.bind (if a=Str.ofString "" then some 1 else rn a) (λn=>(if b=Str.ofString "" then some 0 else rp c).map λp=>(p,if s=Str.ofString "-" then -n else n))=_
   rw [e1,e2];rfl)
  have bad1:(if a=Str.ofString "" then some 1 else rn a)=none->kx (nt 0):=λe1=>h2 (by
   show Option.bind (if a=Str.ofString "" then some 1 else rn a) (λn=>(if b=Str.ofString "" then some 0 else rp c).map λp=>(p,if s=Str.ofString "-" then -n else n))=_
   rw [e1];rfl)
  have bad2:∀n:Int,(if a=Str.ofString "" then some 1 else rn a)=some n->(if b=Str.ofString "" then some 0 else rp c)=none->kx (nt 0):=λn e1 e2=>h2 (by
   show Option.bind (if a=Str.ofString "" then some 1 else rn a) (λn=>(if b=Str.ofString "" then some 0 else rp c).map λp=>(p,if s=Str.ofString "-" then -n else n))=_
   rw [e1,e2];rfl)
  have neg:∀n p:Int,(if a=Str.ofString "" then some 1 else rn a)=some n->(if b=Str.ofString "" then some 0 else rp c)=some p->(s=Str.ofString "-" -> kk (.tup [.int p,.int (-n)]))/\(s≠Str.ofString "-" -> kk (.tup [.int p,.int n])):=λn p e1 e2=>by
   have:=fin n p e1 e2
   exact ⟨λz=>by rwa [if_pos z] at this,λz=>by rwa [if_neg z] at this⟩
  by_cases ha:a=Str.ofString ""
  ·have e1:(if a=Str.ofString "" then some 1 else rn a)=some 1:=if_pos ha
   rw [if_pos (decide_eq_true ha)]
   by_cases hb:b=Str.ofString ""
   ·obtain ⟨g1,g2⟩:=neg 1 0 e1 (if_pos hb)
    rw [if_pos (decide_eq_true hb)]
    by_cases hs:s=Str.ofString "-"
    ·rw [if_pos (decide_eq_true hs)];exact g1 hs
    ·rw [if_neg (by simpa using hs)];exact g2 hs
   ·rw [if_neg (by simpa using hb)]
    refine ⟨c,rfl,oc,λp hpw=>⟨rfl,?_⟩,λhn=>bad2 1 e1 (by rw [if_neg hb];exact hn)⟩
    obtain ⟨g1,g2⟩:=neg 1 p e1 (by rw [if_neg hb];exact hpw)
    by_cases hs:s=Str.ofString "-"
    ·rw [if_pos (decide_eq_true hs)];exact g1 hs
    ·rw [if_neg (by simpa using hs)];exact g2 hs
  ·rw [if_neg (by simpa using ha)]
   refine ⟨a,rfl,oa,λn hn=>?_,λhn=>bad1 (by rw [if_neg ha];exact hn)⟩
   have e1:(if a=Str.ofString "" then some 1 else rn a)=some n:=by rw [if_neg ha];exact hn
   by_cases hb:b=Str.ofString ""
   ·obtain ⟨g1,g2⟩:=neg n 0 e1 (if_pos hb)
    show if decide (b=Str.ofString "")=true then _ else _
    rw [if_pos (decide_eq_true hb)]
    by_cases hs:s=Str.ofString "-"
    ·rw [if_pos (decide_eq_true hs)];exact g1 hs
    ·rw [if_neg (by simpa using hs)];exact ⟨rfl,g2 hs⟩
   ·show if decide (b=Str.ofString "")=true then _ else _
    rw [if_neg (by simpa using hb)]
    refine ⟨c,rfl,oc,λp hpw=>⟨rfl,?_⟩,λhn=>bad2 n e1 (by rw [if_neg hb];exact hn)⟩
    obtain ⟨g1,g2⟩:=neg n p e1 (by rw [if_neg hb];exact hpw)
    by_cases hs:s=Str.ofString "-"
    ·rw [if_pos (decide_eq_true hs)];exact g1 hs
    ·rw [if_neg (by simpa using hs)];exact ⟨rfl,g2 hs⟩
theorem Qd9 {α β:Type} {f:α->β} {xs:List α} {lo c:Option Int}:Zk (xs.map f) lo hi c=(Zk xs lo hi c).map f:=by
 unfold Zk
 rw [List.length_map,List.map_filterMap]
 congr 1
 funext j
 rw [List.getElem?_map]
theorem Qc2 {α:Type} {xs:List α} (ha:a<=1):2*(Zk xs (some (a:Int)) none (some 2)).length<=xs.length+1:=by
 unfold Zk
 refine Nat.le_trans (Nat.mul_le_mul_left 2 (List.length_filterMap_le _ _)) ?_
 unfold sliceBounds sliceRange
 simp only [List.length_map,List.length_range,Option.getD_some,show ((2:Int) > 0)=True by simp,if_true,show ¬((a:Int)<0) by omega,if_false]
 split <;> omega
theorem Qmp {A B:List Str}:Ua (A.map D.str) (B.map D.str)=(A.zip B).map λp=>.tup [.str p.1,.str p.2]:=by
 unfold Ua
 rw [List.zip_map,List.map_map];rfl
theorem Qt7 (h:okc x):∀w∈wbs x,okc w:=λw hw=>by
 unfold wbs at hw
 split at hw
 ·rcases List.mem_cons.mp hw with rfl | hw
  ·exact ⟨by decide,by decide⟩
  ·exact Qdc (Vj h) hw
 ·rcases List.mem_cons.mp hw with rfl | hw
  ·exact ⟨by decide,by decide⟩
  ·exact Qdc h hw
theorem Qi0:(wbs x).length<=x.length+2:=by
 unfold wbs
 have h1:=Zo (x:=x)
 have h2:=Zo (x:=J0 x 1)
 have h3:(J0 x 1).length<=x.length:=by rw [Jx,Jx,Jt,List.length_drop];omega
 split <;> (rw [List.length_cons];omega)
theorem Qjh {α:Type} {xs:List α} {lo c:Option Int} {x:α} (h:x∈Zk xs lo hi c):x∈xs:=by
 unfold Zk at h
 obtain ⟨j,_,hj⟩:=List.mem_filterMap.mp h
 exact List.mem_of_getElem? hj
theorem Qwq (h:okc x) {p:Str × Str} (hp:p∈prs x):okc p.2:=Qt7 h _ (Qjh (List.of_mem_zip hp).2)
theorem Qr9:2*(prs x).length<=x.length+3:=by
 unfold prs
 rw [List.length_zip]
 have:=Qc2 (xs:=wbs x) (a:=0) (by omega)
 have h2:=Qi0 (x:=x)
 have e:((0:Nat):Int)=0:=rfl
 rw [e] at this
 omega
def noS (d:D):Prop:=d=.non\/d=.int 0\/d=.bl true\/d=.tup []\/d=.fls []\/(∃x,d=.tup [.str x])\/d=.fdk []
def Q5:GX:=λds k kx=>∃d,ds=[d]/\((noS d/\kx (nt 0))\/∃x,d=.str x/\okc x/\x.length<=3950/\(∀ts,LD x=some ts->k (.tup (ts.map two)))/\(LD x=none->kx (nt 0)))
abbrev Qr:Stmt:=top 22
theorem Yy:FnScope ["text","words","one"] ["text"] (Qb Qr):=⟨rfl,rfl,rfl,by decide +kernel,rfl,by decide +kernel,by decide +kernel⟩
def Qq:Tg:={ own:=λi=>i == 1 || i == 2,io:=[] }
def Y1:WS:=(wSeq (wIf (wNot (wTru (Qs dIsi (Qd (wVar 0) (Qd (wC (.ty .str)) wNil))))) (Vq (Str.ofString "NoText") (Str.ofString "at") (Qd (wC (.int 0)) wNil)) Qx)
 (wSeq (wIf (wBl (wBin dEq (wVar 0) (wC (.str (Str.ofString "0"))))) (wRet (wTup wNil)) Qx)
 (wSeq (wSet 1 (Qs J8 (Qd (wVar 0) wNil)))
 (wSeq (Qd0 2 (Qao Qbj (Qd1 (Qce spl2 (Qi1 (Qd (wSt (wVar 1) (Y2 (wC (.int 0))) X5 (Y2 (wC (.int 2)))) (Qd (wSt (wVar 1) (Y2 (wC (.int 1))) X5 (Y2 (wC (.int 2)))) wNil))) (Ue Zt (Qd (wVar 0) (Qd (wVar 1) wNil))) []) (wAOf wNil))))
 (wSeq (wIf (wOr (wNot (wTru (Qs Yk (Qd (wVar 2) wNil)))) (wBl (wBin dNe (Qs Qy (Qd (wVar 2) wNil)) (wVar 0)))) (Vq (Str.ofString "NoText") (Str.ofString "at") (Qd (wC (.int 0)) wNil)) Qx)
 (wRet (Yl (wVar 2))))))))
theorem Xi (B:Bn K mg) (C_is_polynomial:Cal P w K mg base "is_polynomial" 3 ["thing"] (spR K Yk)) (C_shown_polynomial:Cal P w K mg base "shown_polynomial" 3 ["one"] (spR K Qy)) (C_words_by_signs:Cal P w K mg base "words_by_signs" 1 ["text"] (spR K J8)) (C_read_term:CalD P w K mg base "read_term" 5 ["sign","word"] (spXD K Zt)) (I_NoText:Qcx P w K mg base "NoText" "at" 1):∀(cdv:Value) (A:Around) (outer:List PySem.Env) (s:Shared) (H:Hp) (E:XK) (XE:D->St->Hp->Prop),Room 5 (A.deeper (envOfC "read_polynomial" (Qb Qr) s.heap.objs.size f cdv))->(∀x C,atN K x C->Qbs (cxOf (CXD P w base) P w K mg base ["text","words","one"] "read_polynomial" (Qb Qr) f cdv A outer s H E) ⟨Qq.own,Qq.io,XE⟩ x C)->(∀x attr C,atN K x C->V9 (cxOf (CXD P w base) P w K mg base ["text","words","one"] "read_polynomial" (Qb Qr) f cdv A outer s H E) ⟨Qq.own,Qq.io,XE⟩ x C attr)->Z8 (cxOf (CXD P w base) P w K mg base ["text","words","one"] "read_polynomial" (Qb Qr) f cdv A outer s H E) ⟨Qq.own,Qq.io,XE⟩->Qbt (cxOf (CXD P w base) P w K mg base ["text","words","one"] "read_polynomial" (Qb Qr) f cdv A outer s H E) ⟨Qq.own,Qq.io,XE⟩->SVs (cxOf (CXD P w base) P w K mg base ["text","words","one"] "read_polynomial" (Qb Qr) f cdv A outer s H E) ⟨Qq.own,Qq.io,XE⟩ (Qw Qr) Y1:=λcdv A outer s H E XE hr hX hXI hP hH =>
  (Qf (Yc (Uf (Zy (J1 Qfc B.nb_isinstance Yq (Qa (Qc 0) (Qa (Qli .str B.nb_str Qp8) Qg))))) (Qh (Qat I_NoText (hr.mono (by decide)) (λC h=>hXI _ _ C h) (Qa Qe Qg))) Qv)
  (Qf (Yc (Q0 (Zr hr.units) (Qc 0) Qo) (Qh (Qu (Ui Qg))) Qv)
  (Qf (Q1 (i:=1) (Jg C_words_by_signs (hr.mono (by decide)) (Qa (Qc 0) Qg)) Yy.nd (hio:=List.not_mem_nil))
  (Qf (Qfv (i:=2) (Qip Qds B.nb_tuple Gr (Qot (Qlh [] ⟨rfl,rfl,rfl⟩ hH (Qs4 B.nb_zip (Qa (Qyn (Qc 1) (Jp Qe) Qa2 (Jp Qe)) (Qa (Qyn (Qc 1) (Jp Qe) Qa2 (Jp Qe)) Qg))) (λ_ _ _ _ _ _ _ hP=>(Gq C_read_term (hr.mono (by decide)) hP (Qa (Qc 0) (Qa (Qc 1) Qg)))) (Qfa (Qb Qr) ["text","words","one"] (by decide +kernel))) (Qy6 Qg))) Yy.nd)
  (Qf (Yc (Y3 (Qb6 (Uf (Zy (Jg C_is_polynomial (hr.mono (by decide)) (Qa (Qc 2) Qg)))) (X4 (Q0 (Qf7 hr.units) (Jg C_shown_polynomial (hr.mono (by decide)) (Qa (Qc 2) Qg)) (Qc 0))))) (Qh (Qat I_NoText (hr.mono (by decide)) (λC h=>hXI _ _ C h) (Qa Qe Qg))) Qv)
  (Qh (Qu (Yr (Qc 2)))))))))
theorem Gg (F:Fun K "read_polynomial" "read_polynomial" Qr f fd) (B:Bn K mg) (C1:Cal P w K mg base "is_polynomial" 3 ["thing"] (spR K Yk)) (C2:Cal P w K mg base "shown_polynomial" 3 ["one"] (spR K Qy)) (C3:Cal P w K mg base "words_by_signs" 1 ["text"] (spR K J8)) (C4:CalD P w K mg base "read_term" 5 ["sign","word"] (spXD K Zt)) (I1:Qcx P w K mg base "NoText" "at" 1):FnOk P w K mg base (CXD P w base) 6 f fd ["text"] (spXD K Q5):=by
 refine Qn8 (T:=Qq) F Yy rfl (by decide) (λds kk kx h=>?_) (Xi B C1 C2 C3 C4 I1) (λds kk kx h=>?_)
 ·obtain ⟨d,rfl,_⟩:=h
  rfl
 ·obtain ⟨d,rfl,⟨hd,h⟩ | ⟨x,rfl,ho,hl,h1,h2⟩⟩:=h
  ·rcases hd with rfl | rfl | rfl | rfl | rfl | ⟨x,rfl⟩ | rfl
   all_goals
    simp only [Y1,wSeq,wIf,wNot,env0,List.map_cons,List.map_nil,List.length_cons,List.length_nil,Nat.zero_add,Nat.reduceAdd,List.replicate,List.cons_append,List.nil_append,Vq,Qd,wC,wNil,Qx,wRet,wTup,sz0,true_and,wSet,Qs,Qd0,Qao,Qd1,Qce,Qi1,wSt,X5,wAOf,wOr,Yl,Jz,reduceIte,r_bl,wBin,X8,Vo,Zg,Qia,isiD,Zh,look,List.set_cons_succ,List.set_cons_zero,Qp,Bool.not_false,Qrg,Q3,Bool.false_eq_true]
    exact ⟨smI (i:=0) (by omega),h⟩
  ·simp only [Y1,wSeq,wIf,wNot,env0,List.map_cons,List.map_nil,List.length_cons,List.length_nil,Nat.zero_add,Nat.reduceAdd,List.replicate,List.cons_append,List.nil_append,Vq,Qd,wC,wNil,Qx,wRet,wTup,sz0,true_and,wSet,Qs,Qd0,Qao,Qd1,Qce,Qi1,wSt,X5,wAOf,wOr,Yl,Jz,reduceIte,r_bl,wBin,X8,Vo,Zg,Qia,isiD,Zh,look,List.set_cons_succ,List.set_cons_zero,Qp,U9,Q3,BEq.rfl,Bool.not_true,Bool.false_eq_true]
   by_cases h0:x=Str.ofString "0"
   ·simp only [decide_eq_true h0,reduceIte]
    exact h1 [] (by unfold LD;rw [if_pos h0])
   ·simp only [decide_eq_false h0,Bool.false_eq_true,reduceIte]
    refine ⟨x,rfl,ho,?_⟩
    simp only [Qv6,Qju]
    have hwl:=Qi0 (x:=x)
    have s0:=Qc2 (xs:=wbs x) (a:=0) (by omega)
    have s1:=Qc2 (xs:=wbs x) (a:=1) (by omega)
    rw [show ((0:Nat):Int)=0 from rfl] at s0
    rw [show ((1:Nat):Int)=1 from rfl] at s1
    rw [Qd9,Qd9,Qmp]
    have hpl:=Qr9 (x:=x)
    refine ⟨Za,by decide,by decide,by rw [List.length_map];exact Nat.le_of_lt (Jd (by omega)),Za,by decide,by decide,by rw [List.length_map];exact Nat.le_of_lt (Jd (by omega)),Za,Za,?_⟩
    show Qp6 spl2 ((prs x).map λp=>.tup [.str p.1,.str p.2]) _ _ _ _ _
    -- what the law reckons of the text
    have good:∀ts,LD x=some ts->prs x=ts.map (λt=>(sg t.2,tm t))/\Is ts/\x=S24.tx ts:=λts hts=>by
     obtain ⟨hi,hx⟩:=Qqb.mp hts
     refine ⟨?_,hi,hx⟩
     cases ts with
     | nil=>exact absurd hx h0
     | cons t r=>rw [hx];exact Qwp (hi.1 t (by simp))
    have bad:(∀ts,LD x=some ts->False)->kx (nt 0):=λhb=>h2 (by
     cases q:LD x with
     | none=>rfl
     | some ts=>exact absurd q λz=>hb ts q)
    refine ⟨λj ys=>∃ts:List (Int × Int),ys=ts.map two/\ts.length=j/\∀i,i<j->∃p t,(prs x)[i]? = some p/\ts[i]? = some t/\rt p.1 p.2=some t,⟨[],rfl,rfl,λi hi=>by omega⟩,?_,?_⟩
    ·rintro j d ys hd ⟨ts,rfl,htl,hts⟩
     rw [List.getElem?_map] at hd
     obtain ⟨p,hp,rfl⟩:=Option.map_eq_some_iff.mp hd
     have hj:=(List.getElem?_eq_some_iff.mp hp).1
     refine ⟨by rw [List.length_map];exact Jd (by omega),?_⟩
     show spl2 _ _
     unfold spl2
     simp only [Ue,Qd,List.map_cons,List.map_nil,List.cons_append,List.nil_append,wNil,Jz,look,Qp,Qjy]
     refine ⟨p.1,p.2,rfl,Qwq ho (List.mem_of_getElem? hp),λt ht=>?_,λhn=>bad λts' hts'=>?_⟩
     ·refine ⟨ts++[t],by rw [List.map_append];rfl,by simp;omega,λi hi=>?_⟩
      rcases Nat.lt_or_ge i j with z | z
      ·obtain ⟨p',t',a,b,c⟩:=hts i z
       exact ⟨p',t',a,by rw [List.getElem?_append_left (by omega)];exact b,c⟩
      ·have:i=j:=by omega
       subst this
       exact ⟨p,t,hp,by rw [← htl];simp,ht⟩
     ·obtain ⟨e,hi,_⟩:=good ts' hts'
      rw [e,List.getElem?_map] at hp
      obtain ⟨t,ht,rfl⟩:=Option.map_eq_some_iff.mp hp
      have:=Qu5 (hi.1 t (List.mem_of_getElem? ht))
      have hn:rt (sg t.2) (tm t)=none:=hn
      rw [this] at hn;cases hn
    ·rintro ys ⟨ts,rfl,htl,hts⟩
     rw [List.length_map] at htl hts
     refine ⟨by rw [List.length_map];exact Nat.le_of_lt (Jd (by omega)),?_⟩
     have same:∀ts',LD x=some ts'->ts'=ts:=λts' h'=>by
      obtain ⟨e,hi,_⟩:=good ts' h'
      have hl':ts'.length=ts.length:=by rw [htl,e,List.length_map]
      apply List.ext_getElem? 
      intro i
      rcases Nat.lt_or_ge i ts.length with z | z
      ·obtain ⟨p,t,a,b,c⟩:=hts i (by omega)
       rw [e,List.getElem?_map] at a
       obtain ⟨t',ht',rfl⟩:=Option.map_eq_some_iff.mp a
       have:=Qu5 (hi.1 t' (List.mem_of_getElem? ht'))
       have c:rt (sg t'.2) (tm t')=some t:=c
       rw [this] at c
       rw [ht',b,c]
      ·rw [List.getElem?_eq_none (by omega),List.getElem?_eq_none (by omega)]
     have pol:∀ts',LD x=some ts'->isP ts=true/\x=S24.tx ts:=λts' h'=>by
      obtain ⟨_,hi,hx⟩:=good ts' h'
      have:=same ts' h'
      subst this
      refine ⟨?_,hx⟩
      unfold isP
      rw [Bool.and_eq_true]
      refine ⟨List.all_eq_true.mpr λt ht=>?_,Qjl.mpr hi.2⟩
      have:=(hi.1 t ht).n0
      unfold ntz
      rw [decide_eq_false this];rfl
     simp only [List.set_cons_succ,List.set_cons_zero,look,Qp,Qg4,V6,D.pure,true_and]
     refine ⟨ts,rfl,by omega,?_⟩
     cases hP:isP ts with
     | false =>
      simp only [Zh,Bool.not_false,reduceIte]
      exact ⟨smI (i:=0) (by omega),bad λts' h'=>by rw [(pol ts' h').1] at hP;cases hP⟩
     | true =>
      have hP':=hP
      unfold isP at hP'
      rw [Bool.and_eq_true] at hP'
      have hTm:∀t∈ts,Tm t:=λt ht=>by
       obtain ⟨i,hi,e⟩:=List.getElem_of_mem ht
       obtain ⟨p,t',a,b,c⟩:=hts i (by omega)
       rw [List.getElem?_eq_getElem hi,e] at b
       cases b
       obtain ⟨q1,q2⟩:=Qz8 c
       have:=List.all_eq_true.mp hP'.1 t ht
       unfold ntz at this
       exact ⟨by simpa using this,q1,q2⟩
      have hUp:=Qjl.mp hP'.2
      simp only [Zh,Bool.not_true,Bool.false_eq_true,reduceIte]
      refine ⟨ts,rfl,⟨hTm,hUp,by omega⟩,?_⟩
      simp only [Qm6,Q3]
      by_cases hx:S24.tx ts=x
      ·simp only [decide_eq_true hx,Bool.not_true,Bool.false_eq_true,reduceIte]
       exact h1 ts (Qqb.mpr ⟨⟨hTm,hUp⟩,hx.symm⟩)
      ·simp only [decide_eq_false hx,Bool.not_false,reduceIte]
       exact ⟨smI (i:=0) (by omega),bad λts' h'=>hx (pol ts' h').2.symm⟩
def oi:Option Int->D
 | some n=>.int n
 | none=>.non
def Q9:GA:=λds k=>∃(w:Str) (l:Int),ds=[.str w,.int l]/\okc w/\k (oi (lf w l))
abbrev Yb:Stmt:=top 29
theorem Vv:FnScope ["_law_word","_law_least","_law_sign"] ["_law_word","_law_least"] (Qb Yb):=⟨rfl,rfl,rfl,by decide +kernel,rfl,by decide +kernel,by decide +kernel⟩
def Uh:Tg:={ own:=λi=>i == 2,io:=[] }
def Ud:WS:=(wSeq (wIf (wOr (wNot (Qg2 (dCmp λi j=>decide (i<j)) (dCmp λi j=>decide (i<j)) (wC (.int 0)) (Qs dLen (Qd (wVar 0) wNil)) (wC (.int 61)))) (wBl (wBin dEq (wBin dIx (wVar 0) (wC (.int 0))) (wC (.str (Str.ofString "0")))))) (wRet (wC .non)) Qx)
 (wSeq (wFor (Qcd (wVar 0)) (gN 2) (wIf (wBl (wBin (dIn true) (wVar 2) (wC (.str (Str.ofString "0123456789"))))) (wRet (wC .non)) Qx))
 (wSeq (wIf (wBl (wBin (dCmp λi j=>decide (i<j)) (Qs Qly (Qd (wVar 0) wNil)) (wVar 1))) (wRet (wC .non)) Qx)
 (wRet (Qs Qly (Qd (wVar 0) wNil))))))
theorem Qb8 (B:Bn K mg):∀(cdv:Value) (A:Around) (outer:List PySem.Env) (s:Shared) (H:Hp) (E:XK),Room 0 (A.deeper (envOfC "_law_figures" (Qb Yb) s.heap.objs.size f cdv))->SVs (cxOf CX0 P w K mg base ["_law_word","_law_least","_law_sign"] "_law_figures" (Qb Yb) f cdv A outer s H E).nox Uh (Qw Yb) Ud:=λcdv A outer s H E hr =>
  (Qf (Yc (Y3 (Qb6 (Uf (Qmt Qf8 Qf8 Qe (J1 Qbl B.nb_len Qbn (Qa (Qc 0) Qg)) Qe)) (X4 (Q0 (Zr hr.units) (Jy (Ju (Jh hr)) (Qc 0) Qe) Qo)))) (Qh (Qu Zj)) Qv)
  (Qf (Xv PassesOwn.never (Qpu (Qc 0)) (V1 (i:=2) Vv.nd) (Qh (Yc (Q0 (Qpj (Jh hr)) (Qc 2) Qo) (Qh (Qu Zj)) Qv)))
  (Qf (Yc (Q0 Qf8 (Zf Qgo B.nb_int Qcw (Qa (Qc 0) Qg)) (Qc 1)) (Qh (Qu Zj)) Qv)
  (Qh (Qu (Zf Qgo B.nb_int Qcw (Qa (Qc 0) Qg)))))))
theorem Qa5 (F:Fun K "_law_figures" "_law_figures" Yb f fd) (B:Bn K mg):FnOk P w K mg base CX0 1 f fd ["_law_word","_law_least"] (spR K Q9):=by
 refine Gp (T:=Uh) F Vv rfl (by decide) (λds kk h=>?_) (Qb8 B) (λds kk h=>?_)
 ·obtain ⟨w,l,rfl,_⟩:=h
  rfl
 ·obtain ⟨w,l,rfl,ho,k⟩:=h
  have hz:=lenZ ho
  unfold lf fig at k
  simp only [Ud,wSeq,wIf,wOr,wNot,Qg2,wC,Qs,Qd,env0,List.map_cons,List.map_nil,List.length_cons,List.length_nil,Nat.zero_add,Nat.reduceAdd,List.replicate,List.cons_append,List.nil_append,wNil,wRet,Qx,Qc9,Qcd,Jz,reduceIte,r_bl,wBin,Bool.not_false,look,Qp,Qda,Qpo ho,true_and,Qej,hz,Uv,U9,Q3,Qaz,Gy]
  have hlen:w.cps.toList.length=w.length:=(Jx w).symm
  by_cases q0:0<w.length
  ·rw [if_pos (decide_eq_true (by omega))]
   by_cases q1:w.length<61
   ·rw [if_neg (by simp;omega)]
    cases hc:w.cps.toList with
    | nil=>rw [hc] at hlen;simp at hlen;omega
    | cons c r =>
     show if decide ((⟨#[c]⟩:Str)=Str.ofString "0")=true then _ else _
     have ec:decide ((⟨#[c]⟩:Str)=Str.ofString "0")=decide (c=48):=by rw [show Str.ofString "0" = ⟨#[48]⟩ by decide,Qka]
     rw [ec]
     by_cases q2:c=48
     ·rw [if_pos (decide_eq_true q2)]
      rw [if_neg (λz=>by rw [hc,q2] at z;simp at z)] at k
      exact k
     ·rw [if_neg (by simpa using q2)]
      have no:(∃x∈w.cps.toList,Wd.dg x=false)->kk .non:=λ⟨x,hx,hd⟩=>by
       rw [if_neg (λz=>by
        have:=z.1
        simp only [Bool.and_eq_true] at this
        have:=List.all_eq_true.mp this.2.2.2 x hx
        rw [hd] at this;cases this)] at k
       exact k
      refine ⟨Vy λ_ _=>rfl,λi ρ=>(∀j,j<i->∀x,w.cps.toList[j]? = some x->Wd.dg x=true)/\∃o2:Option D,ρ=[some (.str w),some (.int l),o2],⟨λj hj=>by omega,none,rfl⟩,?_,?_⟩
      ·rintro i d ρ hd ⟨hall,o2,rfl⟩
       unfold sgn at hd
       rw [List.getElem?_map] at hd
       obtain ⟨x,hx,rfl⟩:=Option.map_eq_some_iff.mp hd
       simp only [gN,wIf,List.set_cons_succ,List.set_cons_zero,wRet,wC,Qx,r_bl,wBin,Jz,look,Qp,Qre,Q3]
       rw [StrLaws.found_one,Qpx,Bool.true_xor]
       cases hdx:Wd.dg x with
       | false=>exact no ⟨x,List.mem_of_getElem? hx,hdx⟩
       | true =>
        refine ⟨λj hj y hy=>?_,_,rfl⟩
        rcases Nat.lt_or_ge j i with z | z
        ·exact hall j z y hy
        ·rw [show j=i by omega,hx] at hy
         cases hy;exact hdx
      ·rintro ρ ⟨hall,o2,rfl⟩
       have hdig:S25.digs w=true:=List.all_eq_true.mpr λx hx=>by
        obtain ⟨j,hj,e⟩:=List.getElem_of_mem hx
        exact hall j (by unfold sgn;rw [List.length_map];exact hj) x (by rw [List.getElem?_eq_getElem hj,e])
       have hf:(decide (0<w.length) && (decide (w.length<61) && (!decide (w.cps.toList[0]? = some 48) && S25.digs w)))=true:=by
        rw [decide_eq_true q0,decide_eq_true q1,hdig,hc,decide_eq_false (by simpa using q2)];rfl
       have hN:=(Qpw (w:=w) hf).1
       rw [hf] at k
       have hl60:w.length<=640:=by omega
       simp only [wSeq,wIf,wRet,wC,Qx,Qs,Qd,wNil,Jz,r_bl,wBin,look,Qp,Qf0,hN.reads,hl60,true_and,Gy,Q3]
       by_cases q3:Wd.val w<l
       ·rw [if_pos (decide_eq_true q3)]
        rw [if_neg (λz=>z.2 q3)] at k
        exact k
       ·rw [if_neg (by simpa using q3)]
        rw [if_pos ⟨rfl,q3⟩] at k
        exact k
   ·rw [if_pos (by simp;omega)]
    rw [if_neg (λz=>by have:=z.1;simp only [Bool.and_eq_true,decide_eq_true_eq] at this;omega)] at k
    exact k
  ·rw [if_neg (by simp;omega)]
   rw [if_neg (λz=>by have:=z.1;simp only [Bool.and_eq_true,decide_eq_true_eq] at this;omega)] at k
   exact k
def Zu:GA:=λds k=>∃w:Str,ds=[.str w]/\okc w/\k (oi (lp w))
abbrev Yu:Stmt:=top 30
theorem U8:FnScope ["_law_rest","_law_number_here"] ["_law_rest"] (Qb Yu):=⟨rfl,rfl,rfl,by decide +kernel,rfl,by decide +kernel,by decide +kernel⟩
def Xu:Tg:={ own:=λi=>i == 1,io:=[] }
def Xq:WS:=(wSeq (wIf (wBl (wBin dEq (wVar 0) (wC (.str (Str.ofString ""))))) (wRet (wC (.int 1))) Qx)
 (wSeq (wIf (wBl (wBin dEq (Gu (wVar 0) (Y2 (wC (.int 2)))) (wC (.str (Str.ofString "^-"))))) (wSeq (wSet 1 (Qs Q9 (Qd (wSlF (wVar 0) (Y2 (wC (.int 2)))) (Qd (wC (.int 1)) wNil))))
 (wSeq (wIf (wBl (wBin (dIs false) (wVar 1) (wC .non))) (wRet (wC .non)) Qx)
 (wRet (wBin dSub (wC (.int 0)) (wVar 1))))) Qx)
 (wSeq (wIf (wBl (wBin dEq (wBin dIx (wVar 0) (wC (.int 0))) (wC (.str (Str.ofString "^"))))) (wRet (Qs Q9 (Qd (wSlF (wVar 0) (Y2 (wC (.int 1)))) (Qd (wC (.int 2)) wNil)))) Qx)
 (wRet (wC .non)))))
theorem Qfn (B:Bn K mg) (C__law_figures:Cal P w K mg base "_law_figures" 1 ["_law_word","_law_least"] (spR K Q9)):∀(cdv:Value) (A:Around) (outer:List PySem.Env) (s:Shared) (H:Hp) (E:XK),Room 1 (A.deeper (envOfC "_law_power" (Qb Yu) s.heap.objs.size f cdv))->SVs (cxOf CX0 P w K mg base ["_law_rest","_law_number_here"] "_law_power" (Qb Yu) f cdv A outer s H E).nox Xu (Qw Yu) Xq:=λcdv A outer s H E hr =>
  (Qf (Yc (Q0 (Zr hr.units) (Qc 0) Qo) (Qh (Qu Qe)) Qv)
  (Qf (Yc (Q0 (Zr hr.units) (Xh (Qc 0) (Jp Qe)) Qo) (Qf (Q1 (i:=1) (Jg C__law_figures (hr.mono (by decide)) (Qa (Uj (Qc 0) (Jp Qe)) (Qa Qe Qg))) U8.nd)
  (Qf (Yc (Q0 Qke (Qc 1) Zj) (Qh (Qu Zj)) Qv)
  (Qh (Qu (Qz Qeu Qe (Qc 1)))))) Qv)
  (Qf (Yc (Q0 (Zr hr.units) (Jy (Ju (Jh hr)) (Qc 0) Qe) Qo) (Qh (Qu (Jg C__law_figures (hr.mono (by decide)) (Qa (Uj (Qc 0) (Jp Qe)) (Qa Qe Qg))))) Qv)
  (Qh (Qu Zj)))))
theorem Qdj (F:Fun K "_law_power" "_law_power" Yu f fd) (B:Bn K mg) (C1:Cal P w K mg base "_law_figures" 1 ["_law_word","_law_least"] (spR K Q9)):FnOk P w K mg base CX0 2 f fd ["_law_rest"] (spR K Zu):=by
 refine Gp (T:=Xu) F U8 rfl (by decide) (λds kk h=>?_) (Qfn B C1) (λds kk h=>?_)
 ·obtain ⟨w,rfl,_⟩:=h
  rfl
 ·obtain ⟨w,rfl,ho,k⟩:=h
  have hz:=lenZ ho
  unfold lp at k
  simp only [Xq,wSeq,wIf,env0,List.map_cons,List.map_nil,List.length_cons,List.length_nil,Nat.zero_add,Nat.reduceAdd,List.replicate,List.cons_append,List.nil_append,wRet,wC,Qx,wSet,Qs,Qd,wSlF,wNil,wBin,Jz,r_bl,Vo,Zg,Gu,look,List.set_cons_succ,List.set_cons_zero,Qp,Uk,Int.reduceLE,hz,Int.reduceToNat,true_and,Qej,Uv,U9,Q3,Gf]
  by_cases h0:w=Str.ofString ""
  ·rw [if_pos (decide_eq_true h0)]
   rw [if_pos h0] at k
   exact k
  ·rw [if_neg (by simpa using h0)]
   rw [if_neg h0] at k
   by_cases h1:toS w 2=Str.ofString "^-"
   ·rw [if_pos (decide_eq_true h1)]
    rw [if_pos h1] at k
    refine ⟨_,_,rfl,Vj ho,?_⟩
    cases q:lf (J0 w 2) 1 with
    | none=>rw [q] at k;exact k
    | some n=>rw [q] at k;exact k
   ·rw [if_neg (by simpa using h1)]
    rw [if_neg h1] at k
    cases hc:w.cps.toList with
    | nil=>exact absurd (Wd.Qln hc) h0
    | cons c r =>
     show if decide ((⟨#[c]⟩:Str)=Str.ofString "^")=true then _ else _
     have ec:decide ((⟨#[c]⟩:Str)=Str.ofString "^")=decide (c=94):=by rw [show Str.ofString "^" = ⟨#[94]⟩ by decide,Qka]
     rw [ec]
     rw [hc] at k
     by_cases q2:c=94
     ·rw [if_pos (decide_eq_true q2)]
      rw [if_pos (by rw [q2];rfl)] at k
      exact ⟨_,_,rfl,Vj ho,k⟩
     ·rw [if_neg (by simpa using q2)]
      rw [if_neg (by simpa using q2)] at k
      exact k
def o2:Option (Int × Int)->D
 | some t=>two t
 | none=>.non
def Zp:GA:=λds k=>∃w:Str,ds=[.str w]/\okc w/\k (o2 (lt w))
abbrev Y6:Stmt:=top 31
theorem Yf:FnScope ["_law_word","_law_at","_law_number_here","_law_power_here"] ["_law_word"] (Qb Y6):=⟨rfl,rfl,rfl,by decide +kernel,rfl,by decide +kernel,by decide +kernel⟩
def Qar:Tg:={ own:=λi=>i == 1 || i == 2 || i == 3,io:=[] }
def Qam:WS:=(wSeq (wSet 1 (wMs Qs8 (wVar 0) (Qd (wC (.str (Str.ofString "x"))) wNil)))
 (wSeq (wSet 2 (wC (.int 1)))
 (wSeq (wSet 3 (wC (.int 0)))
 (wSeq (wIf (wBl (wBin (dCmp λi j=>decide (i<j)) (wVar 1) (wC (.int 0)))) (wSet 2 (Qs Q9 (Qd (wVar 0) (Qd (wC (.int 1)) wNil)))) (wSet 3 (Qs Zu (Qd (wSlF (wVar 0) (Y2 (wBin J6 (wVar 1) (wC (.int 1))))) wNil))))
 (wSeq (wIf (wBl (wBin (dCmp λi j=>decide (j<i)) (wVar 1) (wC (.int 0)))) (wSet 2 (Qs Q9 (Qd (Gu (wVar 0) (Y2 (wVar 1))) (Qd (wC (.int 2)) wNil)))) Qx)
 (wSeq (wIf (wOr (wBl (wBin (dIs false) (wVar 2) (wC .non))) (wBl (wBin (dIs false) (wVar 3) (wC .non)))) (wRet (wC .non)) Qx)
 (wRet (Yl (wTup (Qd (wVar 3) (Qd (wVar 2) wNil)))))))))))
theorem Qgs (B:Bn K mg) (C__law_figures:Cal P w K mg base "_law_figures" 1 ["_law_word","_law_least"] (spR K Q9)) (C__law_power:Cal P w K mg base "_law_power" 2 ["_law_rest"] (spR K Zu)):∀(cdv:Value) (A:Around) (outer:List PySem.Env) (s:Shared) (H:Hp) (E:XK),Room 2 (A.deeper (envOfC "_law_term" (Qb Y6) s.heap.objs.size f cdv))->SVs (cxOf CX0 P w K mg base ["_law_word","_law_at","_law_number_here","_law_power_here"] "_law_term" (Qb Y6) f cdv A outer s H E).nox Qar (Qw Y6) Qam:=λcdv A outer s H E hr =>
  (Qf (Q1 (i:=1) (Qe3 Qst PySem.F.slot_str_find PySem.F.type_str_find (Qc 0) (Qa Qo Qg)) Yf.nd)
  (Qf (Q1 (i:=2) Qe Yf.nd)
  (Qf (Q1 (i:=3) Qe Yf.nd)
  (Qf (Yc (Q0 Qf8 (Qc 1) Qe) (Qh (Q1 (i:=2) (Jg C__law_figures (hr.mono (by decide)) (Qa (Qc 0) (Qa Qe Qg))) Yf.nd)) (Qh (Q1 (i:=3) (Jg C__law_power (hr.mono (by decide)) (Qa (Uj (Qc 0) (Jp (Qz Q4 (Qc 1) Qe))) Qg)) Yf.nd)))
  (Qf (Yc (Q0 Qkf (Qc 1) Qe) (Qh (Q1 (i:=2) (Jg C__law_figures (hr.mono (by decide)) (Qa (Xh (Qc 0) (Jp (Qc 1))) (Qa Qe Qg))) Yf.nd)) Qv)
  (Qf (Yc (Y3 (Qb6 (Q0 Qke (Qc 2) Zj) (X4 (Q0 Qke (Qc 3) Zj)))) (Qh (Qu Zj)) Qv)
  (Qh (Qu (Yr (Ui (Qa (Qc 3) (Qa (Qc 2) Qg))))))))))))
theorem Qes (F:Fun K "_law_term" "_law_term" Y6 f fd) (B:Bn K mg) (C1:Cal P w K mg base "_law_figures" 1 ["_law_word","_law_least"] (spR K Q9)) (C2:Cal P w K mg base "_law_power" 2 ["_law_rest"] (spR K Zu)):FnOk P w K mg base CX0 3 f fd ["_law_word"] (spR K Zp):=by
 refine Gp (T:=Qar) F Yf rfl (by decide) (λds kk h=>?_) (Qgs B C1 C2) (λds kk h=>?_)
 ·obtain ⟨w,rfl,_⟩:=h
  rfl
 ·obtain ⟨w,rfl,ho,k⟩:=h
  have hz:=lenZ ho
  simp only [Qam,wSeq,wSet,wMs,env0,List.map_cons,List.map_nil,List.length_cons,List.length_nil,Nat.zero_add,Nat.reduceAdd,List.replicate,List.cons_append,List.nil_append,Qd,wC,wNil,wIf,Qs,Gu,wOr,wRet,Qx,Yl,wTup,sz2,D.pure,Qi,Bool.and_true,true_and,Jz,reduceIte,r_bl,wBin,Vo,wSlF,Qg8,look,List.set_cons_succ,List.set_cons_zero,Qp,Bool.true_and,Zg,Gf,hz,Gy,Q3,Vw,Uk,Vh]
  unfold lt at k
  generalize atS w (Str.ofString "x")=a at k ⊢
  by_cases h0:a<0
  ·rw [if_pos (decide_eq_true h0)]
   rw [if_pos h0] at k
   refine ⟨_,_,rfl,ho,?_⟩
   show if decide (0<a)=true then _ else _
   rw [if_neg (by simp;omega)]
   cases q:lf w 1 with
   | none=>rw [q] at k;exact k
   | some n=>rw [q] at k;exact ⟨rfl,k⟩
  ·rw [if_neg (by simpa using h0)]
   rw [if_neg h0] at k
   refine ⟨by omega,_,rfl,Vj ho,?_⟩
   show if decide (0<a)=true then _ else _
   by_cases h1:0<a
   ·rw [if_pos (decide_eq_true h1)]
    refine ⟨by omega,_,_,rfl,Qzv ho,?_⟩
    cases q:lp (J0 w (a+1).toNat) with
    | none =>
     rw [q] at k
     cases q2:lf (toS w a.toNat) 2 with
     | none=>exact k
     | some n=>exact k
    | some p =>
     rw [q] at k
     have k:kk (o2 (if 0<a then (lf (toS w a.toNat) 2).map λn=>(p,n) else some (p,1))):=k
     rw [if_pos h1] at k
     cases q2:lf (toS w a.toNat) 2 with
     | none=>rw [q2] at k;exact k
     | some n=>rw [q2] at k;exact ⟨rfl,k⟩
   ·rw [if_neg (by simpa using h1)]
    cases q:lp (J0 w (a+1).toNat) with
    | none=>rw [q] at k;exact k
    | some p =>
     rw [q] at k
     have k:kk (o2 (if 0<a then (lf (toS w a.toNat) 2).map λn=>(p,n) else some (p,1))):=k
     rw [if_neg h1] at k
     exact ⟨rfl,k⟩
def oL:Option (List (Int × Int))->D
 | some ts=>.tup (ts.map two)
 | none=>.non
def V2:GA:=λds k=>∃x:Str,ds=[.str x]/\okc x/\k (oL (LD x))
abbrev Zn:Stmt:=top 32
theorem Yh:FnScope ["_law_text_here","_law_words","_law_sign","_law_found","_law_k","_law_term_here"] ["_law_text_here"] (Qb Zn):=⟨rfl,rfl,rfl,by decide +kernel,rfl,by decide +kernel,by decide +kernel⟩
def Qci:Tg:={ own:=λi=>i == 1 || i == 2 || i == 3 || i == 4 || i == 5,io:=[] }
def Qcc:WS:=(wSeq (wIf (wBl (wBin dEq (wVar 0) (wC (.str (Str.ofString "0"))))) (wRet (wTup wNil)) Qx)
 (wSeq (wSet 1 (wMs Xg (wVar 0) (Qd (wC (.str (Str.ofString " "))) wNil)))
 (wSeq (wSet 2 (wC (.int 1)))
 (wSeq (wIf (wBl (wBin dEq (Gu (wBin dIx (wVar 1) (wC (.int 0))) (Y2 (wC (.int 1)))) (wC (.str (Str.ofString "-"))))) (wSeq (wSet 2 (wUn dNeg (wC (.int 1))))
 (Xr 1 (wSlF (wBin dIx (wVar 1) (wC (.int 0))) (Y2 (wC (.int 1)))) (wC (.int 0)))) Qx)
 (wSeq (wSet 3 (wLst wNil))
 (wSeq (wFor (Qfo (Qd (Qs dLen (Qd (wVar 1) wNil)) wNil)) (gN 4) (wSeq (wIf (wAnd (wBl (wBin dEq (wBin dMod (wVar 4) (wC (.int 2))) (wC (.int 1)))) (wBl (wBin (dIn true) (wBin dIx (wVar 1) (wVar 4)) (wTup (Qd (wC (.str (Str.ofString "+"))) (Qd (wC (.str (Str.ofString "-"))) wNil)))))) (wRet (wC .non)) Qx)
 (wIf (wBl (wBin dEq (wBin dMod (wVar 4) (wC (.int 2))) (wC (.int 1)))) (wSet 2 (wBin dIx (wLst (Qd (wC (.int 1)) (Qd (wUn dNeg (wC (.int 1))) wNil))) (Qs dInt (Qd (wBin dEq (wBin dIx (wVar 1) (wVar 4)) (wC (.str (Str.ofString "-")))) wNil)))) (wSeq (wSet 5 (Qs Zp (Qd (wBin dIx (wVar 1) (wVar 4)) wNil)))
 (wSeq (wIf (wOr (wBl (wBin (dIs false) (wVar 5) (wC .non))) (wAnd (wBl (wBin (dCmp λi j=>decide (j<i)) (Qs dLen (Qd (wVar 3) wNil)) (wC (.int 0)))) (wBl (wBin (dCmp λi j=>decide (i<=j)) (wBin dIx (wVar 5) (wC (.int 0))) (wBin dIx (wBin dIx (wVar 3) (wUn dNeg (wC (.int 1)))) (wC (.int 0))))))) (wRet (wC .non)) Qx)
 (Qbv (wMt 3 "list" Qbg (Qd (wTup (Qd (Yl (wBin dIx (wVar 5) (wC (.int 0)))) (Qd (wBin dMul (wVar 2) (wBin dIx (wVar 5) (wC (.int 1)))) wNil))) wNil))))))))
 (wRet (wBin dIx (wLst (Qd (wC .non) (Qd (Qs Qbj (Qd (wVar 3) wNil)) wNil))) (wBin dMod (Qs dLen (Qd (wVar 1) wNil)) (wC (.int 2)))))))))))
theorem Qis (B:Bn K mg) (C__law_term:Cal P w K mg base "_law_term" 3 ["_law_word"] (spR K Zp)):∀(cdv:Value) (A:Around) (outer:List PySem.Env) (s:Shared) (H:Hp) (E:XK),Room 3 (A.deeper (envOfC "_law_due" (Qb Zn) s.heap.objs.size f cdv))->SVs (cxOf CX0 P w K mg base ["_law_text_here","_law_words","_law_sign","_law_found","_law_k","_law_term_here"] "_law_due" (Qb Zn) f cdv A outer s H E).nox Qci (Qw Zn) Qcc:=λcdv A outer s H E hr =>
  (Qf (Yc (Q0 (Zr hr.units) (Qc 0) Qo) (Qh (Qu (Ui Qg))) Qv)
  (Qf (Q1 (i:=1) (Qe3 Qa9 PySem.F.slot_str_split PySem.F.type_str_split (Qc 0) (Qa Qo Qg)) Yh.nd)
  (Qf (Q1 (i:=2) Qe Yh.nd)
  (Qf (Yc (Q0 (Zr hr.units) (Xh (Jy (Ju (Jh hr)) (Qc 1) Qe) (Jp Qe)) Qo) (Qf (Q1 (i:=2) (Qob Qd5 Qe) Yh.nd)
  (Qh (Qc0 (i:=1) (Jh hr) (Uj (Jy (Ju (Jh hr)) (Qc 1) Qe) (Jp Qe)) Qe))) Qv)
  (Qf (Q1 (i:=3) (Yw Qg) Yh.nd)
  (Qf (Xv PassesOwn.never (Gn B.nb_range (Qa (J1 Qbl B.nb_len Qbn (Qa (Qc 1) Qg)) Qg)) (V1 (i:=4) Yh.nd) (Qf (Yc (Y3 (Qff (Q0 (Zr hr.units) (Qz Xz (Qc 4) Qe) Qe) (Qbm (Q0 (Qpj (Jh hr)) (Jy (Ju (Jh hr)) (Qc 1) (Qc 4)) (Ui (Qa Qo (Qa Qo Qg))))))) (Qh (Qu Zj)) Qv)
  (Qh (Yc (Q0 (Zr hr.units) (Qz Xz (Qc 4) Qe) Qe) (Qh (Q1 (i:=2) (Jy (Ju (Jh hr)) (Yw (Qa Qe (Qa (Qob Qd5 Qe) Qg))) (Zf Qp7 B.nb_int Qcw (Qa (X3 (Zr hr.units) (Jy (Ju (Jh hr)) (Qc 1) (Qc 4)) Qo) Qg))) Yh.nd)) (Qf (Q1 (i:=5) (Jg C__law_term (hr.mono (by decide)) (Qa (Jy (Ju (Jh hr)) (Qc 1) (Qc 4)) Qg)) Yh.nd)
  (Qf (Yc (Y3 (Qb6 (Q0 Qke (Qc 5) Zj) (X4 (Y3 (Qff (Q0 Qkf (J1 Qbl B.nb_len Qbn (Qa (Qc 3) Qg)) Qe) (Qbm (Q0 Q1e (Jy (Ju (Jh hr)) (Qc 5) Qe) (Jy (Ju (Jh hr)) (Jy (Ju (Jh hr)) (Qc 3) (Qob Qd5 Qe)) Qe)))))))) (Qh (Qu Zj)) Qv)
  (Qh (Qfw (Qtf (i:=3) Qex PySem.F.plainAttrs_list PySem.F.slot_list_append PySem.F.type_list_append (Qa (Ui (Qa (Yr (Jy (Ju (Jh hr)) (Qc 5) Qe)) (Qa (Qz Qa6 (Qc 2) (Jy (Ju (Jh hr)) (Qc 5) Qe)) Qg))) Qg))))))))))
  (Qh (Qu (Jy (Ju (Jh hr)) (Yw (Qa Zj (Qa (Zf Qds B.nb_tuple Gr (Qa (Qc 3) Qg)) Qg))) (Qz Xz (J1 Qbl B.nb_len Qbn (Qa (Qc 1) Qg)) Qe))))))))))
def dInv (ws:List Str) (v:Option (List (Int × Int))) (x:Str) (i:Nat) (ρ:PV.Env):Prop:=∃(s:Int) (f:List (Int × Int)) (o4 o5:Option D),i<=ws.length/\(s=1\/s = -1)/\f.length<=i/\lw s (i % 2 == 1) f (ws.drop i)=v/\ρ=[some (.str x),some (.lst (ws.map .str)),some (.int s),some (.lst (f.map two)),o4,o5]
def w_bd:WS:=(wSeq (wIf (wAnd (wBl (wBin dEq (wBin dMod (wVar 4) (wC (.int 2))) (wC (.int 1)))) (wBl (wBin (dIn true) (wBin dIx (wVar 1) (wVar 4)) (wTup (Qd (wC (.str (Str.ofString "+"))) (Qd (wC (.str (Str.ofString "-"))) wNil)))))) (wRet (wC .non)) Qx)
 (wIf (wBl (wBin dEq (wBin dMod (wVar 4) (wC (.int 2))) (wC (.int 1)))) (wSet 2 (wBin dIx (wLst (Qd (wC (.int 1)) (Qd (wUn dNeg (wC (.int 1))) wNil))) (Qs dInt (Qd (wBin dEq (wBin dIx (wVar 1) (wVar 4)) (wC (.str (Str.ofString "-")))) wNil)))) (wSeq (wSet 5 (Qs Zp (Qd (wBin dIx (wVar 1) (wVar 4)) wNil)))
 (wSeq (wIf (wOr (wBl (wBin (dIs false) (wVar 5) (wC .non))) (wAnd (wBl (wBin (dCmp λi j=>decide (j<i)) (Qs dLen (Qd (wVar 3) wNil)) (wC (.int 0)))) (wBl (wBin (dCmp λi j=>decide (i<=j)) (wBin dIx (wVar 5) (wC (.int 0))) (wBin dIx (wBin dIx (wVar 3) (wUn dNeg (wC (.int 1)))) (wC (.int 0))))))) (wRet (wC .non)) Qx)
 (Qbv (wMt 3 "list" Qbg (Qd (wTup (Qd (Yl (wBin dIx (wVar 5) (wC (.int 0)))) (Qd (wBin dMul (wVar 2) (wBin dIx (wVar 5) (wC (.int 1)))) wNil))) wNil)))))))
def w_en:WS:=(wRet (wBin dIx (wLst (Qd (wC .non) (Qd (Qs Qbj (Qd (wVar 3) wNil)) wNil))) (wBin dMod (Qs dLen (Qd (wVar 1) wNil)) (wC (.int 2)))))
theorem Qcy:Qcc=(wSeq (wIf (wBl (wBin dEq (wVar 0) (wC (.str (Str.ofString "0"))))) (wRet (wTup wNil)) Qx)
 (wSeq (wSet 1 (wMs Xg (wVar 0) (Qd (wC (.str (Str.ofString " "))) wNil)))
 (wSeq (wSet 2 (wC (.int 1)))
 (wSeq (wIf (wBl (wBin dEq (Gu (wBin dIx (wVar 1) (wC (.int 0))) (Y2 (wC (.int 1)))) (wC (.str (Str.ofString "-"))))) (wSeq (wSet 2 (wUn dNeg (wC (.int 1))))
 (Xr 1 (wSlF (wBin dIx (wVar 1) (wC (.int 0))) (Y2 (wC (.int 1)))) (wC (.int 0)))) Qx)
 (wSeq (wSet 3 (wLst wNil))
 (wSeq (wFor (Qfo (Qd (Qs dLen (Qd (wVar 1) wNil)) wNil)) (gN 4) w_bd)
 w_en)))))):=rfl
theorem Qk0 {w:Str}:∀{xs:List Str},inD (.str w) (xs.map D.str)=some (decide (w∈xs))
 | []=>rfl
 | x::xs=>by
  rw [List.map_cons,inD,Qk0]
  by_cases h:w=x
  ·subst h;simp
  ·have:(x == w)=false:=beq_eq_false_iff_ne.mpr λz=>h z.symm
   simp [h,this]
theorem Qr0 {n:Bool} {w:Str} {xs:List Str}:dIn n (.str w) (.tup (xs.map D.str)) k=k (.bl (xor n (decide (w∈xs)))):=by
 show oget (inD (.str w) (xs.map D.str)) _=_
 rw [Qk0];rfl
theorem Qj4:Jv x (Str.ofString " ")≠[]:=by
 unfold Jv
 rw [StrLaws.partsBetween_eq]
 obtain ⟨p,r,e⟩:=StrLaws.partsFrom_ne x (Str.ofString " ").length 0 (Builtin.Str.occurrences x (Str.ofString " ") 0 x.length (x.length+1))
 rw [e];simp
theorem Qou {α:Type} {xs:List α} {a:α}:L2.atI (xs++[a]) (-1)=some a:=by
 have hi:ixN (xs++[a]).length (-1)=some xs.length:=by
  unfold ixN
  rw [List.length_append,List.length_singleton,if_neg (by omega),if_pos (by omega)]
  congr 1
  omega
 unfold L2.atI
 rw [hi]
 simp
theorem Qtl {ws:List Str} {w:Str} (h:ws[i]? = some w):ws.drop i=w::ws.drop (i+1):=by
 obtain ⟨hi,e⟩:=List.getElem?_eq_some_iff.mp h
 rw [List.drop_eq_getElem_cons hi,e]
theorem Qho {ws:List Str} {v:Option (List (Int × Int))} {kk:D->Prop} (hw:∀w∈ws,okc w) (hl:ws.length<=6000) (hs:s=1\/s = -1) (hv:lw s false [] ws=v) (k:kk (oL v)) :
  forI (rngD 0 ws.length) (gN 4) w_bd { nx:=w_en { nx:=λ_=>kk .non,rt:=λd _=>kk d },rt:=λd _=>kk d } [some (.str x),some (.lst (ws.map .str)),some (.int s),some (.lst []),none,none]:=by
 refine ⟨dInv ws v x,⟨s,[],none,none,by omega,hs,by simp,hv,rfl⟩,?_,?_⟩
 ·rintro i d ρ hd ⟨s,f,o4,o5,hi,hs,hf,hlw,rfl⟩
  obtain ⟨hil,rfl⟩:=Qad hd
  have q:=List.getElem?_eq_getElem hil
  have ou:=hw _ (List.getElem_mem hil)
  generalize ws[i]=u at q ou
  rw [Qtl q] at hlw
  have e0:(0:Int)+(i:Int)=(i:Int):=by omega
  by_cases ho:i % 2=1
  ·have e1:decide ((i:Int) % 2=1)=true:=decide_eq_true (by omega)
   have e2:(i % 2 == 1)=true:=by rw [ho];rfl
   have e3:((i+1) % 2 == 1)=false:=by rw [show (i+1) % 2=0 by omega];rfl
   rw [e2,lw] at hlw
   simp only [gN,w_bd,wSeq,wIf,wAnd,e0,List.set_cons_succ,List.set_cons_zero,wRet,wC,Qx,wSet,wBin,wLst,Qd,wUn,wNil,List.length_cons,List.length_nil,Nat.zero_add,Nat.reduceAdd,sz2,Qs,Jz,true_and,Qh9,Int.reduceNeg,wOr,Qbv,wMt,wTup,Yl,reduceIte,r_bl,Bool.false_eq_true,look,Qp,Gx,Zv,List.getElem?_map,q,Option.map_some,U9,Qeh,Qjm,BEq.rfl,Qm7,Qeg,Gy,Q3,Int.reduceLT,Qax,Qei,e1]
   have et:D.tup [D.str (Str.ofString "+"),D.str (Str.ofString "-")] = .tup ([Str.ofString "+",Str.ofString "-"].map .str):=rfl
   rw [et,Qr0]
   by_cases u1:u=Str.ofString "+"
   ·rw [if_pos u1] at hlw
    subst u1
    simp only [show decide (Str.ofString "+" ∈ [Str.ofString "+",Str.ofString "-"])=true by decide,Bool.true_xor,Bool.not_true,Int.reduceNeg,show decide (Str.ofString "+" = Str.ofString "-")=false by decide,Bool.false_eq_true,reduceIte,Uv,List.getElem?_cons_zero,Qp,Q3]
    exact ⟨1,f,_,_,by omega,.inl rfl,by omega,by rw [e3];exact hlw,rfl⟩
   ·rw [if_neg u1] at hlw
    by_cases u2:u=Str.ofString "-"
    ·rw [if_pos u2] at hlw
     subst u2
     simp only [show decide (Str.ofString "-" ∈ [Str.ofString "+",Str.ofString "-"])=true by decide,Bool.true_xor,Bool.not_true,Int.reduceNeg,decide_true,reduceIte,Qb9,List.getElem?_cons_succ,List.getElem?_cons_zero,Qp,Q3,Bool.false_eq_true]
     exact ⟨-1,f,_,_,by omega,.inr rfl,by omega,by rw [e3];exact hlw,rfl⟩
    ·rw [if_neg u2] at hlw
     simp only [show decide (u∈[Str.ofString "+",Str.ofString "-"])=false from decide_eq_false (by simp [u1,u2]),Bool.true_xor,Bool.not_false,Int.reduceNeg,Q3,reduceIte]
     rw [← hlw] at k
     exact k
  ·have e1:decide ((i:Int) % 2=1)=false:=decide_eq_false (by omega)
   have e2:(i % 2 == 1)=false:=by rw [show i % 2=0 by omega];rfl
   have e3:((i+1) % 2 == 1)=true:=by rw [show (i+1) % 2=1 by omega];rfl
   rw [e2,lw] at hlw
   simp only [gN,w_bd,wSeq,wIf,wAnd,e0,List.set_cons_succ,List.set_cons_zero,wRet,wC,Qx,wSet,wBin,wLst,Qd,wUn,wNil,List.length_cons,List.length_nil,Nat.zero_add,Nat.reduceAdd,sz2,Qs,Jz,true_and,Qh9,Int.reduceNeg,wOr,Qbv,wMt,wTup,Yl,reduceIte,r_bl,Bool.false_eq_true,look,Qp,Gx,Zv,List.getElem?_map,q,Option.map_some,U9,Qeh,Qjm,BEq.rfl,Qm7,Qeg,Gy,Q3,Int.reduceLT,Qax,Qei,e1]
   refine ⟨u,rfl,ou,?_⟩
   cases ht:lt u with
   | none =>
    rw [ht] at hlw
    have hlw:none=v:=hlw
    rw [← hlw] at k
    exact k
   | some t =>
    rw [ht] at hlw
    have hlw:(if ∃l,f.getLast? = some l/\t.1<=l.1 then none else lw s true (f++[(t.1,s*t.2)]) (ws.drop (i+1)))=v:=hlw
    simp only [o2,two,List.length_map,Int.reduceNeg,Qc8,Qb9,List.getElem?_cons_succ,List.getElem?_cons_zero,Qp,Uv,D.pure,true_and,Qf1,Q3,Bool.false_eq_true,reduceIte]
    have fin:¬(∃l,f.getLast? = some l/\t.1<=l.1)->dMul (.int s) (.int t.2) λd=>f.length<sizeLine/\dInv ws v x (i+1) [some (.str x),some (.lst (ws.map .str)),some (.int s),some (.lst (f.map two++[.tup [.int t.1,d]])),some (.int (i:Int)),some (.tup [.int t.1,.int t.2])]:=λhn=>by
     rw [if_neg hn] at hlw
     have go:f.length<sizeLine/\dInv ws v x (i+1) [some (.str x),some (.lst (ws.map .str)),some (.int s),some (.lst (f.map two++[.tup [.int t.1,.int (s*t.2)]])),some (.int (i:Int)),some (.tup [.int t.1,.int t.2])]:=by
      refine ⟨Jd (by omega),s,f++[(t.1,s*t.2)],some (.int (i:Int)),some (.tup [.int t.1,.int t.2]),by omega,hs,by simp;omega,by rw [e3];exact hlw,?_⟩
      rw [List.map_append];rfl
     rcases hs with rfl | rfl
     ·simp only [Int.reduceNeg,Int.reduceLT,Qef];exact go
     ·simp only [Int.reduceNeg,Int.reduceLT,Qef];exact go
    rcases List.eq_nil_or_concat f with rfl | ⟨f',l,rfl⟩
    ·rw [if_neg (by simp)]
     exact fin λ⟨l,h,_⟩=>by cases h
    ·rw [List.concat_eq_append] at *
     rw [if_pos (decide_eq_true (by simp)),List.map_append,List.map_cons,List.map_nil,Qou]
     rw [List.map_append,List.map_cons,List.map_nil] at fin
     simp only [two,Qp,Qc8,Uv,List.getElem?_cons_zero,Gy,Q3] at fin ⊢
     by_cases hc:t.1<=l.1
     ·rw [if_pos (decide_eq_true hc)]
      rw [if_pos ⟨l,by simp,hc⟩] at hlw
      rw [← hlw] at k
      exact k
     ·rw [if_neg (by simpa using hc)]
      exact fin λ⟨l',h,h2⟩=>by
       rw [List.getLast?_concat] at h
       cases h
       exact hc h2
 ·rintro ρ ⟨s,f,o4,o5,hi,hs,hf,hlw,rfl⟩
  rw [Y8] at hi hlw hf
  rw [List.drop_eq_nil_iff.mpr (Nat.le_refl _),lw] at hlw
  simp only [w_en,wRet,wBin,wLst,Qd,wC,Qs,wNil,List.length_cons,List.length_nil,Nat.zero_add,Nat.reduceAdd,sz2,Jz,true_and,look,Qp,Qeg,List.length_map,Int.reduceLT,Qax,Gx,Qg4]
  refine ⟨V6,?_⟩
  by_cases ho:ws.length % 2=1
  ·rw [show ((ws.length % 2 == 1)=true) by rw [ho];rfl,if_pos rfl] at hlw
   rw [show (ws.length:Int) % 2=1 by omega]
   rw [← hlw] at k
   exact k
  ·rw [show ((ws.length % 2 == 1)=false) by rw [show ws.length % 2=0 by omega];rfl,if_neg (by decide)] at hlw
   rw [show (ws.length:Int) % 2=0 by omega]
   rw [← hlw] at k
   exact k
theorem Qf6 (F:Fun K "_law_due" "_law_due" Zn f fd) (B:Bn K mg) (C1:Cal P w K mg base "_law_term" 3 ["_law_word"] (spR K Zp)):FnOk P w K mg base CX0 4 f fd ["_law_text_here"] (spR K V2):=by
 refine Gp (T:=Qci) F Yh rfl (by decide) (λds kk h=>?_) (Qis B C1) (λds kk h=>?_)
 ·obtain ⟨x,rfl,_⟩:=h
  rfl
 ·obtain ⟨x,rfl,ho,k⟩:=h
  rw [Qcy]
  simp only [wSeq,wIf,env0,List.map_cons,List.map_nil,List.length_cons,List.length_nil,Nat.zero_add,Nat.reduceAdd,List.replicate,List.cons_append,List.nil_append,wRet,wTup,wNil,sz0,true_and,Qx,wSet,wMs,Qd,wC,wUn,Xr,wSlF,wBin,wLst,Qc9,Qed,Qs,Jz,Vo,Zg,Qh9,Int.reduceNeg,r_bl,Gu,look,List.set_cons_succ,List.set_cons_zero,Option.isSome_some,Qp,Vh,U9,Q3]
  by_cases h0:x=Str.ofString "0"
  ·rw [if_pos (decide_eq_true h0)]
   unfold LD at k
   rw [if_pos h0] at k
   exact k
  ·rw [if_neg (by simpa using h0)]
   unfold LD at k
   rw [if_neg h0] at k
   refine Qc3 ho ?_
   have hpl:=Zo (x:=x)
   have hlen:=ho.len
   have hne:∀w∈Jv x (Str.ofString " "),okc w:=λw hw=>Qdc ho hw
   generalize hp:Jv x (Str.ofString " ")=ps at k hpl hne ⊢
   cases ps with
   | nil=>exact absurd hp Qj4
   | cons w r =>
    have ow:=hne w (by simp)
    have hz:=lenZ ow
    simp only [List.map_cons,Int.reduceNeg,Qjo,List.length_cons,Nat.zero_lt_succ,Qs2,Qeg,List.length_set,Qaw,Int.reducePow,Int.toNat_natCast,Qp,List.set_cons_zero,Gx,Uv,List.getElem?_cons_zero,Uk,Int.reduceLE,hz,D.pure,Int.reduceToNat,true_and,Gf,U9,Q3]
    rw [List.length_cons] at hpl
    have hr:∀w∈r,okc w:=λw hw=>hne w (by simp [hw])
    rw [List.length_map]
    by_cases h1:toS w 1=Str.ofString "-"
    ·rw [if_pos (decide_eq_true h1)]
     have k:kk (oL (if toS w 1=Str.ofString "-" then lw (-1) false [] (J0 w 1::r) else lw 1 false [] (w::r))):=k
     rw [if_pos h1] at k
     refine ⟨by omega,by omega,Vx,?_⟩
     exact Qho (ws:=J0 w 1::r) (λu hu=>by
      rcases List.mem_cons.mp hu with rfl | hu
      ·exact Vj ow
      ·exact hr u hu) (by simp;omega) (.inr rfl) rfl k
    ·rw [if_neg (by simpa using h1)]
     have k:kk (oL (if toS w 1=Str.ofString "-" then lw (-1) false [] (J0 w 1::r) else lw 1 false [] (w::r))):=k
     rw [if_neg h1] at k
     refine ⟨by omega,by omega,Vx,?_⟩
     exact Qho (ws:=w::r) hne (by simp;omega) (.inl rfl) rfl k
def lo (w:Str):Prop:=∀c∈w.cps.toList,c<128
theorem Qco {a b:Str} (ha:lo a) (hb:lo b):lo (a++b):=λc hc=>by
 rw [Qn] at hc
 rcases List.mem_append.mp hc with h | h
 ·exact ha c h
 ·exact hb c h
theorem Qxo (h:0<=n):lo (nw n):=λc hc=>by have:=Qhf h hc;omega
theorem Qsv (p:Int):lo (nw p):=by
 by_cases h:p<0
 ·rw [Qev h]
  exact Qco (by unfold lo;decide) (Qxo (by omega))
 ·exact Qxo (by omega)
theorem Qxn (t:Int × Int):lo (tm t):=by
 unfold tm fore hind
 split
 ·exact Qsv _
 ·refine Qco (Qco ?_ (by unfold lo;decide)) ?_
  ·split
   ·unfold lo;decide
   ·exact Qsv _
  ·split
   ·unfold lo;decide
   ·exact Qco (by unfold lo;decide) (Qsv _)
theorem Qx2:∀{l:List (List Nat)},(∀a∈l,∀c∈a,c<128)->∀c∈S03.jl 32 l,c<128
 | [],_,c,hc=>by cases hc
 | [a],h,c,hc=>h a (by simp) c hc
 | a::b::r,h,c,hc=>by
  have e:S03.jl 32 (a::b::r)=a++32::S03.jl 32 (b::r):=rfl
  rw [e] at hc
  rcases List.mem_append.mp hc with q | q
  ·exact h a (by simp) c q
  ·rcases List.mem_cons.mp q with rfl | q
   ·omega
   ·exact Qx2 (λx hx=>h x (List.mem_cons_of_mem _ hx)) c q
theorem Qnu {ws:List Str} (h:∀w∈ws,lo w):lo (glued (Str.ofString " ") ws):=λc hc=>by
 rw [StrLaws.glued_eq_join,S03.Qmg] at hc
 rw [S03.Qbd] at hc
 exact Qx2 (λa ha c hc=>by obtain ⟨w,hw,rfl⟩:=List.mem_map.mp ha;exact h w hw c hc) c hc
theorem Q1i (ts:List (Int × Int)):lo (S24.tx ts):=by
 cases ts with
 | nil=>show lo (Str.ofString "0");unfold lo;decide
 | cons t r =>
  refine Qco ?_ (Qnu λw hw=>?_)
  ·unfold S24.fst;split <;> (unfold lo;decide)
  ·rcases List.mem_cons.mp hw with rfl | hw
   ·exact Qxn t
   ·obtain ⟨u,_,h⟩:=List.mem_flatMap.mp hw
    rcases List.mem_cons.mp h with rfl | h
    ·unfold sg;split <;> (unfold lo;decide)
    ·rw [List.mem_singleton.mp h];exact Qxn u
theorem Qxq (h:Pl ts) (hl:ts.length<=8):(S24.tx ts).length<=1970:=by
 cases ts with
 | nil=>show (Str.ofString "0").length<=_;decide
 | cons t r =>
  show (S24.fst t.2++glued (Str.ofString " ") (tm t::S24.ws r)).length<=_
  rw [List.length_cons] at hl
  have hs:∀w∈tm t::S24.ws r,w.length<=130:=λw hw=>by
   rcases List.mem_cons.mp hw with rfl | hw
   ·exact Qja (h.tm t List.mem_cons_self)
   ·exact Qgy (λu hu=>h.tm u (List.mem_cons_of_mem _ hu)) w hw
  have hl2:(tm t::S24.ws r).length=2*r.length+1:=by rw [List.length_cons,Qca]
  have:=Qpv (c:=Str.ofString " ") (by decide) hs
  rw [hl2] at this
  have hf:(S24.fst t.2).length<=1:=by unfold S24.fst;split <;> decide
  rw [Str.length_append]
  omega
def tl (n:Nat) (x:Str):Prop:=lo x/\x.length<=n
theorem U3 (hx:tl a x) (hy:tl b y):tl (a+b) (x++y):=⟨Qco hx.1 hy.1,by rw [Str.length_append];have:=hx.2;have:=hy.2;omega⟩
theorem Qjb {k:Nat} (h:tl a x):tl a (J0 x k):=⟨λc hc=>h.1 c (List.mem_of_mem_drop hc),by have:=h.2;rw [Jx] at this ⊢;rw [Jt,List.length_drop];omega⟩
theorem Qzy {k:Nat} (h:tl a x):tl a (toS x k):=⟨λc hc=>h.1 c (List.mem_of_mem_take hc),by have:=h.2;rw [Jx] at this ⊢;rw [Y9,List.length_take];omega⟩
theorem Vr (h:tl a x) (hab:a<=b):tl b x:=⟨h.1,Nat.le_trans h.2 hab⟩
def tlb (n:Nat) (x:Str):Bool:=x.cps.toList.all (λc=>decide (c<128)) && decide (x.length<=n)
theorem Qd7 {n:Nat} (h:tlb n x=true):tl n x:=by
 unfold tlb at h
 simp only [Bool.and_eq_true,List.all_eq_true,decide_eq_true_eq] at h
 exact h
def menu:List Str:=["x","^","-","+"," ","0","1","12","x^2"," + "," - ","3x","x^-1","-x","01","x^0","y","X"].map Str.ofString
theorem Qqw {r:Int} (h0:0<=r) (h1:r<15) (hk:∀u,tl 1 u->k (.str u)):dIx (.str (Str.ofString "0123456789x^-+ ")) (.int r) k:=by
 rw [Qej]
 refine ⟨by decide,Qae h0 (by rw [show (Str.ofString "0123456789x^-+ ").cps.toList.length=15 by decide];exact h1) λc hc=>hk _ ⟨λc' hc'=>?_,Nat.le_refl 1⟩⟩
 have hc':c'=c:=by simpa using hc'
 rw [hc']
 have:∀c∈(Str.ofString "0123456789x^-+ ").cps.toList,c<128:=by decide
 exact this c hc
def Ve:GI:=λds k=>∃c:Int,ds=[rowD c 0]/\∀(c' n':Int) (x:Str),tl 3950 x->k (.str x) (rowD c' n')
abbrev Y5:Stmt:=top 28
theorem Jk:FnScope ["_law_row","_law_menu","_law_found","_law_k","_law_at","_law_sign","_law_some"] ["_law_row"] (Qb Y5):=⟨rfl,rfl,rfl,by decide +kernel,rfl,by decide +kernel,by decide +kernel⟩
def Qaq:Tg:={ own:=λi=>i == 0 || i == 1 || i == 2 || i == 3 || i == 4 || i == 5 || i == 6,io:=[0] }
def Qal:WS:=(wSeq (wIf (wBl (wBin dEq (Jr 0 Qm (Yx 0 (Qd (wC (.int 2)) wNil))) (wC (.int 0)))) (wSeq (wSet 1 (Qfp (wLst (Qd (wC (.str (Str.ofString "x"))) (Qd (wC (.str (Str.ofString "^"))) (Qd (wC (.str (Str.ofString "-"))) (Qd (wC (.str (Str.ofString "+"))) (Qd (wC (.str (Str.ofString " "))) (Qd (wC (.str (Str.ofString "0"))) (Qd (wC (.str (Str.ofString "1"))) (Qd (wC (.str (Str.ofString "12"))) (Qd (wC (.str (Str.ofString "x^2"))) (Qd (wC (.str (Str.ofString " + "))) (Qd (wC (.str (Str.ofString " - "))) (Qd (wC (.str (Str.ofString "3x"))) (Qd (wC (.str (Str.ofString "x^-1"))) (Qd (wC (.str (Str.ofString "-x"))) (Qd (wC (.str (Str.ofString "01"))) (Qd (wC (.str (Str.ofString "x^0"))) (Qd (wC (.str (Str.ofString "y"))) (Qd (wC (.str (Str.ofString "X"))) wNil)))))))))))))))))))))
 (wSeq (wSet 2 (wC (.str (Str.ofString ""))))
 (wSeq (wFor (Qfo (Qd (Jr 0 Qm (Yx 0 (Qd (wC (.int 10)) wNil))) wNil)) (gN 3) (wSet 2 (wBin J6 (wBin J6 (Yl (wVar 2)) (wBin dIx (Yl (wVar 1)) (Jr 0 Qm (Yx 0 (Qd (wC (.int 18)) wNil))))) (wBin dIx (wLst (Qd (wC (.str (Str.ofString ""))) (Qd (wC (.str (Str.ofString " "))) wNil))) (Qs dInt (Qd (wBin dEq (Jr 0 Qm (Yx 0 (Qd (wC (.int 5)) wNil))) (wC (.int 0))) wNil))))))
 (wRet (Yl (wVar 2)))))) Qx)
 (wSeq (wSet 2 (Qs Qy (Qd (Jr 0 J9 (Yx 0 (Qd (wBin dIx (wLst (Qd (wC (.int 50)) (Qd (wBin dSub (wBin dPow (wC (.int 10)) (wC (.int 60))) (wC (.int 1))) wNil))) (Jr 0 Qm (Yx 0 (Qd (wC (.int 2)) wNil)))) (Qd (wC (.int 5)) wNil)))) wNil)))
 (wSeq (wSet 4 (Jr 0 Qm (Yx 0 (Qd (wBin J6 (Qs dLen (Qd (wVar 2) wNil)) (wC (.int 1))) wNil))))
 (wSeq (wSet 5 (wBin dIx (wC (.str (Str.ofString "0123456789x^-+ "))) (Jr 0 Qm (Yx 0 (Qd (wC (.int 15)) wNil)))))
 (wSeq (wSet 6 (wLst (Qd (Yl (wVar 2)) (Qd (wBin J6 (wVar 2) (wVar 2)) (Qd (wBin J6 (wC (.str (Str.ofString " "))) (wVar 2)) (Qd (wBin J6 (Gu (wVar 2) (Y2 (wVar 4))) (wSlF (wVar 2) (Y2 (wBin J6 (wVar 4) (wC (.int 1)))))) wNil))))))
 (wSeq (wSet 6 (wBin J6 (wVar 6) (wLst (Qd (wBin J6 (wBin J6 (Gu (wVar 2) (Y2 (wVar 4))) (wVar 5)) (wSlF (wVar 2) (Y2 (wVar 4)))) (Qd (wBin J6 (wBin J6 (Gu (wVar 2) (Y2 (wVar 4))) (wVar 5)) (wSlF (wVar 2) (Y2 (wBin J6 (wVar 4) (wC (.int 1)))))) wNil)))))
 (wRet (Yl (Qms 6 dIx (Jr 0 Qm (Yx 0 (Qd (wC (.int 6)) wNil))))))))))))
theorem Qgr (B:Bn K mg) (C_shown_polynomial:Cal P w K mg base "shown_polynomial" 3 ["one"] (spR K Qy)) (C__law_take:Cal P w K mg base "_law_take" 1 ["_law_row","_law_base"] (spI K 0 Qm)) (C__law_polynomial:Cal P w K mg base "_law_polynomial" 3 ["_law_row","_law_most","_law_terms"] (spI K 0 J9)):∀(cdv:Value) (A:Around) (outer:List PySem.Env) (s:Shared) (H:Hp) (E:XK),Room 3 (A.deeper (envOfC "_law_text" (Qb Y5) s.heap.objs.size f cdv))->SVs (cxOf CX0 P w K mg base ["_law_row","_law_menu","_law_found","_law_k","_law_at","_law_sign","_law_some"] "_law_text" (Qb Y5) f cdv A outer s H E).nox Qaq (Qw Y5) Qal:=λcdv A outer s H E hr =>
  (Qf (Yc (Q0 (Zr hr.units) (Q6 C__law_take (hr.mono (by decide)) (J2 (i:=0) (Qa Qe Qg))) Qe) (Qf (Q1 (i:=1) (Qlk (Yw (Qa Qo (Qa Qo (Qa Qo (Qa Qo (Qa Qo (Qa Qo (Qa Qo (Qa Qo (Qa Qo (Qa Qo (Qa Qo (Qa Qo (Qa Qo (Qa Qo (Qa Qo (Qa Qo (Qa Qo (Qa Qo Qg)))))))))))))))))))) Jk.nd)
  (Qf (Q1 (i:=2) Qo Jk.nd)
  (Qf (Xv PassesOwn.never (Gn B.nb_range (Qa (Q6 C__law_take (hr.mono (by decide)) (J2 (i:=0) (Qa Qe Qg))) Qg)) (V1 (i:=3) Jk.nd) (Qh (Q1 (i:=2) (Qz Q4 (Qz Q4 (Yr (Qc 2)) (Jy (Ju (Jh hr)) (Yr (Qc 1)) (Q6 C__law_take (hr.mono (by decide)) (J2 (i:=0) (Qa Qe Qg))))) (Jy (Ju (Jh hr)) (Yw (Qa Qo (Qa Qo Qg))) (Zf Qp7 B.nb_int Qcw (Qa (X3 (Zr hr.units) (Q6 C__law_take (hr.mono (by decide)) (J2 (i:=0) (Qa Qe Qg))) Qe) Qg)))) Jk.nd)))
  (Qh (Qu (Yr (Qc 2))))))) Qv)
  (Qf (Q1 (i:=2) (Jg C_shown_polynomial (hr.mono (by decide)) (Qa (Q6 C__law_polynomial (hr.mono (by decide)) (J2 (i:=0) (Qa (Jy (Ju (Jh hr)) (Yw (Qa Qe (Qa (Qz Qeu (Qz Xy Qe Qe) Qe) Qg))) (Q6 C__law_take (hr.mono (by decide)) (J2 (i:=0) (Qa Qe Qg)))) (Qa Qe Qg)))) Qg)) Jk.nd)
  (Qf (Q1 (i:=4) (Q6 C__law_take (hr.mono (by decide)) (J2 (i:=0) (Qa (Qz Q4 (J1 Qbl B.nb_len Qbn (Qa (Qc 2) Qg)) Qe) Qg))) Jk.nd)
  (Qf (Q1 (i:=5) (Jy (Ju (Jh hr)) Qo (Q6 C__law_take (hr.mono (by decide)) (J2 (i:=0) (Qa Qe Qg)))) Jk.nd)
  (Qf (Q1 (i:=6) (Yw (Qa (Yr (Qc 2)) (Qa (Qz Q4 (Qc 2) (Qc 2)) (Qa (Qz Q4 Qo (Qc 2)) (Qa (Qz Q4 (Xh (Qc 2) (Jp (Qc 4))) (Uj (Qc 2) (Jp (Qz Q4 (Qc 4) Qe)))) Qg))))) Jk.nd)
  (Qf (Q1 (i:=6) (Qz Q4 (Qc 6) (Yw (Qa (Qz Q4 (Qz Q4 (Xh (Qc 2) (Jp (Qc 4))) (Qc 5)) (Uj (Qc 2) (Jp (Qc 4)))) (Qa (Qz Q4 (Qz Q4 (Xh (Qc 2) (Jp (Qc 4))) (Qc 5)) (Uj (Qc 2) (Jp (Qz Q4 (Qc 4) Qe)))) Qg)))) Jk.nd)
  (Qh (Qu (Yr (Qyp (i:=6) (Ju (Jh hr)) (Q6 C__law_take (hr.mono (by decide)) (J2 (i:=0) (Qa Qe Qg)))))))))))))
theorem Qer (F:Fun K "_law_text" "_law_text" Y5 f fd) (B:Bn K mg) (C1:Cal P w K mg base "shown_polynomial" 3 ["one"] (spR K Qy)) (C2:Cal P w K mg base "_law_take" 1 ["_law_row","_law_base"] (spI K 0 Qm)) (C3:Cal P w K mg base "_law_polynomial" 3 ["_law_row","_law_most","_law_terms"] (spI K 0 J9)):FnOk P w K mg base CX0 4 f fd ["_law_row"] (spI K 0 Ve):=by
 refine Qn9 (T:=Qaq) F Jk rfl rfl (λds kk h=>?_) (Qgr B C1 C2 C3) (λds kk h=>?_)
 ·obtain ⟨c,rfl,_⟩:=h
  exact ⟨rfl,_,rfl,rfl⟩
 ·obtain ⟨c,rfl,k⟩:=h
  simp only [Qal,wSeq,wIf,env0,rowD,List.map_cons,List.map_nil,List.length_cons,List.length_nil,Nat.zero_add,Nat.reduceAdd,List.replicate,List.cons_append,List.nil_append,wSet,Qfp,wLst,Qd,wC,wNil,Qc9,Qed,Jr,Yx,Qi,D.pure,Bool.and_self,true_and,Qdb,Qx,Qs,wBin,sz2,Bool.and_true,Yl,Gu,wSlF,sz4,wRet,Qms,Vo,Jz,Int.reduceLE,Int.reduceNeg,Int.reduceLT,Qee,Int.reduceToNat,Int.reducePow,Qjn,Int.reduceSub,r_bl,look,Option.isSome_some,List.set_cons_zero,List.set_cons_succ,Qp,Qa0,Z6]
  refine ⟨c,0,2,rfl,by decide,by decide,by decide,by decide,λc1 r1 a1 b1=>?_⟩
  simp only [rowD,Int.reduceAdd,Z6,Qi,D.pure,Bool.and_self,true_and,Qei,Q3]
  by_cases q:r1=0
  ·rw [if_pos (decide_eq_true q)]
   refine ⟨by decide,c1,1,10,rfl,by decide,by decide,by decide,by decide,λc2 r2 a2 b2=>?_⟩
   obtain ⟨R,rfl⟩:=Int.eq_ofNat_of_zero_le a2
   simp only [Int.reduceAdd,Qaw,Int.reducePow,Int.reduceNeg,Int.toNat_natCast]
   refine ⟨by omega,by omega,Vx,λi ρ=>i<=R/\∃(c' n':Int) (x:Str) (o3:Option D),0<=n'/\n'<=100+2*(i:Int)/\tl (10*i) x/\ρ=[some (rowD c' n'),some (.kls (menu.map .str)),some (.str x),o3,none,none,none],⟨by omega,c2,_,Str.ofString "",none,by omega,by omega,Qd7 (by decide),rfl⟩,?_,?_⟩
   ·rintro i d ρ hd ⟨_,c',n',x,o3,h1,h2,hx,rfl⟩
    obtain ⟨hi,rfl⟩:=Qad hd
    have hi:i<R:=by simpa using hi
    have hxl:=hx.2
    simp only [gN,wSet,wBin,Yl,rowD,List.set_cons_succ,List.set_cons_zero,Jr,Yx,Qd,wC,wNil,Qi,D.pure,Bool.and_self,List.nil_append,wLst,List.length_cons,List.length_nil,Nat.zero_add,Nat.reduceAdd,sz2,Qs,true_and,Jz,look,Option.isSome_some,Qp,Z6]
    refine ⟨c',n',18,rfl,by decide,by decide,h1,by omega,λc3 r3 a3 b3=>?_⟩
    simp only [Qvl]
    refine Qae a3 b3 λd hd=>?_
    obtain ⟨u,hu,rfl⟩:=List.mem_map.mp hd
    have hu:=Qd7 (List.all_eq_true.mp (show menu.all (tlb 4)=true by decide) u hu)
    have hul:=hu.2
    have z1:x.length+u.length<=sizeLine:=Nat.le_of_lt (Jd (by omega))
    simp only [rowD,Z6,Qi,D.pure,Bool.and_self,true_and,Z7,z1]
    refine ⟨c3,_,5,rfl,by decide,by decide,by omega,by omega,λc4 r4 a4 b4=>?_⟩
    have fin:∀v:Str,tl 1 v->J6 (.str (x++u)) (.str v) λd=>i+1<=R/\∃(c' n'_1:Int) (x:Str) (o3:Option D),0<=n'_1/\n'_1<=100+2*((i+1:Nat):Int)/\tl (10*(i+1)) x/\[some (.lst [.int c4,.int (n'+1+1)]),some (.kls (menu.map .str)),some d,some (.int (0+(i:Int))),none,none,none]=[some (.lst [.int c',.int n'_1]),some (D.kls (menu.map .str)),some (.str x),o3,none,none,none]:=λv hv=>by
     have hvl:=hv.2
     have z2:(x++u).length+v.length<=sizeLine:=Nat.le_of_lt (Jd (by rw [Str.length_append];omega))
     simp only [Z7,z2,true_and]
     exact ⟨by omega,c4,n'+1+1,x++u++v,_,by omega,by omega,Vr (U3 (U3 hx hu) hv) (by omega),rfl⟩
    by_cases q4:r4=0
    ·simp only [rowD,Qei,decide_eq_true q4,Qeh,reduceIte,Gx,Qb9,List.getElem?_cons_succ,List.getElem?_cons_zero,Qp,Z7]
     exact fin _ (Qd7 (by decide))
    ·simp only [rowD,Qei,decide_eq_false q4,Qeh,Bool.false_eq_true,reduceIte,Gx,Uv,List.getElem?_cons_zero,Qp,Z7]
     exact fin _ (Qd7 (by decide))
   ·rintro ρ ⟨_,c',n',x,o3,h1,h2,hx,rfl⟩
    rw [Y8] at hx
    simp only [wRet,Yl,rowD,Jz,look,Qp,Z6,Qi,D.pure,Bool.and_self,true_and]
    exact k _ _ x (Vr hx (by omega))
  ·rw [if_neg (by simpa using q)]
   refine ⟨c1,0+1,2,rfl,by decide,by decide,by decide,by decide,λc2 r2 a2 b2=>?_⟩
   simp only [rowD,Int.reduceAdd,Z6,Qi,D.pure,Bool.and_self,true_and,Gx]
   refine Qae a2 b2 λd hd=>?_
   obtain ⟨m,rfl,hm1,hm2⟩:∃m:Int,d=.int m/\4<=m/\m<big:=by
    simp only [List.mem_cons,List.not_mem_nil,or_false] at hd
    rcases hd with rfl | rfl
    ·exact ⟨_,rfl,by decide,by decide⟩
    ·exact ⟨_,rfl,by decide,by decide⟩
   refine ⟨rfl,c2,2,m,5,rfl,hm1,hm2,by decide,by decide,by decide,by decide,λc3 n3 ts g1 g2 hP hl8=>⟨ts,rfl,hP,?_⟩⟩
   have hx:tl 1970 (S24.tx ts):=⟨Q1i ts,Qxq hP hl8⟩
   generalize S24.tx ts=x at hx
   have hxl:=hx.2
   have hz:x.length<=sizeLine:=Nat.le_of_lt (Jd (by omega))
   simp only [D.pure,Bool.true_and,Z7,true_and,Qaz,hz,Vw]
   refine ⟨rfl,c3,n3,_,rfl,by omega,by omega,by omega,by omega,λc4 r4 a4 b4=>⟨rfl,c4,n3+1,15,rfl,by decide,by decide,by omega,by omega,λc5 r5 a5 b5=>?_⟩⟩
   obtain ⟨a,rfl⟩:=Int.eq_ofNat_of_zero_le a4
   refine Qqw a5 b5 λu hu=>?_
   have hul:=hu.2
   have z1:x.length+x.length<=sizeLine:=Nat.le_of_lt (Jd (by omega))
   have z2:(Str.ofString " ").length+x.length<=sizeLine:=Nat.le_of_lt (Jd (by rw [show (Str.ofString " ").length=1 by decide];omega))
   have t1:=Qzy (k:=a) hx
   have t2:=Qjb (k:=a) hx
   have t3:=Qjb (k:=a+1) hx
   have p1:=t1.2
   have p2:=t2.2
   have p3:=t3.2
   have n1:(0:Int)<=(a:Int):=by omega
   have n2:(0:Int)<=(a:Int)+1:=by omega
   have n3':((a:Int)+1).toNat=a+1:=by omega
   have z3:(toS x a).length+(J0 x (a+1)).length<=sizeLine:=Nat.le_of_lt (Jd (by omega))
   have z4:(toS x a).length+u.length<=sizeLine:=Nat.le_of_lt (Jd (by omega))
   have z5:(toS x a++u).length+(J0 x a).length<=sizeLine:=Nat.le_of_lt (Jd (by rw [Str.length_append];omega))
   have z6:(toS x a++u).length+(J0 x (a+1)).length<=sizeLine:=Nat.le_of_lt (Jd (by rw [Str.length_append];omega))
   simp only [z1,z2,Vw,Zg,Uk,n2,hz,n3',true_and,Gf,n1,Int.toNat_natCast,Z7,z4,z6,D.pure,Bool.and_true,z5,z3]
   refine ⟨by decide,rfl,c5,_,6,rfl,by decide,by decide,by omega,by omega,λc6 r6 a6 b6=>?_⟩
   simp only [Gx]
   refine Qae a6 b6 λd hd=>?_
   obtain ⟨y,hy,rfl⟩:∃y,tl 3950 y/\d=.str y:=by
    simp only [List.mem_cons,List.not_mem_nil,or_false] at hd
    rcases hd with rfl | rfl | rfl | rfl | rfl | rfl
    ·exact ⟨_,Vr hx (by omega),rfl⟩
    ·exact ⟨_,Vr (U3 hx hx) (by omega),rfl⟩
    ·exact ⟨_,Vr (U3 (a:=1) (Qd7 (by decide)) hx) (by omega),rfl⟩
    ·exact ⟨_,Vr (U3 t1 t3) (by omega),rfl⟩
    ·exact ⟨_,Vr (U3 (U3 t1 hu) t2) (by omega),rfl⟩
    ·exact ⟨_,Vr (U3 (U3 t1 hu) t3) (by omega),rfl⟩
   exact ⟨rfl,rfl,k _ _ y hy⟩
theorem t1:Va nNT=some true:=by decide
theorem t5:tbF nNT=some false:=by decide
theorem t7:Ym nNT=some true:=by decide
theorem isR1:isR nNT=true:=by decide
theorem hf1:Qn6 nNT=true:=by decide
def Yp:GA:=λds k=>∃d,ds=[d]/\((noS d/\k (.bl true))\/∃x,d=.str x/\okc x/\x.length<=3950/\k (.bl (LD x).isNone))
abbrev Ya:Stmt:=top 33
theorem Yg:FnScope ["_law_text_here","_law_word","error"] ["_law_text_here"] (Qb Ya):=⟨rfl,rfl,rfl,by decide +kernel,rfl,by decide +kernel,by decide +kernel⟩
def Ug:Tg:={ own:=λi=>i == 1 || i == 2,io:=[] }
def Uc:WS:=(wSeq (wSet 1 (wC (.bl false)))
 (wSeq (Qg0 Q5 (Qd (wVar 0) wNil) isR 2 (wSeq (wSet 1 (Qfq (wIsx 2 Va) (Qfq (wIsx 2 Ym) (wBin dEq (Qgz 2 (Str.ofString "at") Qn6) (wC (.int 0))))))
 (wIf (wOr (wTru (wIsx 2 tbF)) (wOr (wTru (wIsx 2 tbF)) (wTru (wIsx 2 tbF)))) (wSet 1 (wC (.bl false))) Qx)))
 (wRet (Yl (wVar 1)))))
theorem Qb7 (B:Bn K mg) (C_read_polynomial:CalD P w K mg base "read_polynomial" 6 ["text"] (spXD K Q5)):∀(cdv:Value) (A:Around) (outer:List PySem.Env) (s:Shared) (H:Hp) (E:XK),Room 6 (A.deeper (envOfC "_law_refused" (Qb Ya) s.heap.objs.size f cdv))->SVs (cxOf CX0 P w K mg base ["_law_text_here","_law_word","error"] "_law_refused" (Qb Ya) f cdv A outer s H E).nox Ug (Qw Ya) Uc:=λcdv A outer s H E hr =>
  (Qf (Q1 (i:=1) Qb4 Yg.nd)
  (Qf (Qmw (j:=2) (cat:=isR) C_read_polynomial (hr.mono (by decide)) ⟨rfl,rfl,rfl⟩ (Qa (Qc 0) Qg) B.h_TangleError.choose_spec.1 B.h_TangleError.choose_spec.2 (λea=>(SVs.j (Qf (Q1 (i:=1) (Qe5 (Qe4 (i:=2) (tab:=Va) B.nb_isinstance (by exact Xa rfl B.i_NoText.choose_spec.1 (v:=.ref B.i_NoText.choose) rfl) rfl B.i_NoText.choose_spec.2) (Qe5 (Qe4 (i:=2) (tab:=Ym) B.nb_isinstance (by exact Qj6 rfl B.i_ValueError.1 PyProof.Rows.Boot.«ValueError» (v:=.ty "ValueError") rfl) rfl B.i_ValueError.2) (Qhm (X3 (Zr hr.units) (Qoa (i:=2) (has:=Qn6) B.a_at) Qe)))) Yg.nd)
  (Qh (Yc (Y3 (Qb6 (Zy (Qe4 (i:=2) (tab:=tbF) B.nb_isinstance (by exact Xa rfl B.i_NoWeb.choose_spec.1 (v:=.ref B.i_NoWeb.choose) rfl) rfl B.i_NoWeb.choose_spec.2)) (Qb6 (Zy (Qe4 (i:=2) (tab:=tbF) B.nb_isinstance (by exact Xa rfl B.i_Odd.choose_spec.1 (v:=.ref B.i_Odd.choose) rfl) rfl B.i_Odd.choose_spec.2)) (X4 (Zy (Qe4 (i:=2) (tab:=tbF) B.nb_isinstance (by exact Xa rfl B.i_NotFlat.choose_spec.1 (v:=.ref B.i_NotFlat.choose) rfl) rfl B.i_NotFlat.choose_spec.2)))))) (Qh (Q1 (i:=1) Qb4 Yg.nd)) Qv))))) Yg.nd)
  (Qh (Qu (Yr (Qc 1))))))
theorem Qa4 (F:Fun K "_law_refused" "_law_refused" Ya f fd) (B:Bn K mg) (C1:CalD P w K mg base "read_polynomial" 6 ["text"] (spXD K Q5)):FnOk P w K mg base CX0 7 f fd ["_law_text_here"] (spR K Yp):=by
 refine Gp (T:=Ug) F Yg rfl (by decide) (λds kk h=>?_) (Qb7 B C1) (λds kk h=>?_)
 ·obtain ⟨d,rfl,_⟩:=h
  rfl
 ·obtain ⟨d,rfl,h⟩:=h
  have lk:∀x:Int,List.lookup (Str.ofString "at") [(Str.ofString "at",x)]=some x:=λx=>by simp [List.lookup]
  simp only [Uc,wSeq,wSet,wC,Qg0,Qd,env0,List.map_cons,List.map_nil,List.length_cons,List.length_nil,Nat.zero_add,Nat.reduceAdd,List.replicate,List.cons_append,List.nil_append,List.set_cons_succ,List.set_cons_zero,wNil,wRet,Yl,Jz,wIf,wOr,EndsP.un,Qx,reduceIte,X8,wIsx,Zh,Qg5,wBin,Qgz,Qei,Q3,look,Qp,D.pure,true_and]
  refine ⟨d,rfl,?_⟩
  rcases h with ⟨h1,h2⟩ | ⟨x,rfl,ho,hl,h2⟩
  ·refine .inl ⟨h1,isR1,?_⟩
   simp only [t1,t7,lk,t5,Qp,Bool.false_eq_true,reduceIte]
   exact ⟨hf1,h2⟩
  ·refine .inr ⟨x,rfl,ho,hl,λts hts=>?_,λhn=>⟨isR1,?_⟩⟩
   ·rw [hts] at h2
    exact h2
   ·rw [hn] at h2
    simp only [t1,t7,lk,t5,Qp,Bool.false_eq_true,reduceIte]
    exact ⟨hf1,h2⟩
theorem Qp1:eqOk 9 (.tup (ts.map two))=true:=by
 show Ub 8 _=true
 exact Qe6 λ_ _=>rfl
def Qk8:GA:=λds k=>∃ns:List Int,ds=[.kls (ns.map .int)]/\ns.length<=63/\k (.bl true)
abbrev X7:Stmt:=top 34
theorem Qeb:FnScope ["_law_script","_law_cell","_law_text_here","_law_due_here","_law_thing"] ["_law_script"] (Qb X7):=⟨rfl,rfl,rfl,by decide +kernel,rfl,by decide +kernel,by decide +kernel⟩
def Qut:Tg:={ own:=λi=>i == 1 || i == 2 || i == 3 || i == 4,io:=[] }
def Qt8:WS:=(wSeq (wFor (Qi2 (wBin J6 (wLst (Qd (wC (.int 0)) wNil)) (wSlT (wVar 0) X5 (Y2 (wC (.int 20)))))) (gN 1) (wSeq (wSet 2 (Qcf Ve (Qd (wLst (Qd (Yl (wVar 1)) (Qd (wC (.int 0)) wNil))) wNil)))
 (wSeq (wSet 3 (Qs V2 (Qd (wVar 2) wNil)))
 (wSeq (wIf (wAnd (wBl (wBin (dIs false) (wVar 3) (wC .non))) (wNot (wTru (Qs Yp (Qd (wVar 2) wNil))))) (wRet (wC (.bl false))) Qx)
 (wIf (wAnd (wBl (wBin (dIs true) (wVar 3) (wC .non))) (wBl (wBin dNe (Qs (Ql6 Q5) (Qd (wVar 2) wNil)) (wVar 3)))) (wRet (wC (.bl false))) Qx)))))
 (wSeq (wFor (Qqf (Qfp (wLst (Qd (wC .non) (Qd (wC (.int 0)) (Qd (wC (.bl true)) (Qd (wTup wNil) (Qd (wFrz (wLst wNil)) (Qd (wTup (Qd (wC (.str (Str.ofString "x"))) wNil)) (Qd (wC (.fdk [])) wNil)))))))))) (gN 4) (wIf (wNot (wTru (Qs Yp (Qd (wVar 4) wNil)))) (wRet (wC (.bl false))) Qx))
 (wRet (wC (.bl true)))))
theorem Q18 (B:Bn K mg) (C_read_polynomial:CalD P w K mg base "read_polynomial" 6 ["text"] (spXD K Q5)) (C__law_text:Cal P w K mg base "_law_text" 4 ["_law_row"] (spI K 0 Ve)) (C__law_due:Cal P w K mg base "_law_due" 4 ["_law_text_here"] (spR K V2)) (C__law_refused:Cal P w K mg base "_law_refused" 7 ["_law_text_here"] (spR K Yp)):∀(cdv:Value) (A:Around) (outer:List PySem.Env) (s:Shared) (H:Hp) (E:XK),Room 7 (A.deeper (envOfC "law" (Qb X7) s.heap.objs.size f cdv))->SVs (cxOf CX0 P w K mg base ["_law_script","_law_cell","_law_text_here","_law_due_here","_law_thing"] "law" (Qb X7) f cdv A outer s H E).nox Qut (Qw X7) Qt8:=λcdv A outer s H E hr =>
  (Qf (Xv PassesOwn.never (Qkw (Qz Q4 (Yw (Qa Qe Qg)) (Qlj (Qc 0) Qa2 (Jp Qe)))) (V1 (i:=1) Qeb.nd) (Qf (Q1 (i:=2) (Qof C__law_text (hr.mono (by decide)) (Qa (Yw (Qa (Yr (Qc 1)) (Qa Qe Qg))) Qg)) Qeb.nd)
  (Qf (Q1 (i:=3) (Jg C__law_due (hr.mono (by decide)) (Qa (Qc 2) Qg)) Qeb.nd)
  (Qf (Yc (Y3 (Qff (Q0 Qke (Qc 3) Zj) (Qbm (Uf (Zy (Jg C__law_refused (hr.mono (by decide)) (Qa (Qc 2) Qg))))))) (Qh (Qu Qb4)) Qv)
  (Qh (Yc (Y3 (Qff (Q0 Qnr (Qc 3) Zj) (Qbm (Q0 (Qf7 hr.units) (Jg C_read_polynomial.calm (hr.mono (by decide)) (Qa (Qc 2) Qg)) (Qc 3))))) (Qh (Qu Qb4)) Qv))))))
  (Qf (Xv PassesOwn.never (Qx7 (Qlk (Yw (Qa Zj (Qa Qe (Qa Qb4 (Qa (Ui Qg) (Qa (Qp0 (Yw Qg)) (Qa (Ui (Qa Qo Qg)) (Qa Qoc Qg)))))))))) (V1 (i:=4) Qeb.nd) (Qh (Yc (Uf (Zy (Jg C__law_refused (hr.mono (by decide)) (Qa (Qc 4) Qg)))) (Qh (Qu Qb4)) Qv)))
  (Qh (Qu Qb4))))
theorem Qxg (F:Fun K "law" "law" X7 f fd) (B:Bn K mg) (C1:CalD P w K mg base "read_polynomial" 6 ["text"] (spXD K Q5)) (C2:Cal P w K mg base "_law_text" 4 ["_law_row"] (spI K 0 Ve)) (C3:Cal P w K mg base "_law_due" 4 ["_law_text_here"] (spR K V2)) (C4:Cal P w K mg base "_law_refused" 7 ["_law_text_here"] (spR K Yp)):FnOk P w K mg base CX0 8 f fd ["_law_script"] (spR K Qk8):=by
 refine Gp (T:=Qut) F Qeb rfl (by decide) (λds kk h=>?_) (Q18 B C1 C2 C3 C4) (λds kk h=>?_)
 ·obtain ⟨ns,rfl,_⟩:=h
  rfl
 ·obtain ⟨ns,rfl,hl,k⟩:=h
  obtain ⟨cs,hc,hcl⟩:∃cs:List Int,cutD (ns.map D.int) none (some 20)=cs.map D.int/\cs.length<=63:=by
   unfold cutD
   rw [← List.map_drop,← List.map_take]
   exact ⟨_,rfl,by rw [List.length_take,List.length_drop];omega⟩
  simp only [Qt8,wSeq,env0,List.map_cons,List.map_nil,List.length_cons,List.length_nil,Nat.zero_add,Nat.reduceAdd,List.replicate,List.cons_append,List.nil_append,Qc9,Qm5,wBin,wLst,Qd,wC,wNil,sz1,wSlT,X5,Vo,Zg,Jz,look,Qp,Qpf,hc,Qa0,Qi,D.pure,Bool.and_self,Qo6,Bool.true_and,true_and]
  refine ⟨Qa1,Qa1,by rw [List.length_map];exact Nat.le_of_lt (Jd (by omega)),Qa1,λi ρ=>∃o1 o2 o3:Option D,ρ=[some (.kls (ns.map .int)),o1,o2,o3,none],⟨none,none,none,rfl⟩,?_,?_⟩
  ·rintro i d ρ hd ⟨o1,o2,o3,rfl⟩
   obtain ⟨c,rfl⟩:∃c:Int,d=.int c:=by
    have:=List.mem_of_getElem? hd
    rcases List.mem_cons.mp this with rfl | h
    ·exact ⟨_,rfl⟩
    ·obtain ⟨c,_,rfl⟩:=List.mem_map.mp h
     exact ⟨c,rfl⟩
   simp only [gN,wSeq,wSet,Qcf,Qd,wLst,Yl,List.set_cons_succ,List.set_cons_zero,wC,wNil,List.length_cons,List.length_nil,Nat.zero_add,Nat.reduceAdd,sz2,Z6,Qi,D.pure,Bool.and_self,Bool.and_true,Qs,wIf,wAnd,wNot,wRet,Qx,r_bl,wBin,Ql6,Jz,Bool.false_eq_true,reduceIte,X8,true_and,look,Qp]
   refine ⟨c,rfl,λc' n' x hx=>?_⟩
   have ho:okc x:=⟨by have:=hx.2;omega,hx.1⟩
   simp only []
   refine ⟨x,rfl,ho,?_⟩
   cases q:LD x with
   | none =>
    simp only [oL,Qjz,Q3,reduceIte]
    refine ⟨_,rfl,.inr ⟨x,rfl,ho,hx.2,?_⟩⟩
    rw [q]
    simp only [Zh]
    exact ⟨_,_,_,rfl⟩
   | some ts =>
    simp only [oL,Qf1,Q3,Bool.false_eq_true,reduceIte]
    have e1:∀k:D->Prop,dIs true (.tup (ts.map two)) .non k=k (.bl true):=λ_=>rfl
    rw [e1]
    simp only [Q3,reduceIte]
    refine ⟨_,rfl,.inr ⟨x,rfl,ho,hx.2,λts' h'=>?_,λhn=>by rw [q] at hn;cases hn⟩⟩
    rw [q] at h'
    cases h'
    simp only [Qvf,Q3,Bool.false_eq_true,reduceIte]
    exact ⟨Qp1,Qp1,λ_=>⟨_,_,_,rfl⟩,λz=>absurd rfl z⟩
  ·rintro ρ ⟨o1,o2,o3,rfl⟩
   simp only [wSeq,Qc9,Qvk,Qfp,wLst,Qd,wC,wTup,wNil,List.length_nil,sz0,wFrz,List.length_cons,Nat.zero_add,sz1,Nat.reduceAdd,Qdb,Qi,D.pure,Bool.and_self,Bool.and_true,Bool.true_and,Qo9,true_and,Qpb]
   refine ⟨by decide,rfl,?_⟩
   refine ⟨rfl,λi ρ=>∃o4:Option D,ρ=[some (.kls (ns.map .int)),o1,o2,o3,o4],⟨none,rfl⟩,?_,?_⟩
   ·rintro i d ρ hd ⟨o4,rfl⟩
    have hn:noS d:=by
     have:=List.mem_of_getElem? hd
     simp only [List.mem_cons,List.not_mem_nil,or_false] at this
     rcases this with rfl | rfl | rfl | rfl | rfl | rfl | rfl
     ·exact .inl rfl
     ·exact .inr (.inl rfl)
     ·exact .inr (.inr (.inl rfl))
     ·exact .inr (.inr (.inr (.inl rfl)))
     ·exact .inr (.inr (.inr (.inr (.inl rfl))))
     ·exact .inr (.inr (.inr (.inr (.inr (.inl ⟨_,rfl⟩)))))
     ·exact .inr (.inr (.inr (.inr (.inr (.inr rfl)))))
    simp only [gN,wIf,wNot,List.set_cons_succ,List.set_cons_zero,wRet,wC,Qx,X8,Qs,Qd,wNil,Jz,look,Qp]
    refine ⟨d,rfl,.inl ⟨hn,?_⟩⟩
    simp only [Zh,Bool.not_true,Bool.false_eq_true,reduceIte]
    exact ⟨_,rfl⟩
   ·rintro ρ ⟨o4,rfl⟩
    simp only [wRet,wC]
    exact k
end K25
variable {l:PySem.W.OpenLaw}
namespace K25
open PySem PySem.Spec L2 PV
open PyProof.Rows (envOfC)
def Lk (K:Frag) (f:Addr) (x:Str) (st:Stmt):Prop:=∃oc od kV dc pm an cd ct sl,K.lookup f=some ⟨oc,od,.func (fnOf x x (V4 st) (Qw st) (Qb st) .none kV dc pm an cd ct),sl⟩/\codeIn K cd x=true
theorem Lk.fn (h:Lk K f x st) (k:keepIn K (.ref f)=true):∃fd,Fun K x x st f fd:=by
 obtain ⟨oc,od,kV,dc,pm,an,cd,ct,sl,l,c⟩:=h
 exact ⟨_,Qhl l c k⟩
theorem Qza {f1 f2 f3 f4 f5 f6 f7 f8 f9 f10 f11 f12 f13 f14 f15 f16 f17 f18 f19 f20 f21 f22 A0 A1 A5 A6 A3 Ek A7:Addr} {od22 an22 Dj Bb B5 B7 Da:Option Addr} {sl22 Eb D3 Ef:Array (Option Value)} {oc22 kV22 dc22 pm22 cd22 ct22 G8 E4 D4 B6 G0 Bf Ac G5:Value} {Ah Ag:Tok} {D2 Dd Bi B8 E7 Aj:ClassData} {Aa:Array DictEntry} {G1:Nat} {Ba G4:Str} {E3 B0:List Value} {Ea:Bool} {D7:Option Bool} (X:K.In h) (G:h.Ns mainGlobals mg) (hfa:mg "law" = some (.ref fa))
  (a1:atN K "is_whole" f1) (l1:Lk K f1 "is_whole" Zm) (k1:keepIn K (.ref f1)=true)
  (a2:atN K "is_written" f2) (l2:Lk K f2 "is_written" Yi) (k2:keepIn K (.ref f2)=true)
  (a3:atN K "is_term" f3) (l3:Lk K f3 "is_term" Vc) (k3:keepIn K (.ref f3)=true)
  (a4:atN K "is_polynomial" f4) (l4:Lk K f4 "is_polynomial" Jb) (k4:keepIn K (.ref f4)=true)
  (a5:atN K "shown_power" f5) (l5:Lk K f5 "shown_power" Yn) (k5:keepIn K (.ref f5)=true)
  (a6:atN K "shown_term" f6) (l6:Lk K f6 "shown_term" Yt) (k6:keepIn K (.ref f6)=true)
  (a7:atN K "shown_polynomial" f7) (l7:Lk K f7 "shown_polynomial" Jf) (k7:keepIn K (.ref f7)=true)
  (a8:atN K "words_by_signs" f8) (l8:Lk K f8 "words_by_signs" Js) (k8:keepIn K (.ref f8)=true)
  (a9:atN K "read_number" f9) (l9:Lk K f9 "read_number" Q8) (k9:keepIn K (.ref f9)=true)
  (a10:atN K "read_power" f10) (l10:Lk K f10 "read_power" Jl) (k10:keepIn K (.ref f10)=true)
  (a11:atN K "read_term" f11) (l11:Lk K f11 "read_term" Jw) (k11:keepIn K (.ref f11)=true)
  (a12:atN K "read_polynomial" f12) (l12:Lk K f12 "read_polynomial" Qr) (k12:keepIn K (.ref f12)=true)
  (a13:atN K "_law_take" f13) (l13:Lk K f13 "_law_take" Y7) (k13:keepIn K (.ref f13)=true)
  (a14:atN K "_law_number" f14) (l14:Lk K f14 "_law_number" Yo) (k14:keepIn K (.ref f14)=true)
  (a15:atN K "_law_polynomial" f15) (l15:Lk K f15 "_law_polynomial" Jm) (k15:keepIn K (.ref f15)=true)
  (a16:atN K "_law_text" f16) (l16:Lk K f16 "_law_text" Y5) (k16:keepIn K (.ref f16)=true)
  (a17:atN K "_law_figures" f17) (l17:Lk K f17 "_law_figures" Yb) (k17:keepIn K (.ref f17)=true)
  (a18:atN K "_law_power" f18) (l18:Lk K f18 "_law_power" Yu) (k18:keepIn K (.ref f18)=true)
  (a19:atN K "_law_term" f19) (l19:Lk K f19 "_law_term" Y6) (k19:keepIn K (.ref f19)=true)
  (a20:atN K "_law_due" f20) (l20:Lk K f20 "_law_due" Zn) (k20:keepIn K (.ref f20)=true)
  (a21:atN K "_law_refused" f21) (l21:Lk K f21 "_law_refused" Ya) (k21:keepIn K (.ref f21)=true)
  (a22:atN K "law" f22) (l22:K.lookup f22=some ⟨oc22,od22,.func (fnOf "law" "law" (V4 X7) (Qw X7) (Qb X7) .none kV22 dc22 pm22 an22 cd22 ct22),sl22⟩) (c22:codeIn K cd22 "law" = true) (k22:keepIn K (.ref f22)=true)
  (B1:nsIn K mainGlobals "abs" = some none)
  (De:nsIn K mainGlobals "all" = some none)
  (Db:nsIn K mainGlobals "bool" = some none)
  (Eg:nsIn K mainGlobals "int" = some none)
  (E5:nsIn K mainGlobals "isinstance" = some none)
  (Ei:nsIn K mainGlobals "len" = some none)
  (G2:nsIn K mainGlobals "range" = some none)
  (E6:nsIn K mainGlobals "str" = some none)
  (B9:nsIn K mainGlobals "tuple" = some none)
  (E0:nsIn K mainGlobals "zip" = some none)
  (B3:nsIn K mainGlobals "FIGURES" = some (some (.str (Str.ofString "0123456789") Ah)))
  (B2:nsIn K mainGlobals "MOST_FIGURES" = some (some (.int 60 Ag)))
  (A8:atN K "NoText" A0) (Ga:PySem.W.clsIn K A0=some D2) (Ge:typeIn K (.ref A0)=some (.type "type"))
  (Ad:atN K "TangleError" A1) (D5:PySem.W.clsIn K A1=some Dd) (D9:typeIn K (.ref A1)=some (.type "type"))
  (Eh:atN K "NoWeb" A5) (E9:PySem.W.clsIn K A5=some Bi) (G6:typeIn K (.ref A5)=some (.type "type"))
  (G9:atN K "Odd" A6) (Bd:PySem.W.clsIn K A6=some B8) (Df:typeIn K (.ref A6)=some (.type "type"))
  (Dk:atN K "NotFlat" A3) (Ec:PySem.W.clsIn K A3=some E7) (Bj:typeIn K (.ref A3)=some (.type "type"))
  (E8:PySem.W.subIn K (.ref A1) (.type "BaseException")=some true)
  (xl2:K.lookup A1=some ⟨G8,Dj,.cls Aj,Eb⟩) (xn2:K.lookup Aj.ns=some ⟨E4,Bb,.dict Aa G1,D3⟩) (xs2:Qac Aa=true) (xi2:nsFind Aa "__init__" = none)
  (xsp:specialIn K (.ref A1) "__getattribute__" = some (some (.builtin "type.__getattribute__"))) (xrd:readsIn K A1 (.type "type")=true) (xfc:findCls K (.ref A1) (.type "type") "__init__" = some (.val (.builtin "ValueError.__init__")))
  (Bg:PySem.W.subIn K (.ref A0) (.ref A1)=some true) (Gd:(Value.ref A0 == Value.ref A1)=false)
  (E2:PySem.W.subIn K (.ref A0) (.ref A5)=some false) (Ak:(Value.ref A0 == Value.ref A5)=false)
  (B4:PySem.W.subIn K (.ref A0) (.ref A6)=some false) (G7:(Value.ref A0 == Value.ref A6)=false)
  (Ej:PySem.W.subIn K (.ref A0) (.ref A3)=some false) (D6:(Value.ref A0 == Value.ref A3)=false)
  {Dh:List Str} {D8 Bh Gb Di Be:Option Value}
  (E1:K.lookup A0=some (excClassObj Ba G4 A0 Ek E3 (.ref A1::[.type "ValueError",.type "Exception",.type "BaseException",.type "object"]) true Dh B0 Ea D7 B5 D8 Bh Gb Di Be "ValueError.__new__"))
  (G3:PySem.W.findIn K (.ref A0) "__getattribute__" = some (some (.builtin "BaseException.__getattribute__"))) (Dc:PySem.W.findIn K (.ref A0) "__getattr__" = some none) (Bc:PySem.W.findIn K (.ref A0) "__class__" = some (some (.builtin "object.__class__"))) (D0:PySem.W.subIn K (.ref A0) (.type "object")=some true) (Ed:PySem.W.subIn K (.ref A0) (.type "BaseException")=some true)
  (Ee:PySem.W.findIn K (.ref A0) "__setattr__" = some (some (.builtin "object.__setattr__"))) (Gc:PySem.W.findIn K (.ref A0) "__init__" = some (some (.ref A7))) (D1:typeIn K (.ref A7)=some (.type "function")) (Bk:keepIn K (.ref A0)=true) (Ae:PySem.W.findIn K (.ref A0) "at" = some none)
  (Ai:K.lookup A7=some ⟨D4,B7,.func (fnOf "__init__" "NoText.__init__" (V4 Yj) (Qw Yj) (Qb Yj) .none B6 G0 Bf Da Ac G5),Ef⟩) (Af:codeIn K Ac "NoText.__init__" = true) (Ab:keepIn K (.ref A7)=true)
  (zV:nsIn K mainGlobals "ValueError" = some none)
  (Dg:PySem.W.subIn K (.ref A0) (.type "ValueError")=some true)
  : ∃fd:FuncData,(∀(s:Shared) (v:Value),BindsTo s fd ⟨[v],[]⟩ [("_law_script",v)])/\∀base:Heap,K.In base->base.Ns mainGlobals mg->FnOk l.prog w K mg base CX0 8 fa fd ["_law_script"] (spR K Qk8):=by
 have e:=hfa.symm.trans (mg_of X G a22)
 cases e
 have A4:ExcQ K A0:=⟨G3,Dc,Bc,D0,Ed,by rw [Ga];rfl⟩
 have A2:∀C,atN K "NoText" C->C=A0:=λC h=>by have:=h.symm.trans A8;cases this;rfl
 have A9:ExcC K A0:=Qte E1 xl2 xn2 xs2 xi2 Ee
 have B:Bn K mg:=⟨mg_none_of X G B1,mg_none_of X G De,mg_none_of X G Db,mg_none_of X G Eg,mg_none_of X G E5,mg_none_of X G Ei,mg_none_of X G G2,mg_none_of X G E6,mg_none_of X G B9,mg_none_of X G E0,⟨Ah,mg_of X G B3⟩,⟨Ag,mg_of X G B2⟩,⟨A1,mg_of X G Ad,λx C h1 h2=>by
  rcases Q1m h1 with rfl
  ·obtain rfl:=A2 C h2;exact Qyj E8 D5 D9 Bg⟩,⟨A5,mg_of X G Eh,λx k R h1 h2=>by
  rcases Qqo h1 with ⟨rfl,rfl⟩
  ·obtain rfl:=A2 R h2;exact ⟨A4,Qdo Ak E9 G6 E2⟩⟩,⟨A6,mg_of X G G9,λx k R h1 h2=>by
  rcases Qqo h1 with ⟨rfl,rfl⟩
  ·obtain rfl:=A2 R h2;exact ⟨A4,Qdo G7 Bd Df B4⟩⟩,⟨A0,mg_of X G A8,λx k R h1 h2=>by
  rcases Qfu h1 with ⟨rfl,rfl⟩
  ·obtain rfl:=A2 R h2;exact ⟨A4,Qnx⟩⟩,⟨A3,mg_of X G Dk,λx k R h1 h2=>by
  rcases Qqo h1 with ⟨rfl,rfl⟩
  ·obtain rfl:=A2 R h2;exact ⟨A4,Qdo D6 Ec Bj Ej⟩⟩,⟨mg_none_of X G zV,λx k R h1 h2=>by
  rcases Qap h1 with ⟨rfl,rfl⟩
  ·obtain rfl:=A2 R h2;exact ⟨A4,Qsy Dg⟩⟩,λx C h1 h2=>by obtain rfl:=of_decide_eq_true h1;obtain rfl:=A2 C h2;exact ⟨A9,A4,Ae⟩⟩
 obtain ⟨_,F1⟩:=l1.fn k1
 obtain ⟨_,F2⟩:=l2.fn k2
 obtain ⟨_,F3⟩:=l3.fn k3
 obtain ⟨_,F4⟩:=l4.fn k4
 obtain ⟨_,F5⟩:=l5.fn k5
 obtain ⟨_,F6⟩:=l6.fn k6
 obtain ⟨_,F7⟩:=l7.fn k7
 obtain ⟨_,F8⟩:=l8.fn k8
 obtain ⟨_,F9⟩:=l9.fn k9
 obtain ⟨_,F10⟩:=l10.fn k10
 obtain ⟨_,F11⟩:=l11.fn k11
 obtain ⟨_,F12⟩:=l12.fn k12
 obtain ⟨_,F13⟩:=l13.fn k13
 obtain ⟨_,F14⟩:=l14.fn k14
 obtain ⟨_,F15⟩:=l15.fn k15
 obtain ⟨_,F16⟩:=l16.fn k16
 obtain ⟨_,F17⟩:=l17.fn k17
 obtain ⟨_,F18⟩:=l18.fn k18
 obtain ⟨_,F19⟩:=l19.fn k19
 obtain ⟨_,F20⟩:=l20.fn k20
 obtain ⟨_,F21⟩:=l21.fn k21
 have F22:=Qhl (st:=X7) l22 c22 k22
 refine ⟨fnOf "law" "law" (V4 X7) (Qw X7) (Qb X7) .none kV22 dc22 pm22 an22 cd22 ct22,λs v=>.of_eq rfl,λbase _ _=>?_⟩
 have I_NoText:Qcx l.prog w K mg base "NoText" "at" 1:=⟨A0,A7,_,["self","at"],mg_of X G A8,A8,Bk,A9,Gc,D1,Qdi (Qhl (st:=Yj) Ai Af Ab) (mg_of X G Ad) xsp xrd xfc A9 Ae,(Qhl (st:=Yj) Ai Af Ab).binds λ_ _ _ _ _ _ us hl=>by obtain ⟨_,_,rfl⟩:=len2 hl;rfl⟩
 have C19:Cal l.prog w K mg base "is_whole" 1 ["thing"] (spR K Zq):=⟨f1,_,Qf5 F1 B,mg_of X G a1,k1,F1.binds λ_ _ _ _ _ _ us hl=>by obtain ⟨_,rfl⟩:=len1 hl;rfl⟩
 have C13:Cal l.prog w K mg base "is_written" 1 ["word","most"] (spR K Ze):=⟨f2,_,Qdh F2 B,mg_of X G a2,k2,F2.binds λ_ _ _ _ _ _ us hl=>by obtain ⟨_,_,rfl⟩:=len2 hl;rfl⟩
 have C20:Cal l.prog w K mg base "is_term" 2 ["thing"] (spR K V3):=⟨f3,_,Qif F3 B C19,mg_of X G a3,k3,F3.binds λ_ _ _ _ _ _ us hl=>by obtain ⟨_,rfl⟩:=len1 hl;rfl⟩
 have C4:Cal l.prog w K mg base "is_polynomial" 3 ["thing"] (spR K Yk):=⟨f4,_,X9 F4 B C20,mg_of X G a4,k4,F4.binds λ_ _ _ _ _ _ us hl=>by obtain ⟨_,rfl⟩:=len1 hl;rfl⟩
 have C7:Cal l.prog w K mg base "shown_power" 1 ["power"] (spR K Y0):=⟨f5,_,Qbz F5 B,mg_of X G a5,k5,F5.binds λ_ _ _ _ _ _ us hl=>by obtain ⟨_,rfl⟩:=len1 hl;rfl⟩
 have C11:Cal l.prog w K mg base "shown_term" 2 ["term"] (spR K Zc):=⟨f6,_,Qdf F6 B C7,mg_of X G a6,k6,F6.binds λ_ _ _ _ _ _ us hl=>by obtain ⟨_,rfl⟩:=len1 hl;rfl⟩
 have C0:Cal l.prog w K mg base "shown_polynomial" 3 ["one"] (spR K Qy):=⟨f7,_,Uo F7 B C11,mg_of X G a7,k7,F7.binds λ_ _ _ _ _ _ us hl=>by obtain ⟨_,rfl⟩:=len1 hl;rfl⟩
 have C3:Cal l.prog w K mg base "words_by_signs" 1 ["text"] (spR K J8):=⟨f8,_,Xb F8 B,mg_of X G a8,k8,F8.binds λ_ _ _ _ _ _ us hl=>by obtain ⟨_,rfl⟩:=len1 hl;rfl⟩
 have C9:CalD l.prog w K mg base "read_number" 3 ["word"] (spXD K Jj):=⟨f9,_,Qb0 F9 B C13 I_NoText,mg_of X G a9,k9,F9.binds λ_ _ _ _ _ _ us hl=>by obtain ⟨_,rfl⟩:=len1 hl;rfl⟩
 have C10:CalD l.prog w K mg base "read_power" 4 ["word"] (spXD K Zd):=⟨f10,_,Qdg F10 B C9,mg_of X G a10,k10,F10.binds λ_ _ _ _ _ _ us hl=>by obtain ⟨_,rfl⟩:=len1 hl;rfl⟩
 have C14:CalD l.prog w K mg base "read_term" 5 ["sign","word"] (spXD K Zt):=⟨f11,_,Qeq F11 B C9 C10,mg_of X G a11,k11,F11.binds λ_ _ _ _ _ _ us hl=>by obtain ⟨_,_,rfl⟩:=len2 hl;rfl⟩
 have C1:CalD l.prog w K mg base "read_polynomial" 6 ["text"] (spXD K Q5):=⟨f12,_,Gg F12 B C4 C0 C3 C14 I_NoText,mg_of X G a12,k12,F12.binds λ_ _ _ _ _ _ us hl=>by obtain ⟨_,rfl⟩:=len1 hl;rfl⟩
 have C17:Cal l.prog w K mg base "_law_take" 1 ["_law_row","_law_base"] (spI K 0 Qm):=⟨f13,_,Qet F13 B,mg_of X G a13,k13,F13.binds λ_ _ _ _ _ _ us hl=>by obtain ⟨_,_,rfl⟩:=len2 hl;rfl⟩
 have C8:Cal l.prog w K mg base "_law_number" 2 ["_law_row","_law_most"] (spI K 0 Yv):=⟨f14,_,Qb1 F14 B C17,mg_of X G a14,k14,F14.binds λ_ _ _ _ _ _ us hl=>by obtain ⟨_,_,rfl⟩:=len2 hl;rfl⟩
 have C2:Cal l.prog w K mg base "_law_polynomial" 3 ["_law_row","_law_most","_law_terms"] (spI K 0 J9):=⟨f15,_,Gh F15 B C17 C8,mg_of X G a15,k15,F15.binds λ_ _ _ _ _ _ us hl=>by obtain ⟨_,_,_,rfl⟩:=len3 hl;rfl⟩
 have C15:Cal l.prog w K mg base "_law_text" 4 ["_law_row"] (spI K 0 Ve):=⟨f16,_,Qer F16 B C0 C17 C2,mg_of X G a16,k16,F16.binds λ_ _ _ _ _ _ us hl=>by obtain ⟨_,rfl⟩:=len1 hl;rfl⟩
 have C6:Cal l.prog w K mg base "_law_figures" 1 ["_law_word","_law_least"] (spR K Q9):=⟨f17,_,Qa5 F17 B,mg_of X G a17,k17,F17.binds λ_ _ _ _ _ _ us hl=>by obtain ⟨_,_,rfl⟩:=len2 hl;rfl⟩
 have C12:Cal l.prog w K mg base "_law_power" 2 ["_law_rest"] (spR K Zu):=⟨f18,_,Qdj F18 B C6,mg_of X G a18,k18,F18.binds λ_ _ _ _ _ _ us hl=>by obtain ⟨_,rfl⟩:=len1 hl;rfl⟩
 have C16:Cal l.prog w K mg base "_law_term" 3 ["_law_word"] (spR K Zp):=⟨f19,_,Qes F19 B C6 C12,mg_of X G a19,k19,F19.binds λ_ _ _ _ _ _ us hl=>by obtain ⟨_,rfl⟩:=len1 hl;rfl⟩
 have C18:Cal l.prog w K mg base "_law_due" 4 ["_law_text_here"] (spR K V2):=⟨f20,_,Qf6 F20 B C16,mg_of X G a20,k20,F20.binds λ_ _ _ _ _ _ us hl=>by obtain ⟨_,rfl⟩:=len1 hl;rfl⟩
 have C5:Cal l.prog w K mg base "_law_refused" 7 ["_law_text_here"] (spR K Yp):=⟨f21,_,Qa4 F21 B C1,mg_of X G a21,k21,F21.binds λ_ _ _ _ _ _ us hl=>by obtain ⟨_,rfl⟩:=len1 hl;rfl⟩
 exact Qxg F22 B C1 C15 C18 C5
theorem Qxr {a:Addr} (hl:ns.length<=63) (ho:Only H) (hS:SqL K H a (ns.map V.int)):spR K Qk8 [.ref a] H (λv _=>v=.bl true) λ_ _ _=>False:=by
 have fz:FzL K H a (ns.map V.int):=by
  rcases hS with (h | h) | h
  ·rcases ho a with z | ⟨o,xs,z⟩
   ·rw [z] at h;cases h
   ·rw [z] at h;cases h
  ·exact .inl h
  ·exact .inr h
 refine ⟨[.kls (ns.map .int)],[],λd=>d=.bl true,?_,⟨ns,rfl,hl,rfl⟩,λv H' d F' fi hd=>?_⟩
 ·exact .cons (F:=[]) (G:=[]) (.kls fz (Reps.ints ns)) .nil
 ·subst hd
  exact Qau fi.rep
theorem walk {d:DefRec} {K:Params->Frag} (hn:l.most=some 63) (hdf:d.params.defaults=[])
  (hY:∀(w:World) (h:Heap),YP w h->(K w.params).In h)
  (F:∀(w:World) (mg:Str->Option Value) (fa:Addr) (h:Heap),(K w.params).In h->h.Ns mainGlobals mg->mg d.name=some (.ref fa) ->
   ∃fd:FuncData,(∀(s:Shared) (u:Value),BindsTo s fd ⟨[u],[]⟩ [("_law_script",u)])/\∀base:Heap,(K w.params).In base->base.Ns mainGlobals mg->FnOk l.prog w (K w.params) mg base CX0 8 fa fd ["_law_script"] (spR (K w.params) Qk8)) :
  PySem.W.WalkO q loose XP YP l.row.toRowW d [] (λf vs=>PySem.call f vs) :=
 L2.Qqd (n:=63) (k:=8) (x:="_law_script") (CX:=λ_=>CX0) (sp:=λw=>spR (K w.params) Qk8) hn (by decide) hdf ⟨rfl,by decide,by decide⟩ hY F (λ_ _ a ns hl ho hS=>Qxr hl ho hS) λ_ _ _ _ _ z=>z
end K25
open PySem PySem.W PyProof.Rows
namespace PySem.W.Fast
def tw17636019540032729216:=0
def tw18200749323590691801:=0
def tw17579367877650770480:=0
def tw11005457566021301358:=0
def tw8406564658028757663:=0
def tw3451933920270241983:=0
def tw13861026287024076202:=0
def tw14496394374773799211:=0
def tw1957734893411187650:=0
def tw13588979479318511912:=0
def tw961069264686543208:=0
def tw10288707223121731060:=0
def tw1336971938920105777:=0
def tw14082998350949772792:=0
def tw18109341468478982113:=0
def tw346764521419925879:=0
def tw13146358755900431705:=0
def tw12035794856615910294:=0
def tw15514710181227554811:=0
def tw4302200670626039020:=0
def tw5501119213125656994:=0
def tw8920603854773868879:=0
def tw9933180709598655964:=0
def tw12649656318118562275:=0
def tw9250790031475797711:=0
def tw2287083491916368727:=0
def tw8179802532287666056:=0
def tw15638116734958112146:=0
def tw14588422870461819840:=0
def tw15273644728539710214:=0
def tw15792580008712591801:=0
def tw16916509891509492206:=0
def tw12885819079108824531:=0
def tw8328267437337896824:=0
def tw9118293893887326325:=0
def tw7321831916757671302:=0
def tw1028994653056656452:=0
def tw12114285815145761454:=0
def tw11179907596148252651:=0
def tw6878034227082289156:=0
def tw11934366020802439105:=0
def tw7840856914239594245:=0
def tw13311602666079188616:=0
def tw16476809562001022376:=0
def tw11250973778337187130:=0
def tw16618842271217020771:=0
def tw6026908512614238626:=0
def tw2374436715737810281:=0
def tw8568874836027849906:=0
def tw14338995130266687190:=0
def tw10007775377959629786:=0
def tw10135300849159129307:=0
def tw18333525995760789237:=0
def tw3291397347760375596:=0
def tw9058918327066465380:=0
def tw2669206669507499086:=0
def tw2921989493169499860:=0
def tw4756812868337725524:=0
def tw7008395346022275552:=0
def tw3362505095293749883:=0
def tw5035708006793653487:=0
def tw13777718972846146504:=0
def tw4511082602780469108:=0
def tw16803238104586851673:=0
def tw912723392594310241:=0
def tw14027932684796090788:=0
def tw9549070961761926137:=0
def tw9158408658095660478:=0
def tw1645846895847692922:=0
def tw353836265535263060:=0
def tw9801215412465402007:=0
def tw13799316534094241378:=0
def tw2257587040299609828:=0
def tw2911953201143955597:=0
def tw14334322803934658701:=0
def tw13643657577856802163:=0
def tw10450207410343208314:=0
def tw1159674062501123408:=0
def tw17417843733030082308:=0
def tw5401138753612770664:=0
def tw2179776974378083727:=0
def tw7244904111384358495:=0
def tw6726312628512296119:=0
def tw16865454285897229357:=0
def tw12679268163480055923:=0
def tw3393037802372912218:=0
def tw16825059122457098834:=0
def tw8084740214153994964:=0
def tw2979706401564502793:=0
def tw17750881600247591890:=0
def tw3269587479191630807:=0
def tw7601651382030421373:=0
def tw2045478680757392099:=0
def tw7065767411472449369:=0
def tw7829270085493310721:=0
def tw9964858956794459108:=0
def tw15267355752325583534:=0
def tw16018195414072233146:=0
def tw10877481529640517428:=0
def tw18319045525529641627:=0
def tw1333331209204052708:=0
def tw18212232279960831962:=0
def tw17795411703031095988:=0
def tw9941961412281195271:=0
def tw7416084222495832962:=0
def tw2731516660038599467:=0
def tw3142113120155561386:=0
def tw4809090363027219311:=0
def tw6753907881599996801:=0
def tw10372916331396608862:=0
def tw14993326827097806119:=0
def tw5790140076457137709:=0
def tw13375048414681928995:=0
def tw2499163399247808287:=0
def tw17385867561054749787:=0
def tw6582014313512480665:=0
def tw14404919721304308095:=0
def tw12775315967035035163:=0
def tw9114373302597674713:=0
def tw1130046537987481666:=0
def tw17542970880621586511:=0
def tw4728203472523471273:=0
def tw16202187730031605013:=0
def tw13861280938228770175:=0
def tw12606763703673620287:=0
def tw14054355901156536285:=0
def tw2376270567809627133:=0
def tw18229284116058215449:=0
def tw1726961606751639210:=0
def tw4659086713930968575:=0
def tw14840184107589064200:=0
def tw4891960244221947498:=0
def tw15179112887031351390:=0
def tw3164524729519998507:=0
def tw14594802265727082172:=0
def tw3603035575996417674:=0
def tw7379346639909777447:=0
def tw16925697985138614094:=0
def tw124235803794628811:=0
def tw1231669513744644690:=0
def tw13834586602191196685:=0
def tw4873791713977398984:=0
def tw15530059709533735737:=0
def tw6183290821434488775:=0
def tw16362202352480079784:=0
def tw7914299043844593012:=0
def tw765661874120127770:=0
def tw16750523333119602621:=0
def tw12463761280404207196:=0
def tw8415890595314608943:=0
def tw15471745047865656359:=0
def tw12945350426230889601:=0
def tw10420473935118947584:=0
def tw16125110462117734783:=0
def tw11139396050293760444:=0
def tw11161623094474104129:=0
def tw8082297448992272628:=0
def tw7726023542040658741:=0
def tw4669766417950901131:=0
def tw13634499714139091038:=0
def tw17984668944549114691:=0
def tw17329448876050026018:=0
def tw11834105540540384115:=0
def tw6508840722815501586:=0
def tw2758796246001764475:=0
def tw1637823569069198324:=0
def tw16233306846044402560:=0
def tw4065957800831992920:=0
def tw5427518191634242591:=0
def tw18062581504717926505:=0
def tw200889086541399920:=0
def tw18101998884500507514:=0
def tw1919219498811640144:=0
def tw15655334123378867637:=0
def tw423924472158830556:=0
def tw2791264190268386834:=0
def tw2280433665381047666:=0
def tw15754616804849942214:=0
def tw4104965929596112344:=0
def tw3763858010083124347:=0
def tw10434794531132241624:=0
def tw5603604417373279697:=0
def tw12959833720156517428:=0
def tw6028495610220552136:=0
def tw1105274166697925995:=0
def tw7279872469351783628:=0
def tw18412044743357882288:=0
def tw15739012996419958919:=0
def tw17093767455907275915:=0
def tw16874004016423857338:=0
def tw10664466789522645882:=0
def tw2243286936957564402:=0
def tw12719761174452516276:=0
def tw9162805900552742201:=0
def tw5229763504181637084:=0
def tw17382270574837918238:=0
def tw11153261029167899502:=0
def tw6459351184636851192:=0
def tw8652286589607745731:=0
def tw8290101889105363267:=0
def tw4953219176300671087:=0
def tw11054746988403409717:=0
def tw11676824917545947973:=0
def tw17633906881238239852:=0
def tw8095111585107404088:=0
def tw8052576898577256864:=0
def tw15353966316284606280:=0
def tw762765343616265226:=0
def tw16840173655311162656:=0
def tw5761989751201758229:=0
def tw7241958659178280610:=0
def tw8936719038505614947:=0
def tw14190463102890398653:=0
def tw7311949423168561023:=0
def tw6883412762259200613:=0
def tw699512517492131656:=0
def tw6854317496754878097:=0
def tw13102107524445124435:=0
def tw14508866128578678875:=0
def tw17443203703547827312:=0
def tw8824512227647092570:=0
def tw8270269609653861206:=0
def tw17123702770565657223:=0
def tw6026174128589499918:=0
def tw11168460158482030319:=0
def tw6876313685093282876:=0
def tw469499079350663053:=0
def tw9576862952317878489:=0
def tw9102921855545988718:=0
def tw4058812729724169345:=0
def tw12119482680047057460:=0
def tw7558306648392326975:=0
def tw357690278090598309:=0
def tw6174133013894903854:=0
def tw9031013972643230455:=0
def tw15936790910299736682:=0
def tw3590453490503055005:=0
def tw789641943931989323:=0
def tw12061810495709097329:=0
def tw12570748038857808261:=0
def tw14446115339814486305:=0
def tw6850686273293060896:=0
end PySem.W.Fast
set_option maxRecDepth 100000 in
set_option maxHeartbeats 0 in
theorem PySem.Challenge.cw_tanglehouse_k25_whole_any_text_read_or_n_holds : PySem.Challenge.rw_tanglehouse_k25_whole_any_text_read_or_n.Holds := by
 w_on;o_law;k_head;(case hw=>w_witness2)
 k_fill
 refine K25.walk (l:=PySem.Challenge.rw_tanglehouse_k25_whole_any_text_read_or_n) rfl rfl (λw h Y=>PySem.W.kIn_of Y) ?F
 case F =>
  intro w mg fa h KX G hmg
  refine' K25.Qza KX G hmg ?v00 ?v01 ?v02 ?v03 ?v04 ?v05 ?v06 ?v07 ?v08 ?v09 ?v0a ?v0b ?v0c ?v0d ?v0e ?v0f ?v0g ?v0h ?v0i ?v0j ?v0k ?v0l ?v0m ?v0n ?v0o ?v0p ?v0q ?v0r ?v0s ?v0t ?v0u ?v0v ?v0w ?v0x ?v0y ?v0z ?v10 ?v11 ?v12 ?v13 ?v14 ?v15 ?v16 ?v17 ?v18 ?v19 ?v1a ?v1b ?v1c ?v1d ?v1e ?v1f ?v1g ?v1h ?v1i ?v1j ?v1k ?v1l ?v1m ?v1n ?v1o ?v1p ?v1q ?v1r ?v1s ?v1t ?v1u ?v1v ?v1w ?v1x ?v1y ?v1z ?v20 ?v21 ?v22 ?v23 ?v24 ?v25 ?v26 ?v27 ?v28 ?v29 ?v2a ?v2b ?v2c ?v2d ?v2e ?v2f ?v2g ?v2h ?v2i ?v2j ?v2k ?v2l ?v2m ?v2n ?v2o ?v2p ?v2q ?v2r ?v2s ?v2t ?v2u ?v2v ?v2w ?v2x ?v2y ?v2z ?v30 ?v31 ?v32 ?v33 ?v34 ?v35 ?v36 ?v37 ?v38 ?v39 ?v3a ?v3b ?v3c ?v3d ?v3e ?v3f ?v3g ?v3h
  case v00|v01|v02|v03|v04|v05|v06|v07|v08|v09|v0a|v0b|v0c|v0d|v0e|v0f|v0g|v0h|v0i|v0j|v0k|v0l|v0m|v0n|v0o|v0p|v0q|v0r|v0s|v0t|v0u|v0v|v0w|v0x|v0y|v0z|v10|v11|v12|v13|v14|v15|v16|v17|v18|v19|v1a|v1b|v1c|v1d|v1e|v1f|v1g|v1h|v1i|v1j|v1k|v1l|v1m|v1n|v1o|v1p|v1q|v1r|v1s|v1t|v1u|v1v|v1w|v1x|v1y|v1z|v20|v21|v22|v23|v24|v25|v26|v27|v28|v29|v2a|v2b|v2c|v2d|v2e|v2f|v2g|v2h|v2i|v2j|v2k|v2l|v2m|v2n|v2o|v2p|v2q|v2r|v2s|v2t|v2u|v2v|v2w|v2x|v2y|v2z|v30|v31|v32|v33|v34|v35|v36|v37|v38|v39|v3a|v3b|v3c|v3d|v3e|v3f|v3g|v3h=>first | exact ⟨_,_,_,_,_,_,_,_,_,by k_is,by k_is⟩ | k_is | rfl | decide +kernel
