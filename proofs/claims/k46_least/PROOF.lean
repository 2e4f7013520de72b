import PyProof.Rows.All
import Wide.All
import OpenK.AllK
import Wide.FinOn
import Lean
import PyProof.EqAt
import PyProof.EqKinds
import PyProof.TupleCall
import KE.KLam
import PySem.Challenge.RW_turnframe_k46_least
set_option Elab.async false
set_option linter.all false
set_option maxRecDepth 100000
local macro_rules|`(($a,$b,*))=>`(⟨$a,$b,*⟩)
local macro_rules | `(tactic| omega) => `(tactic| first | lia | omega (config := {}))
local macro_rules | `(⋯) => `(by omega)
local macro_rules | `(∅) => `(by decide)
local macro_rules | `(‹2›) => `(⟨rfl,rfl,rfl,by decide +kernel,rfl,by decide +kernel,by decide +kernel⟩)
local macro_rules | `(‹4›) => `(by decide +kernel)
abbrev Q0:=@Nat.le_trans
abbrev Q1:=@List.length_map
abbrev Q2:=@List.getD_eq_getElem?_getD
abbrev Q3:=@List.getElem?_map
abbrev Q4:=@Nat.le_refl
abbrev Q5:=@Nat.pow_le_pow_right
abbrev Q6:=@List.getElem?_eq_getElem
abbrev Q7:=@Nat.lt_of_le_of_lt
abbrev Q8:=@Nat.mul_pos
abbrev Q9:=@Nat.pow_pos
abbrev Qa:=@Nat.lt_of_lt_of_le
abbrev Qb:=@Nat.mul_le_mul_left
abbrev Qc:=@Nat.ne_of_lt
abbrev Qd:=@List.mem_of_getElem?
abbrev Qe:=@List.mem_cons
abbrev Qf:=@List.mem_singleton
abbrev Qg:=@Nat.zero_le
abbrev Qh:=@List.size_toArray
abbrev Qi:=@List.length_append
abbrev Qj:=@Nat.mul_le_mul
abbrev Qk:=@Nat.pow_succ
abbrev Ql:=@Int.natAbs_mul
abbrev Qm:=@Nat.mul_assoc
abbrev Qn:=@List.length_range
abbrev Qo:=@Int.natAbs_natCast
abbrev Qp:=@List.getElem?_eq_some_iff
abbrev Qq:=@Nat.mul_le_mul_right
abbrev Qr:=@List.length_take
abbrev Qs:=@List.getElem?_range
abbrev Qu:=@List.getElem_mem
abbrev Qv:=@Bool.false_ne_true
abbrev Qw:=@List.mem_append_right
abbrev Qx:=@Int.mul_assoc
abbrev Qy:=@Rat.num_divInt_den
abbrev Qz:=@Nat.add_sub_cancel
abbrev W0:=@Nat.lt_irrefl
abbrev W1:=@Int.mul_comm
abbrev W2:=@Int.natCast_mul
abbrev W3:=@Nat.mul_comm
abbrev W4:=@Nat.pow_add
abbrev W5:=@List.mem_map
abbrev W6:=@List.mem_cons_self
abbrev W7:=@List.mem_cons_of_mem
abbrev W8:=@List.length_replicate
abbrev W9:=@List.lookup_cons
abbrev Wa:=@Int.mul_pos
abbrev Wb:=@Rat.divInt_eq_divInt_iff
abbrev Wc:=@List.length_set
abbrev Wd:=@List.length_reverse
abbrev We:=@List.mem_append
abbrev Wf:=@Int.gcd_dvd_right
abbrev Wg:=@List.not_mem_nil
abbrev Wh:=@List.map_append
abbrev Wi:=@Rat.intCast_mul
abbrev Wj:=@List.length_drop
abbrev Wk:=@Int.zero_add
abbrev Wl:=@Nat.le_of_lt
abbrev Wm:=@Int.fmod_eq_emod_of_nonneg
abbrev Wo:=@Nat.le_of_eq
abbrev Wp:=@List.append_nil
abbrev Wq:=@List.getElem?_replicate
abbrev Wr:=@List.getElem?_append_left
abbrev Ws:=@Int.toNat_natCast
abbrev Wt:=@Nat.le_mul_of_pos_left
abbrev Wu:=@Nat.le_of_not_lt
abbrev Wv:=@Nat.one_mul
abbrev Ww:=@Int.natCast_emod
abbrev Wx:=@List.length_zipWith
abbrev Wy:=@List.length_cons
abbrev Wz:=@List.getElem?_append_right
abbrev U0:=@Int.gcd_dvd_left
abbrev U1:=@List.take_of_length_le
abbrev U2:=@Int.natAbs_dvd_natAbs
abbrev U3:=@List.getElem?_take
abbrev U4:=@List.getElem?_reverse
abbrev U7:=@Nat.pow_le_pow_left
abbrev U8:=@Nat.le_mul_of_pos_right
abbrev U9:=@Int.emod_eq_zero_of_dvd
abbrev Ua:=@Rat.divInt_mul_divInt
abbrev Ub:=@Nat.le_of_dvd
abbrev Uc:=@List.mem_of_mem_take
abbrev Ud:=@Nat.pow_one
abbrev Ue:=@Nat.sub_self
abbrev Uf:=@Nat.one_pow
abbrev Ug:=@List.mem_filter
abbrev Uh:=@List.mem_range
abbrev Ui:=@List.map_cons
abbrev Uj:=@Int.mul_neg
abbrev Uk:=@Int.emod_eq_of_lt
abbrev Ul:=@Nat.sub_zero
abbrev Um:=@List.getElem?_set
abbrev Uo:=@List.getElem?_eq_none
abbrev Uq:=@List.getElem?_zipWith
abbrev Ur:=@List.filterMap_cons
abbrev Us:=@Nat.ne_of_gt
abbrev Ut:=@Int.mul_one
abbrev Uu:=@Nat.lt_succ_self
abbrev Uv:=@Nat.not_lt
abbrev Uw:=@Nat.le_succ_of_le
abbrev Ux:=@Int.mul_nonneg
abbrev Uy:=@Int.lt_of_not_ge
abbrev Uz:=@Nat.succ_mul
abbrev ZZfg:=PySem.W.Frag
abbrev ZZla:=List PySem.Addr
abbrev ZZmg:=PySem.Str->Option PySem.Value
namespace L2
open PySem PySem.Spec PyProof.Rows
abbrev Key:=Sum Int Str
def Zqr:Key->Value->Bool
 | .inl k,v=>Value.isInt k v
 | .inr x,v=>Value.isStrOf x v
def ZtQ(w:World):Key->Int
 | .inl k=>hashInt k
 | .inr x=>hashStr w x
def Za3:∀ {k:Key} {v:Value},Zqr k v=true->(∃i t,k=Sum.inl i/\v=Value.int i t)\/(∃x t,k=Sum.inr x/\v=Value.str x t)
 | .inl i,v,h=>by
  obtain ⟨t,e⟩:=Value.isInt_shape (k:=i) (v:=v) h;exact .inl (i,t,rfl,e)
 | .inr x,v,h=>by
  obtain ⟨t,e⟩:=Value.isStrOf_shape (x:=x) (v:=v) h;exact .inr (x,t,rfl,e)
def Zqs(a b:Int):decide ((Sum.inl a:Key)=Sum.inl b)=(a==b):=by
 by_cases e:a=b
 ·subst e;simp
 ·have h:¬(Sum.inl a:Key)=Sum.inl b:=λq=>e<|Sum.inl.inj q;rw[decide_eq_false h];exact (beq_eq_false_iff_ne.mpr e).symm
def Zqt(a b:Str):decide ((Sum.inr a:Key)=Sum.inr b)=decide (a=b):=by
 by_cases e:a=b
 ·subst e;simp
 ·have h:¬(Sum.inr a:Key)=Sum.inr b:=λq=>e<|Sum.inr.inj q;rw[decide_eq_false h,decide_eq_false e]
def Zqu(a:Int)(b:Str):decide ((Sum.inl a:Key)=Sum.inr b)=false:=decide_eq_false<|λq=>nomatch q
def Zqv(a:Str)(b:Int):decide ((Sum.inr a:Key)=Sum.inl b)=false:=decide_eq_false<|λq=>nomatch q
def ZdE(prog:Program)(w:World):PySem.KeyKind prog w Key where
 is:=Zqr
 hash:=ZtQ w
 inj:=λv a b g d=>by
  rcases Za3 g with ⟨i,t,rfl,rfl⟩|⟨x,t,rfl,rfl⟩
  ·rcases Za3 d with ⟨j,u,rfl,e⟩|⟨y,u,rfl,e⟩
   ·injection e with e1 _;rw[e1]
   ·exact nomatch e
  ·rcases Za3 d with ⟨j,u,rfl,e⟩|⟨y,u,rfl,e⟩
   ·exact nomatch e
   ·injection e with e1 _;rw[e1]
 byValue:=λk v h=>by
  rcases Za3 h with ⟨i,t,rfl,rfl⟩|⟨x,t,rfl,rfl⟩ <;> rfl
 pyHash:=λc h=>by
  rcases Za3 c with ⟨i,t,rfl,rfl⟩|⟨x,t,rfl,rfl⟩
  ·exact wpAny_pyHash_int h
  ·exact wpAny_pyHash_str h
 eqBool:=λf c h=>by
  rcases Za3 f with ⟨i,t,rfl,rfl⟩|⟨x,t,rfl,rfl⟩
  ·rcases Za3 c with ⟨j,u,rfl,rfl⟩|⟨y,u,rfl,rfl⟩
   ·rw[Zqs] at h;exact wpAny_eqBool_int h
   ·rw[Zqu] at h;exact SeqAt.EqAt.int_str i t y u _ _ _ _ h
  ·rcases Za3 c with ⟨j,u,rfl,rfl⟩|⟨y,u,rfl,rfl⟩
   ·rw[Zqv] at h;exact SeqAt.EqAt.str_int x t j u _ _ _ _ h
   ·rw[Zqt] at h;exact wpAny_eqBool_str h
 «strs»:=λk x t v h=>by
  rcases Za3 h with ⟨i,u,rfl,e⟩|⟨y,u,rfl,e⟩
  ·exact nomatch e
  ·injection e with e1 _
   subst e1
   cases v <;> rfl
inductive V where
 |non|bl (b:Bool)|int (i:Int)|str (x:Str)|byt (b:Array UInt8)|flt (b:UInt64)|ref (a:Addr)|ty (n:String)
 deriving DecidableEq
def RelV:V->Value->Prop
 | .non,u=>u=Value.none
 | .bl b,u=>u=Value.bool b
 | .int i,u=>∃t,u=Value.int i t
 | .str x,u=>∃t,u=Value.str x t
 | .byt b,u=>∃t,u=Value.bytes b t
 | .flt b,u=>∃t,u=Value.float b t
 | .ref a,u=>u=Value.ref a
 | .ty n,u=>u=Value.type n
abbrev Vals:List V->List Value->Prop:=Paired RelV
def Vals.length{xs:List V}{us:List Value}(r:Vals xs us):xs.length=us.length:=Paired.length r
def Vals.get:∀ {xs:List V} {us:List Value} {i:Nat} {x:V},Vals xs us->xs[i]?=some x->∃u,us[i]?=some u/\RelV x u
 |_,_,_,_,.nil,e=>by simp at e
 |_,_,0,_,.cons r _,e=>by simp at e;subst e;exact (_,rfl,r)
 |_,_,i+1,x,.cons _ t,e=>by
  obtain ⟨u,a,b⟩:=Vals.get (i:=i) (x:=x) t (by simpa using e);exact (u,by simpa using a,b)
def Vals.set(r:RelV x u):∀ {xs:List V} {us:List Value} (i:Nat),Vals xs us->Vals (xs.set i x) (us.set i u)
 |_,_,_,.nil => .nil
 |_,_,0,.cons _ t => .cons r t
 |_,_,i+1,.cons q t => .cons q<|Vals.set r i t
def Vals.append:∀ {xs ys:List V} {us ws:List Value},Vals xs us->Vals ys ws->Vals (xs++ys) (us++ws)
 |_,_,_,_,.nil,s=>s
 |_,_,_,_,.cons r t,s => .cons r<|Vals.append t s
def Vals.take:∀ {xs:List V} {us:List Value} (n:Nat),Vals xs us->Vals (xs.take n) (us.take n)
 |_,_,0,_ => .nil
 |_,_,_+1,.nil => .nil
 |_,_,n+1,.cons r t => .cons r<|Vals.take n t
def Vals.drop:∀ {xs:List V} {us:List Value} (n:Nat),Vals xs us->Vals (xs.drop n) (us.drop n)
 |_,_,0,r=>r
 |_,_,_+1,.nil => .nil
 |_,_,n+1,.cons _ t=>Vals.drop n t
def RelO:Option V->Option Value->Prop
 |some v,some u=>RelV v u
 |none,none=>True
 |_,_=>False
def KV{κ:Type}:List (κ×V)->List (κ×Value)->Prop:=Paired λ(p:κ×V) (q:κ×Value)=>p.1=q.1/\RelV p.2 q.2
def kV:Key->V
 | .inl i => .int i
 | .inr x => .str x
inductive HO where
    | lst (xs:List V)
    | tup (xs:List V)
    | dK (kvs:List (Key×V)) | dT (kvs:List (List Key×V))
    | set (S:Int->Bool) (n:Nat)
    | ins (C dx:Addr) (fs:List (Str×V))
    | own (x:Addr)
    | xd (fs:List (Str×V))
    | met (f x:Addr)
    | rng (lo hi:Int)
    | frz (o:Obj) (u:HO)
    | tbl (ps:Array Value)
    | ext (φ:Heap->Prop)
abbrev Hp:=Addr->Option HO
def upd(H:Hp)(a:Addr)(o:HO):Hp:=λb=>if b=a then some o else H b
def Zai:upd H a o a=some o:=by unfold upd;rw[if_pos rfl]
def Zaj{a b:Addr}(h:b≠a):upd H a o b=H b:=by unfold upd;rw[if_neg h]
def ZoY:upd (upd H a o) a u=upd H a u:=by
 funext b;unfold upd;split <;> rfl
def ZaF{H:Hp}{o:HO}(h:H a=some o)(h':H b=none):a≠b:=by
 intro e;subst e;rw[h] at h';cases h'
section
variable(P:Program)(w:World)
def ObjOk(H:Hp)(h:Heap)(a:Addr):HO->Prop
  | .lst d=>d.length<=sizeLine/\∃(b:List Value) (n:Nat),Vals d b/\h.get? a=some { cls:=.type "list", data:=.seq b.toArray n }
  | .tup d=>d.length<=sizeLine/\∃b:List Value,Vals d b/\IsTup h a b.toArray
  | .dK kvs=>kvs.length<=sizeLine/\(a==sysModules)=false/\∃g,KV kvs g/\h.DictOf (ZdE P w) a g
  | .dT kvs=>kvs.length<=sizeLine/\(a==sysModules)=false/\∃d:List (List Key×Addr×Value),
      Paired (λ(p:List Key×V) (q:List Key×Addr×Value)=>p.1=q.1/\H q.2.1=some (.tup<|p.1.map kV)/\RelV p.2 q.2.2) kvs d ∧
      ∃o m s,h.get? a=some o/\o.ExactDict/\o.data = .dict m s/\m.toList=d.map (entryOfKey<|tupleKind<|ZdE P w)/\(d.map (·.1)).Nodup
  | .set S n=>h.SetOf (intKind P w) a S n
  | .ins C dx fs=>H dx=some (.own a)/\fs.length<=1000/\dx≠a/\h.get? a=some (PySem.W.instObj C dx) ∧
      ∃e,h.Ns1 dx e/\(∀f,RelO (fs.lookup f)<|e f)/\PySem.Within e (fs.map (·.1))
  | .own _=>∃o,h.get? a=some o
  | .xd fs=>∃e,h.Ns1 a e/\∀f,RelO (fs.lookup f)<|e f
  | .rng lo hi=>∃t u v,h.get? a=some { cls:=.type "range", data:=.fields #[.int lo t,.int hi u,.int 1 v] }
  | .frz o u=>h.get? a=some o/\ObjOk H h a u
  | .tbl ps=>h.get? a=some { cls:=.none,data:=.fields #[] }\/∃l c q t i j g y,ps=#[l,c,.str q t]/\h.get? a=some { cls:=.none,data:=.fields #[l,c,.ref i] }/\H i=some (.frz j<|.own i)/\j.data = .fields g/\g[1]?=some (.str q y)
  | .met f x=>h.get? a=some (PySem.W.methodObj (.ref f)<|.ref x)
  | .ext φ=>φ h/\(∃o,h.get? a=some o)/\∀r k:Heap,φ r->(∀o,r.get? a=some o->k.get? a=some o)->φ k
def HOk(H:Hp)(h:Heap):Prop:=∀a o,H a=some o->ObjOk P w H h a o
end
section
variable{P:Program}{w:World}{H H':Hp}{h h':Heap}{a:Addr}{o:HO}
def ObjOk.lt(x:ObjOk P w H h a o):a<h.objs.size:=by
 cases o with
 |lst d=>obtain ⟨_,_,_,_,e⟩:=x;exact Heap.lt_size e
 |tup d=>obtain ⟨_,_,_,p⟩:=x;exact p.lt
 |dK b=>obtain ⟨_,_,_,_,o,_,_,e,_⟩:=x;exact Heap.lt_size e
 |dT b=>obtain ⟨_,_,_,_,o,_,_,e,_⟩:=x;exact Heap.lt_size e
 |set S n=>obtain ⟨o,_,_,_,e,_⟩:=x;exact Heap.lt_size e
 |ins C i c=>obtain ⟨_,_,_,e,_⟩:=x;exact Heap.lt_size e
 |own y=>obtain ⟨_,e⟩:=x;exact Heap.lt_size e
 |xd c=>obtain ⟨_,⟨_,_,_,e,_⟩,_⟩:=x;exact Heap.lt_size e
 |rng l j=>obtain ⟨_,_,_,e⟩:=x;exact Heap.lt_size e
 |frz k u=>obtain ⟨e,_⟩:=x;exact Heap.lt_size e
 |tbl m =>
  rcases x with e|⟨_,_,_,_,_,_,_,_,_,e,_⟩
  ·exact Heap.lt_size e
  ·exact Heap.lt_size e
 |met f y=>exact Heap.lt_size (show h.get? a=some _ from x)
 |ext g=>obtain ⟨_,⟨_,e⟩,_⟩:=x;exact Heap.lt_size e
def Paired.mapP{α e:Type}{F G:α->e->Prop}:∀ {d:List α} {c:List e},Paired F d c->(∀a b,F a b->G a b)->Paired G d c
 |_,_,.nil,_ => .nil
 |_,_,.cons r t,f => .cons (f _ _ r)<|Paired.mapP t f
inductive Im where
 |tup (xs:List V)
 |frz (o:Obj) (u:HO)
def Im.ho:Im->HO
 | .tup xs => .tup xs
 | .frz o u => .frz o u
def ObjOk.stay(x:ObjOk P w H h a o)(k:∀b u,(b=a\/H b=some (.own a))->h.get? b=some u->h'.get? b=some u)
    (L:∀b,H b=some (.own a)->H' b=some (.own a)) (G:∀b (x:Im),H b=some x.ho->H' b=some x.ho):ObjOk P w H' h' a o:=by
  induction o with
  | lst E=>obtain ⟨z,m,n,r,e⟩:=x; exact (z,m,n,r,k _ _ (.inl rfl) e)
  | tup E=>obtain ⟨z,m,r,g,e,c⟩:=x; exact (z,m,r,g,k _ _ (.inl rfl) e,c)
  | dK s=>obtain ⟨z,y,D,r,g,i,j,e,c⟩:=x; exact (z,y,D,r,g,i,j,k _ _ (.inl rfl) e,c)
  | dT s =>
    obtain ⟨z,y,E,r,g,i,j,e,c⟩:=x;exact (z,y,E,Paired.mapP r λp q z=>(z.1,G _ (.tup _) z.2.1,z.2.2),g,i,j,k _ _ (.inl rfl) e,c)
  | set S n=>obtain ⟨g,i,j,t,e,c⟩:=x; exact (g,i,j,t,k _ _ (.inl rfl) e,c)
  | ins C N I =>
    obtain ⟨d,z,J,e,B,⟨A,i,j,K,c⟩,r⟩:=x;exact (L _ d,z,J,k _ _ (.inl rfl) e,B,(A,i,j,k _ _ (.inr d) K,c),r)
  | own y=>obtain ⟨g,e⟩:=x; exact (g,k _ _ (.inl rfl) e)
  | xd I=>obtain ⟨B,⟨A,i,j,e,c⟩,r⟩:=x; exact (B,(A,i,j,k _ _ (.inl rfl) e,c),r)
  | rng T O=>obtain ⟨t,u,v,e⟩:=x; exact (t,u,v,k _ _ (.inl rfl) e)
  | frz g u M=>obtain ⟨e,q⟩:=x; exact (k _ _ (.inl rfl) e,M q)
  | tbl Q =>
    rcases x with e | ⟨l,c,q,t,c',oc,D,t',e0,e,z,r⟩
    · exact .inl (k a _ (.inl rfl) e)
    · exact .inr (l,c,q,t,c',oc,D,t',e0,k a _ (.inl rfl) e,G _ (.frz oc<|.own c') z,r)
  | met f y =>
    have e:h.get? a=some (PySem.W.methodObj (.ref f)<|.ref y):=x;show h'.get? a=some (PySem.W.methodObj (.ref f)<|.ref y);exact k a _ (.inl rfl) e
  | ext R=>obtain ⟨p,⟨o,e⟩,F⟩:=x; exact (F _ _ p λo q=>k _ _ (.inl rfl) q,(o,k _ _ (.inl rfl) e),F)
def HOk.lt(x:HOk P w H h)(e:H a=some o):a<h.objs.size:=(x a o e).lt
def HOk.fresh(x:HOk P w H h)(e:h.objs.size<=a):H a=none:=by
 cases q:H a with
 |none=>rfl
 |some u=>exact absurd (Qa (x.lt q) e)<|W0 _
def HOk.kept(x:HOk P w H h)(k:∀b u,h.get? b=some u->h'.get? b=some u):HOk P w H h':=λa o e =>
 (x a o e).stay (λb u _ q=>k b u q) (λ_ q=>q) λ_ _ q=>q
def HOk.laid(x:HOk P w H h)(k:∀b u,h.get? b=some u->h'.get? b=some u)(g:h.objs.size<=a)(d:ObjOk P w (upd H a o) h' a o):HOk P w (upd H a o) h':=λb u e=>by
 have f:=x.fresh g
 by_cases hb:b=a
 ·subst hb;rw[Zai] at e;cases e;exact d
 ·rw[Zaj hb] at e;exact (x b u e).stay (λc v _ q=>k c v q) (λc q=>by rw[Zaj<|ZaF q f];exact q) λc i q=>by rw[Zaj<|ZaF q f];exact q
end
def Rd(H:Hp)(a:Addr)(u:HO):Prop:=H a=some u\/∃o,H a=some (.frz o u)
def Rd.ok(r:Rd H a u)(x:HOk P w H h):ObjOk P w H h a u:=by
 rcases r with r|⟨o,r⟩
 ·exact x a u r
 ·obtain ⟨_,q⟩:=x a _ r;exact q
def Mut:Option HO->Prop
 |some (.lst _)=>True
 |some (.dK _)=>True
 |some (.dT _)=>True
 |some (.set _ _)=>True
 |some (.ins _ _ _)=>True
 |some (.ext _)=>True
 |_=>False
section
variable{P:Program}{w:World}{H:Hp}{h h':Heap}{x e:Addr}{o':HO}
def HOk.write(n:HOk P w H h)(f:Mut (H x))(l:e=x\/H e=some (.own x))(k:∀b u,b≠e->h.get? b=some u->h'.get? b=some u)(j:∃u,h'.get? e=some u)
    (g:ObjOk P w (upd H x o') h' x o'):HOk P w (upd H x o') h':=λb u q=>by
  have a:∀c y,H c=some (.own y)->c≠x:=λc y r z=>by subst z; rw[r] at f; exact f
  have d:∀c (i:Im),H c=some i.ho->c≠x:=λc i r z=>by subst z; rw[r] at f; cases i <;> exact f
  by_cases hb:b=x
  · subst hb; rw[Zai] at q; cases q; exact g
  · rw[Zaj hb] at q
    by_cases hbe:b=e
    · have m:H b=some (.own x):=by
        rcases l with z | z
        · exact absurd (hbe.trans z) hb
        · rw[hbe]; exact z
      rw[q] at m; cases m;obtain ⟨v,o⟩:=j;exact (v,by rw[hbe]; exact o)
    · refine (n b u q).stay (λc v hc r=>k c v ?_ r) (λc r=>by rw[Zaj<|a c b r]; exact r) λc p r=>by rw[Zaj<|d c p r]; exact r
      rcases hc with rfl | hc
      · exact hbe
      · rintro rfl
        rcases l with z | z
        · exact a c b hc z
        · rw[hc] at z; cases z; exact hb rfl
end
structure Un (fs ex:ZZla) (H H':Hp) (h h':Heap):Prop where
 keep:∀b o,h.get? b=some o->H b=none->b∉fs->b∉ex->h'.get? b=some o
 slot:∀b o,h.get? b=some o->H b=none->b∈fs->b∉ex->∃sl,h'.get? b=some { o with slots:=sl }
 free:∀b o,h.get? b=some o->H b=none->b∉ex->H' b=none
 there:∀b o,h.get? b=some o->b∉ex->∃o',h'.get? b=some o'
 tups:∀b xs,H b=some (.tup xs)->H' b=some (.tup xs)
 frzs:∀b o u,H b=some (.frz o u)->H' b=some (.frz o u)
 tbls:∀b ps,H b=some (.tbl ps)->∃more,H' b=some (.tbl (ps++more))
section
variable{fs fs' ex ex':ZZla}{H H1 H2:Hp}{h h1 h2 h':Heap}{a x e:Addr}{o:HO}
def Un.any(u:Un fs ex H H1 h h1){b:Addr}{c:Obj}(q:h.get? b=some c)(n:H b=none)(d:b∉ex):∃f,h1.get? b=some { c with slots:=f }:=by
 by_cases hb:b∈fs
 ·exact u.slot b c q n hb d
 ·exact (c.slots,u.keep b c q n hb d)
def Un.kept(k:∀b u,h.get? b=some u->h'.get? b=some u):Un fs ex H H h h' :=
 (λb c q _ _ _=>k b c q,λb c q _ _ _=>(c.slots,k b c q),λ_ _ _ n _=>n,λb c q _=>(c,k b c q),λ_ _ q=>q,λ_ _ _ q=>q,λ_ d q=>(#[],by rw[q];simp))
def Un.refl:Un fs ex H H h h:=Un.kept λ_ _ q=>q
def Un.laid(k:∀b u,h.get? b=some u->h'.get? b=some u)(f:h.objs.size<=a)(c:H a=none):Un fs ex H (upd H a o) h h' where
 keep:=λb u q _ _ _=>k b u q
 slot:=λb u q _ _ _=>(u.slots,k b u q)
 free:=λb u q n _=>by rw[Zaj<|Qc<|Qa (Heap.lt_size q) f];exact n
 there:=λb u q _=>(u,k b u q)
 tups:=λb d q=>by rw[Zaj<|ZaF q c];exact q
 frzs:=λb u d q=>by rw[Zaj<|ZaF q c];exact q
 tbls:=λb g q=>(#[],by rw[Zaj<|ZaF q c,q];simp)
def Un.write(c:Mut (H x))(j:e=x\/H e=some (.own x))(k:∀b u,b≠e->h.get? b=some u->h'.get? b=some u)(d:∃u,h'.get? e=some u):Un fs ex H (upd H x o) h h':=by
 have i:∀b,H b=none->b≠x:=λb n z=>by subst z;rw[n] at c;exact c
 have g:∀b,H b=none->b≠e:=λb n z=>by
  subst z;rcases j with r|r
  ·exact i b n r
  ·rw[n] at r;cases r
 have f:∀b u,H b=some u->¬Mut (some u)->b≠x:=λb u q l z=>by subst z;rw[q] at c;exact l c
 refine (λb u q n _ _=>k b u (g b n) q,λb u q n _ _=>(u.slots,k b u (g b n) q),λb u q n _=>by rw[Zaj<|i b n];exact n,λb u q _=>?_,
  λb m q=>by rw[Zaj<|f b _ q λz=>z];exact q,λb u m q=>by rw[Zaj<|f b _ q λz=>z];exact q,λb p q=>(#[],by rw[Zaj<|f b _ q λz=>z,q];simp))
 by_cases hbe:b=e
 ·subst hbe;exact d
 ·exact (u,k b u hbe q)
end
def trk(h:Heap)(H:Hp):ZZla:=(List.range h.objs.size).filter λa=>(H a).isSome
def ZmK(h:Heap)(H:Hp):Heap:=PySem.W.hideAll h<|trk h H
def Zky(h:Heap)(H:Hp):(ZmK h H).objs.size=h.objs.size:=PySem.W.hideAll_size _ _
def ZeS{h:Heap}{H:Hp}{b:Addr}{o:Obj}(e:h.get? b=some o)(n:H b=none):(ZmK h H).get? b=some o :=
 PySem.W.hideAll_get _ e λa=>by
  have q:(H b).isSome=true:=(Ug.mp a).2;rw[n] at q;simp at q
def ZoZ{h:Heap}{b:Addr}{o:Obj}(e:(ZmK h H).get? b=some o):h.get? b=some o/\H b=none:=by
 have a:h.get? b=some o:=PySem.W.of_hideAll (trk h H) e;refine (a,?_)
 cases q:H b with
 |none=>rfl
 |some x =>
  have c:b∈trk h H:=Ug.mpr (Uh.mpr<|Heap.lt_size a,by simp[q]);have z:(ZmK h H).get? b=none:=PySem.W.hideAll_none (trk h H) c;rw[z] at e;cases e
structure Mod (K:ZZfg) (mg:ZZmg) (base:Heap):Prop where
 kin:K.In base
 glob:base.Ns mainGlobals mg
 blt:∃mb,base.Ns builtinsNs mb/\∀x:Str,x ≠"__name__" -> mb x=bootBuiltins x
 nolimit:base.NoLimit
structure Cx where
 prog:Program
 w:World
 K:ZZfg
 mg:Str->Option Value
 base:Heap
 A:Around
 N:List Str
 s₀:Shared
 H₀:Hp
 env:Env
 outer:List Env
 stack:List Env
 ex:ZZla
 fn:Str->Bool
 calm:Bool
 pn:List (Addr×Obj)
 xe:Value->Shared->Prop
def frs(l:List Env):ZZla:=l.filterMap (·.frame)
abbrev Cx.fs(X:Cx):ZZla:=frs X.outer
def Vis(a:Scope)(x:Str):Prop:=a.names.lookup x=some .local\/a.names.lookup x=some .cell\/a.names.lookup x=some .free
def Loc(a:Scope)(x:Str):Prop:=a.names.lookup x=some .local\/a.names.lookup x=some .cell
def ZtA(env:Env)(h:Heap)(m:Str->Option Value)(x:Str)(u:Value):Prop :=
 (env.kindOf x=some .local/\m x=some u)\/((env.kindOf x=some .cell\/env.kindOf x=some .free)/\∃c,env.cells.lookup x=some c/\h.IsCell c (some u))
structure Cx.Ok (X:Cx):Prop where
 mod:Mod X.K X.mg X.base
 kind:X.env.scope.kind = .function
 glob:X.env.globals=mainGlobals
 blt:X.env.builtins=builtinsNs
 above:X.s₀.heap.objs.size<=X.env.locals
 inj:∀x y c,X.env.cells.lookup x=some c->X.env.cells.lookup y=some c->x=y
 has:∀x,(X.env.kindOf x=some .cell\/X.env.kindOf x=some .free)->∃c,X.env.cells.lookup x=some c
 cab:∀x c,X.fn x=true->X.env.cells.lookup x=some c->X.s₀.heap.objs.size<=c
 hd:X.calm=true->X.A.handled=none
 frames:X.A.frames=some X.stack
 stk:X.stack=X.outer\/(X.stack=X.env::X.outer/\X.env.frame=some X.env.locals)
 exf:∀b∈X.ex,b≠X.env.locals/\∀x c,X.env.cells.lookup x=some c->c≠b
 bs:∀b o,X.base.get? b=some o->X.s₀.heap.get? b=some o/\X.H₀ b=none
 bsz:X.base.objs.size<=X.s₀.heap.objs.size
 noex:∀b o,X.base.get? b=some o->b∉X.ex
 exfs:∀b∈X.ex,b∉X.fs
 funs:X.s₀.heap.FunFrames X.base X.outer
 frf:∀b∈X.fs,X.H₀ b=none
structure Inv (X:Cx) (pins:List (Addr×Obj)) (σ:List (Option V)) (H:Hp) (s:Shared):Prop where
 ok:X.Ok
 os:s.os=X.s₀.os
 bare:AllBare s.gens
 base:Un X.fs X.ex X.H₀ H X.s₀.heap s.heap
 loc:∃m,s.heap.Ns X.env.locals m/\∀(i:Nat) (x:Str) (v:V),X.N[i]?=some x->σ[i]?=some (some v)->Vis X.env.scope x->∃u,RelV v u/\ZtA X.env s.heap m x u
 cell:∀x c,X.env.cells.lookup x=some c->∃v,s.heap.IsCell c v
 free:H X.env.locals=none
 freeC:∀x c,X.env.cells.lookup x=some c->H c=none
 pin:∀p∈X.pn++pins,s.heap.get? p.1=some p.2/\H p.1=none/\p.1≠X.env.locals/\p.1∉X.fs/\∀v,p.2.data ≠ .cell v
 hok:HOk X.prog X.w H s.heap
 len:σ.length=X.N.length
section
variable{X:Cx}{pins:List (Addr×Obj)}{σ:List (Option V)}{H H':Hp}{s:Shared}{h':Heap}
def Cx.Ok.nofr(c:X.Ok){b:Addr}{o:Obj}(e:X.base.get? b=some o):b∉X.fs:=λa=>by
 have:=(c.funs.mem a).1;rw[e] at this;cases this
def Inv.bs(I:Inv X pins σ H s):∀b o,X.base.get? b=some o->s.heap.get? b=some o/\H b=none:=λb o e =>
 (I.base.keep b o (I.ok.bs b o e).1 (I.ok.bs b o e).2 (I.ok.nofr e)<|I.ok.noex b o e,I.base.free b o (I.ok.bs b o e).1 (I.ok.bs b o e).2<|I.ok.noex b o e)
def Inv.bk(I:Inv X pins σ H s):∀b o,X.base.get? b=some o->s.heap.get? b=some o:=λb o e=>(I.bs b o e).1
def Inv.mod(I:Inv X pins σ H s):Mod X.K X.mg X.base:=I.ok.mod
def Inv.kIn(I:Inv X pins σ H s):X.K.In s.heap:=I.ok.mod.kin.keeps I.bk
def Inv.nolimit(I:Inv X pins σ H s):s.heap.NoLimit:=I.ok.mod.nolimit.keeps I.bk
def Inv.fr(I:Inv X pins σ H s):∃m,Fr X.base X.env.locals s.heap m :=
 let ⟨m,hn,_⟩:=I.loc
 (m,hn,I.bk,Q0 I.ok.bsz I.ok.above)
def Inv.lt(I:Inv X pins σ H s):X.env.locals<s.heap.objs.size:=let ⟨_,hn,_⟩:=I.loc;hn.lt
def Inv.sz(I:Inv X pins σ H s):X.s₀.heap.objs.size<=s.heap.objs.size:=Q0 I.ok.above<|Wl I.lt
def Inv.nofs(I:Inv X pins σ H s){a:Addr}(h:s.heap.objs.size<=a):a∉X.fs:=λc=>by
 obtain ⟨_,o,b,_⟩:=I.ok.funs.mem c;exact absurd (Qa (Heap.lt_size b)<|Q0 I.sz h)<|W0 _
def Inv.cne(I:Inv X pins σ H s):∀x c,X.env.cells.lookup x=some c->c≠X.env.locals:=λx c e z=>by
 obtain ⟨v,o,d,f⟩:=I.cell x c e;obtain ⟨m,⟨h,g,i,b,a,_⟩,_⟩:=I.loc;rw[z,b] at d;cases d;rw[a] at f;cases f
def Inv.funs(I:Inv X pins σ H s):s.heap.FunFrames X.base X.outer:=by
 have a:∀(l:List Env),(∀b∈frs l,b∈X.fs)->X.s₀.heap.FunFrames X.base l->s.heap.FunFrames X.base l:=by
  intro l
  induction l with
  |nil=>intro _ _;trivial
  |cons p r m =>
   intro g j;obtain ⟨n,⟨L,o,c,q,k,h⟩,i⟩:=j;have f:L∈X.fs:=g L (by unfold frs;rw[Ur,c];exact W6);obtain ⟨t,e⟩:=I.base.slot L o k (I.ok.frf L f) f λz=>I.ok.exfs L z f;exact (n,(L,_,c,q,e,h),m (λb d=>g b (by unfold frs;rw[Ur,c];exact W7 _ d)) i)
 exact a X.outer (λ_ d=>d) I.ok.funs
def Inv.stack(I:Inv X pins σ H s):s.heap.FunFrames X.base X.stack:=by
 rcases I.ok.stk with e|⟨e,hf⟩
 ·rw[e];exact I.funs
 ·rw[e];obtain ⟨m,a,_⟩:=I.loc;refine .cons (by rw[I.ok.kind];decide) hf a ?_ I.funs;exact Heap.get?_none_of_le<|Q0 I.ok.bsz I.ok.above
def Inv.stkSub(I:Inv X pins σ H s):∀b∈frs X.stack,b∈X.env.locals::X.fs:=λb a=>by
 rcases I.ok.stk with e|⟨e,hf⟩
 ·rw[e] at a;exact W7 _ a
 ·rw[e] at a;unfold frs at a;rw[Ur,hf] at a;exact a
def Inv.stkFree(I:Inv X pins σ H s):∀b∈frs X.stack,H b=none:=λb hb=>by
 rcases Qe.mp (I.stkSub b hb) with e|hb
 ·rw[e];exact I.free
 ·obtain ⟨_,o,a,_⟩:=I.ok.funs.mem hb;exact I.base.free b o a (I.ok.frf b hb) λz=>I.ok.exfs b z hb
def Inv.step{t':Nat}{d':Drawn}{ch:ZZla}(I:Inv X pins σ H s)
    (j:∀b∈ch,(b∈X.ex\/X.s₀.heap.objs.size<=b)/\b≠X.env.locals/\(∀x c,X.env.cells.lookup x=some c->c≠b)/\∀p∈X.pn++pins,p.1≠b)
    (h:∀b o,b≠X.env.locals->b∉X.fs->b∉ch->s.heap.get? b=some o->H b=none->h'.get? b=some o)
    (A:∀b o,b≠X.env.locals->b∈X.fs->b∉ch->s.heap.get? b=some o->H b=none->∃O,h'.get? b=some { o with slots:=O }) (f:∀b o,b∉ch->s.heap.get? b=some o->H b=none->H' b=none)
    (C:∀b o,b∉ch->s.heap.get? b=some o->∃J,h'.get? b=some J)
    (L:∀b xs,H b=some (.tup xs)->H' b=some (.tup xs)) (M:∀b o u,H b=some (.frz o u)->H' b=some (.frz o u)) (K:∀b ps,H b=some (.tbl ps)->∃E,H' b=some (.tbl<|ps++E))
    (ns:∀m,s.heap.Ns X.env.locals m->h'.Ns X.env.locals m) (Q:HOk X.prog X.w H' h') (Z:AllBare g') :
    Inv X pins σ H' { s with heap:=h',gens:=g',drawn:=d',toks:=t' }:=by
  have F:∀b o,X.s₀.heap.get? b=some o->b≠X.env.locals:=λb o e=>Qc<|Qa (Heap.lt_size e) I.ok.above;have w:∀b o,X.s₀.heap.get? b=some o->b∉X.ex->b∉ch:=λb o e a B=>by
    rcases (j b B).1 with z | z
    · exact a z
    · exact absurd (Qa (Heap.lt_size e) z) (W0 _)
  have t:∀x c,X.env.cells.lookup x=some c->∀v,s.heap.IsCell c v->h'.IsCell c v:=λx c e v ⟨o,D,P⟩=>by
    have g:c∉ch:=λz=>(j c z).2.2.1 x c e rfl
    by_cases hc:c∈X.fs
    · obtain ⟨O,q⟩:=A c o (I.cne x c e) hc g D<|I.freeC x c e
      exact (_,q,P)
    · exact (o,h c o (I.cne x c e) hc g D<|I.freeC x c e,P)
  refine (I.ok,I.os,Z,(λb o e n B a=>?_,λb o e n B a=>?_,λb o e n a=>?_,λb o e a=>?_,λb xs e=>L b xs<|I.base.tups b xs e,λb o xs e=>M b o xs<|I.base.frzs b o xs e,λb ps e=>?_),?_,λx c e=>?_,?_,λx c e=>?_,λp T=>?_,Q,I.len)
  · exact h b o (F b o e) B (w b o e a) (I.base.keep b o e n B a) (I.base.free b o e n a)
  · obtain ⟨O,y⟩:=I.base.slot b o e n B a
    obtain ⟨N,G⟩:=A b _ (F b o e) B (w b o e a) y<|I.base.free b o e n a;exact (N,G)
  · obtain ⟨J,y⟩:=I.base.there b o e a
    exact f b J (w b o e a) y<|I.base.free b o e n a
  · obtain ⟨J,y⟩:=I.base.there b o e a
    exact C b J (w b o e a) y
  · obtain ⟨Y,y⟩:=I.base.tbls b ps e
    obtain ⟨m2,G⟩:=K b _ y;exact (Y++m2,by rw[G,Array.append_assoc])
  · obtain ⟨m,W,U⟩:=I.loc
    refine (m,ns m W,λi x v y G e3=>?_);obtain ⟨u,r,l⟩:=U i x v y G e3;refine (u,r,?_);rcases l with l | ⟨k,c,e,z⟩
    · exact .inl l
    · exact .inr (k,c,e,t x c e _ z)
  · obtain ⟨v,z⟩:=I.cell x c e
    exact (v,t x c e v z)
  · obtain ⟨m,⟨o,_,_,D,_⟩,_⟩:=I.loc
    exact f _ o (λz=>(j _ z).2.1 rfl) D I.free
  · obtain ⟨v,o,D,P⟩:=I.cell x c e
    exact f c o (λz=>(j c z).2.2.1 x c e rfl) D<|I.freeC x c e
  · obtain ⟨e,n,R,S,d⟩:=I.pin p T
    have g:p.1∉ch:=λz=>(j p.1 z).2.2.2 p T rfl;exact (h p.1 p.2 R S g e n,f p.1 p.2 g e n,R,S,d)
def Inv.un{t':Nat}(I:Inv X pins σ H s)(u:Un X.fs [] H H' s.heap h')(f:HOk X.prog X.w H' h'):Inv X pins σ H' { s with heap:=h',toks:=t' }:=by
 obtain ⟨m,⟨o,t,q,h,r⟩,_⟩:=id I.loc;obtain ⟨p,j⟩:=u.any h I.free (by simp);exact I.step (g':=s.gens) (d':=s.drawn) (ch:=[]) (λ_ z=>nomatch z) (λb o _ c _ e n=>u.keep b o e n c (by simp)) (λb o _ c _ e n=>u.slot b o e n c (by simp)) (λb o _ e n=>u.free b o e n (by simp)) (λb o _ e=>u.there b o e (by simp)) u.tups u.frzs u.tbls (λl i=>by
  obtain ⟨v,d,g,a,k⟩:=i;rw[h] at a;cases a;exact (_,d,g,j,k)) f I.bare
def Inv.call{t':Nat}{d':Drawn}(I:Inv X pins σ H s)(u:Un (frs X.stack) ch H H' s.heap h')(h:HOk X.prog X.w H' h')(t:AllBare g')
    (d:∀b∈ch,(b∈X.ex\/X.s₀.heap.objs.size<=b)/\b≠X.env.locals/\(∀x c,X.env.cells.lookup x=some c->c≠b)/\∀p∈X.pn++pins,p.1≠b) :
    Inv X pins σ H' { s with heap:=h',gens:=g',drawn:=d',toks:=t' }:=by
  obtain ⟨m,⟨o,B,y,k,r⟩,_⟩:=id I.loc;obtain ⟨A,j⟩:=u.any k I.free λz=>(d _ z).2.1 rfl;exact I.step (ch:=ch) d (λb o j l a e n=>u.keep b o e n (λz=>(Qe.mp<|I.stkSub b z).elim j l) a) (λb o _ _ a e n=>u.any e n a) (λb o a e n=>u.free b o e n a) (λb o a e=>u.there b o e a) u.tups u.frzs u.tbls (λw q=>by
    obtain ⟨C,g,i,f,v⟩:=q;rw[k] at f; cases f;exact (_,g,i,j,v)) h t
def Inv.turned{t':Nat}{it:Addr}(I:Inv X pins σ H s)(k:∀b o,b≠it->s.heap.get? b=some o->h'.get? b=some o)(y:H it=none)(f:it≠X.env.locals)
    (w:it∈X.ex\/X.s₀.heap.objs.size<=it) (h:∀x c,X.env.cells.lookup x=some c->c≠it) (A:∀p∈X.pn++pins,p.1≠it):Inv X pins σ H { s with heap:=h',toks:=t' }:=by
  have d:∀b u,H b=some u->b≠it:=λb u e z=>by rw[z,y] at e; cases e
  refine I.step (g':=s.gens) (d':=s.drawn) (ch:=[it]) (λb g=>?_) (λb o _ _ a e _=>k b o (λz=>a (by simp[z])) e) (λb o _ _ a e _=>(o.slots,k b o (λz=>a (by simp[z])) e)) (λ_ _ _ _ n=>n)
    (λb o a e=>(o,k b o (λz=>a (by simp[z])) e)) (λ_ _ e=>e) (λ_ _ _ e=>e) (λb B e=>(#[],by rw[e]; simp)) (λm j=>?_) (λb u e=>?_) I.bare
  · have e:b=it:=by simpa using g
    subst e;exact (w,f,h,A)
  · obtain ⟨o,l,i,t,r⟩:=j
    exact (o,l,i,k _ o (Ne.symm f) t,r)
  · refine (I.hok b u e).stay (λc v a q=>k c v ?_ q) (λ_ q=>q) λ_ _ q=>q
    rcases a with z | z
    · rw[z]; exact d b u e
    · exact d c _ z
def Inv.tok(I:Inv X pins σ H s)(t:Nat):Inv X pins σ H { s with toks:=t }:=I.un (h':=s.heap) (t':=t) Un.refl I.hok
def Inv.kept{t':Nat}(I:Inv X pins σ H s)(k:∀b u,s.heap.get? b=some u->h'.get? b=some u):Inv X pins σ H { s with heap:=h',toks:=t' }:=I.un (Un.kept k)<|I.hok.kept k
def Inv.laid{a:Addr}{t':Nat}(I:Inv X pins σ H s)(k:∀b u,s.heap.get? b=some u->h'.get? b=some u)(d:s.heap.objs.size<=a)(c:ObjOk X.prog X.w (upd H a o) h' a o) :
    Inv X pins σ (upd H a o) { s with heap:=h',toks:=t' }:=I.un (Un.laid k d<|I.hok.fresh d)<|I.hok.laid k d c
def Inv.write{x e:Addr}{t':Nat}(I:Inv X pins σ H s)(f:Mut (H x))(d:e=x\/H e=some (.own x))(k:∀b u,b≠e->s.heap.get? b=some u->h'.get? b=some u)(a:∃u,h'.get? e=some u)
    (c:ObjOk X.prog X.w (upd H x o) h' x o):Inv X pins σ (upd H x o) { s with heap:=h',toks:=t' }:=I.un (Un.write f d k a)<|I.hok.write f d k a c
def Inv.weak{a:List (Option V)}(I:Inv X pins σ H s)(b:a.length=σ.length)(w:∀(i:Nat) v,a[i]?=some (some v)->σ[i]?=some (some v)):Inv X pins a H s :=
 (I.ok,I.os,I.bare,I.base,let ⟨m,hn,hl'⟩:=I.loc;(m,hn,λi x v c e d=>hl' i x v c (w i v e) d),I.cell,I.free,I.freeC,I.pin,I.hok,b.trans I.len)
def Inv.pins_of{pins':List (Addr×Obj)}(I:Inv X pins σ H s)(h:∀p∈pins',s.heap.get? p.1=some p.2/\H p.1=none/\p.1≠X.env.locals/\p.1∉X.fs/\∀v,p.2.data ≠ .cell v):Inv X pins' σ H s :=
 (I.ok,I.os,I.bare,I.base,I.loc,I.cell,I.free,I.freeC,λp a=>(We.mp a).elim (λz=>I.pin p<|List.mem_append_left _ z)<|h p,I.hok,I.len)
def Zi5{N:List Str}(c:N.Nodup){i j:Nat}{x:Str}(a:N[i]?=some x)(b:N[j]?=some x):i=j:=by
 obtain ⟨f,d⟩:=Qp.mp a;obtain ⟨g,e⟩:=Qp.mp b;exact (List.getElem_inj c).mp<|d.trans e.symm
def Zhj{i:Nat}{x:Str}{Q:Unit->Shared->Prop}(I:Inv X pins σ H s)(hN:X.N.Nodup)(K:X.N[i]?=some x)(t:Loc X.env.scope x)(r:RelV v u)
    (h:∀s',Inv X pins (σ.set i<|some v) H s'->(∃a,Heap.SameBut a s.heap s'.heap/\(a=X.env.locals\/X.env.cells.lookup x=some a))->Q () s') (hf:X.fn x=true\/X.env.scope.names.lookup x=some .local:=by first | exact .inl rfl | exact .inr rfl | assumption):wpAny M A (storeName X.env x u) Q E s:=by
  obtain ⟨m,Z,hl⟩:=id I.loc;have J:(X.env.scope.kind == .class||(X.env.scope.kind == .module&&X.env.locals != X.env.globals))=false:=by rw[I.ok.kind]; rfl
  have C:i<σ.length:=by rw[I.len]; exact (Qp.mp K).1
  have D:=I.cne;have l:∀ {a:Addr} {h':Heap},(∃o,s.heap.get? a=some o/\H a=none)->Heap.SameBut a s.heap h'->HOk X.prog X.w H h':=fun {a h'} ha f b ob e=>by
    obtain ⟨_,_,w⟩:=ha;refine (I.hok b ob e).stay (λc S hc q=>(f.2 c ?_).trans q) (λ_ q=>q) λ_ _ q=>q;rintro rfl;rcases hc with rfl | hc
    · rw[w] at e; cases e
    · rw[w] at hc; cases hc
  rcases t with hk | hk
  · refine wpAny_storeName_local hk Z (λh' W f=>?_) J
    obtain ⟨oL,_,_,a0,_⟩:=id Z;refine h _ (I.ok,I.os,I.bare,(λb o e n F t=>?_,λb o e n F t=>?_,I.base.free,λb o e t=>?_,I.base.tups,I.base.frzs,I.base.tbls),(_,W,λj y v' g B e3=>?_),λy c e=>?_,I.free,I.freeC,λp Y=>?_,l (oL,a0,I.free) f,by simpa using I.len) (_,f,.inl rfl)
    · exact (f.2 b<|Qc<|Qa (Heap.lt_size e) I.ok.above).trans (I.base.keep b o e n F t)
    · obtain ⟨T,g⟩:=I.base.slot b o e n F t
      exact (T,(f.2 b<|Qc<|Qa (Heap.lt_size e) I.ok.above).trans g)
    · obtain ⟨o',g⟩:=I.base.there b o e t
      exact (o',(f.2 b<|Qc<|Qa (Heap.lt_size e) I.ok.above).trans g)
    · by_cases hj:j=i
      · subst hj
        rw[K] at g; cases g;rw[List.getElem?_set_self C] at B
        cases B
        exact (u,r,.inl (hk,by simp))
      · rw[List.getElem?_set_ne<|Ne.symm hj] at B
        obtain ⟨u',r',q⟩:=hl j y v' g B e3;refine (u',r',?_);rcases q with ⟨k,e⟩ | ⟨k,c,e,z⟩
        · refine .inl (k,?_)
          have:y≠x:=λe=>hj<|Zi5 hN g<|e ▸ K
          simp[this,e]
        · exact .inr (k,c,e,z.sameBut f<|D y c e)
    · obtain ⟨S,z⟩:=I.cell y c e
      exact (S,z.sameBut f<|D y c e)
    · obtain ⟨e,n,P,U,d⟩:=I.pin p Y
      exact ((f.2 p.1 P).trans e,n,P,U,d)
  · have G:X.fn x=true:=by
      rcases hf with z | z
      · exact z
      · rw[z] at hk; cases hk
    obtain ⟨c,hc⟩:=I.ok.has x<|.inl hk;obtain ⟨S,z⟩:=I.cell x c hc;refine wpAny_storeName_cell I.ok.kind hk hc z<|λh' O f=>?_;obtain ⟨oc,N,L⟩:=id z;refine h { s with heap:=h' } (I.ok,I.os,I.bare,(λb o e n F t=>?_,λb o e n F t=>?_,I.base.free,λb o e t=>?_,I.base.tups,I.base.frzs,I.base.tbls),(m,Z.sameBut f<|Ne.symm<|D x c hc,λj y v' g B e3=>?_),λy R e=>?_,I.free,I.freeC,λp Y=>?_,l (oc,N,I.freeC x c hc) f,by simpa using I.len) (c,f,.inr hc)
    · exact (f.2 b<|Qc<|Qa (Heap.lt_size e)<|I.ok.cab x c G hc).trans (I.base.keep b o e n F t)
    · obtain ⟨T,g⟩:=I.base.slot b o e n F t
      exact (T,(f.2 b<|Qc<|Qa (Heap.lt_size e)<|I.ok.cab x c G hc).trans g)
    · obtain ⟨o',g⟩:=I.base.there b o e t
      exact (o',(f.2 b<|Qc<|Qa (Heap.lt_size e)<|I.ok.cab x c G hc).trans g)
    · by_cases hj:j=i
      · subst hj
        rw[K] at g; cases g;rw[List.getElem?_set_self C] at B
        cases B
        exact (u,r,.inr (.inl hk,c,hc,O))
      · rw[List.getElem?_set_ne<|Ne.symm hj] at B
        obtain ⟨u',r',q⟩:=hl j y v' g B e3;refine (u',r',?_);rcases q with q | ⟨k,R,e,z'⟩
        · exact .inl q
        · refine .inr (k,R,e,z'.sameBut f ?_)
          rintro rfl;exact hj<|Zi5 hN g<|I.ok.inj _ _ _ e hc ▸ K
    · by_cases hcc:R=c
      · subst hcc; exact (_,O)
      · obtain ⟨w2,z2⟩:=I.cell y R e
        exact (w2,z2.sameBut f hcc)
    · obtain ⟨e,n,P,U,d⟩:=I.pin p Y
      refine ((f.2 p.1 ?_).trans e,n,P,U,d);intro q;rw[q,N] at e;have q':oc=p.2:=Option.some.inj e;exact d S (by rw[<-q']; exact L)
def Zdm{i:Nat}{x:Str}{Q:Unit->Shared->Prop}(I:Inv X pins σ H s)(b:X.N.Nodup)(e:X.N[i]?=some x)(f:Loc X.env.scope x)(r:RelV v u)
    (h:∀a,Inv X pins (σ.set i<|some v) H a->Q () a) (c:X.fn x=true\/X.env.scope.names.lookup x=some .local:=by first | exact .inl rfl | exact .inr rfl | assumption):wpAny M A (storeName X.env x u) Q E s :=
  Zhj I b e f r (λa d _=>h a d) c
def Inv.call'{a:Shared}(I:Inv X pins σ H s)(i:a.os=s.os)(u:Un (frs X.stack) ch H H' s.heap a.heap)(f:HOk X.prog X.w H' a.heap)(g:AllBare a.gens)
    (d:∀b∈ch,(b∈X.ex\/X.s₀.heap.objs.size<=b)/\b≠X.env.locals/\(∀x c,X.env.cells.lookup x=some c->c≠b)/\∀p∈X.pn++pins,p.1≠b):Inv X pins σ H' a:=by
  obtain ⟨h',g',d',t',h⟩:=a;have e:h=s.os:=i;subst e;exact I.call (g':=g') (t':=t') (d':=d') u f g d
end
abbrev XK:=Value->Option Addr->Hp->Prop
abbrev St:=List<|Option V
abbrev VK:=V->Hp->Prop
abbrev TE:=St->Hp->VK->Prop
abbrev TT:=St->Hp->(Bool->Hp->Prop)->Prop
abbrev TA:=St->Hp->(List V->Hp->Prop)->Prop
structure Ends where
 nx:St->Hp->Prop
 rt:VK
 bk:St->Hp->Prop:=λ_ _=>False
 ct:St->Hp->Prop:=λ_ _=>False
abbrev TS:=Ends->St->Hp->Prop
def EP(X:Cx)(a:List (Addr×Obj))(c:St)(Q:VK)(u:Value)(d:Shared):Prop:=∃v b,Inv X a c b d/\RelV v u/\Q v b
def TP(X:Cx)(a:List (Addr×Obj))(d:St)(Q:Bool->Hp->Prop)(b:Bool)(e:Shared):Prop:=∃c,Inv X a d c e/\Q b c
def AP(X:Cx)(a:List (Addr×Obj))(d:St)(Q:List V->Hp->Prop)(us:List Value)(e:Shared):Prop:=∃c b,Inv X a d b e/\Vals c us/\Q c b
def SP(X:Cx)(b:List (Addr×Obj))(D:Ends)(f:Flow)(d:Shared):Prop :=
 match f with
 | .next=>∃a c,Inv X b a c d/\D.nx a c
 | .brk=>∃a c,Inv X b a c d/\D.bk a c
 | .cont=>∃a c,Inv X b a c d/\D.ct a c
 | .ret u=>∃v a c,Inv X b a c d/\RelV v u/\D.rt v c
def PE(X:Cx)(e:Expr)(t:TE):Prop :=
 ∀(a:List (Addr×Obj)) (s:Shared) (b:St) (H:Hp) (Q:VK),Inv X a b H s->t b H Q->wpAny (model X.prog X.w) X.A (eval e X.env) (EP X a b Q) X.xe s
def PT(X:Cx)(e:Expr)(t:TT):Prop :=
 ∀(a:List (Addr×Obj)) (s:Shared) (b:St) (H:Hp) (Q:Bool->Hp->Prop),Inv X a b H s->t b H Q->wpAny (model X.prog X.w) X.A (isTrue e X.env<|eval e X.env) (TP X a b Q) X.xe s
def PW(X:Cx)(e:Expr)(t:TT):Prop :=
 ∀(b:Sem Value) (a:List (Addr×Obj)) (s:Shared) (c:St) (H:Hp) (Q:Bool->Hp->Prop),Inv X a c H s->t c H Q->wpAny (model X.prog X.w) X.A (isTrue e X.env b) (TP X a c Q) X.xe s
def PW.pt{t:TT}(h:PW X e t):PT X e t:=h _
def PA(X:Cx)(d:List Expr)(t:TA):Prop :=
 ∀(c:Pos) (a:List (Addr×Obj)) (s:Shared) (b:St) (H:Hp) (Q:List V->Hp->Prop),Inv X a b H s->t b H Q->wpAny (model X.prog X.w) X.A (spliced<|backTo c<|starEach d X.env) (AP X a b Q) X.xe s
def PS(X:Cx)(c:Stmt)(t:TS):Prop :=
 ∀(a:List (Addr×Obj)) (s:Shared) (b:St) (H:Hp) (D:Ends),Inv X a b H s->t D b H->wpAny (model X.prog X.w) X.A (exec c X.env) (SP X a D) X.xe s
def PSs(X:Cx)(c:List Stmt)(t:TS):Prop :=
 ∀(a:List (Addr×Obj)) (s:Shared) (b:St) (H:Hp) (D:Ends),Inv X a b H s->t D b H->wpAny (model X.prog X.w) X.A (execs c X.env) (SP X a D) X.xe s
def thn{α:Type}{t:Sem α}{Q b:α->Shared->Prop}(h:wpAny M A t Q E s)(c:∀a s,Q a s->b a s):wpAny M A t b E s:=wpAny_mono h c λ_ _ x=>x
section
variable{X:Cx}
def bin(A:PE X a l)(o:PE X b m){c:List (Addr×Obj)}{s:Shared}{d:St}{H:Hp}{R:V->V->Hp->Prop}(I:Inv X c d H s)(h:l d H λx k=>m d k λy e=>R x y e)
    {α:Type} {Q:α->Shared->Prop} {f:Value->Value->Sem α}
    (n:∀v u j x y e,Inv X c d e j->RelV x v->RelV y u->R x y e->wpAny (model X.prog X.w) X.A (f v u) Q X.xe j) :
    wpAny (model X.prog X.w) X.A (eval a X.env) (λv g=>wpAny (model X.prog X.w) X.A (eval b X.env) (λu i=>wpAny (model X.prog X.w) X.A (f v u) Q X.xe i) X.xe g) X.xe s:=by
  refine thn (A c s d H _ I h) λv B ⟨x,k,z,q,p⟩=>?_;refine thn (o c B d k _ z p) λu j ⟨y,e,w,r,t⟩=>?_;exact n v u j x y e w q r t
inductive Zsm (i:Nat) (σ:St) (H:Hp) (Q:VK):Prop
 |mk (v:V) (_:σ[i]?=some (some v)) (_:Q v H):Zsm i σ H Q
def tC(v:V):TE:=λ_ H Q=>Q v H
def Zcm{i:Nat}{x:Str}{f:Pos}(j:X.N[i]?=some x)(n:Vis X.env.scope x)(d:(x==("__debug__":Str))=false:=by decide) (g:(x==("__classdict__":Str))=false:=by decide):PE X (.Name x f) (Zsm i):=by
 intro b s k H Q I h;obtain ⟨v,e,h⟩:=h;obtain ⟨m,p,o⟩:=I.loc;obtain ⟨u,r,l⟩:=o i x v j e n;have a:EP X b k Q u s:=(v,H,I,r,h);rcases l with ⟨hk,hm⟩|⟨hk,c,hc,hcell⟩
 ·exact wpAny_Name (wpAny_loadName_local I.ok.kind hk p hm a) d
 ·rcases hk with hk|hk
  ·exact wpAny_Name (wpAny_loadName_cell I.ok.kind hk hc hcell a) d
  ·exact wpAny_Name (wpAny_loadName_free I.ok.kind hk hc hcell a g) d
def Zac{i j pos}:PE X (.Constant (.int i) j pos) (tC<|.int i):=λ_ _ _ H _ I h=>wpAny_Constant_int (.int i,H,I.tok _,(_,rfl),h)
def ZdV{b j pos}:PE X (.Constant (.bool b) j pos) (tC<|.bl b):=λ_ _ _ H _ I h=>Constant_bool (.bl b,H,I,rfl,h)
def Zhk{j pos}:PE X (.Constant .none j pos) (tC .non):=λ_ _ _ H _ I h=>Constant_none (.non,H,I,rfl,h)
def Zhl{x j pos}:PE X (.Constant (.str x) j pos) (tC<|.str x):=λ_ _ _ H _ I h=>Calls.Constant_str (.str x,H,I.tok _,(_,rfl),h)
def Gl(X:Cx)(x:Str):Prop:=X.env.kindOf x=some .globalImplicit
def ZcV{u:Value}{b:Pos}{Q:Value->Shared->Prop}(I:Inv X a d H s)(c:Gl X x)(f:X.mg x=some u)(h:Q u s)
    (e:(x==("__debug__" : Str))=false:=by decide):wpAny (model X.prog X.w) X.A (eval (.Name x b) X.env) Q E s :=
  Calls.Name_function_global I.ok.kind c (Calls.loadGlobal_global (by rw[I.ok.glob]; exact I.mod.glob.keeps I.bk) f h) e
def Zdy{u:Value}{b:Pos}{Q:Value->Shared->Prop}(I:Inv X a c H s)(g:Gl X x)(f:X.mg x=none)(i:bootBuiltins x=some u)(h:Q u s)
    (k:x ≠ "__name__" := by decide) (d:(x==("__debug__" : Str))=false:=by decide):wpAny (model X.prog X.w) X.A (eval (.Name x b) X.env) Q E s:=by
  obtain ⟨l,j,e⟩:=I.mod.blt;exact Calls.Name_function_global I.ok.kind g (Calls.loadGlobal_builtin (by rw[I.ok.glob]; exact I.mod.glob.keeps I.bk) f (by rw[I.ok.blt]; exact j.keeps I.bk) ((e x k).trans i) h) d
def Zcq{u:Value}{a:Pos}(b:Gl X x)(d:X.mg x=some u)(r:RelV v u)(c:(x==("__debug__":Str))=false:=by decide):PE X (.Name x a) (tC v) :=
 λ_ _ _ H _ I h=>ZcV I b d (v,H,I,r,h) c
def Zo0{u:Value}{a:Pos}(b:Gl X x)(f:X.mg x=none)(c:bootBuiltins x=some u)(r:RelV v u)(e:x ≠"__name__":= by decide) (d:(x==("__debug__":Str))=false:=by decide):PE X (.Name x a) (tC v) :=
 λ_ _ _ H _ I h=>Zdy I b f c (v,H,I,r,h) e d
variable{a b:Expr}{ta tb:TE}{pos:Pos}
def PC(X:Cx)(g:CmpOp)(a b:Expr)(t:TE):Prop :=
 ∀(c:List (Addr×Obj)) (s:Shared) (f:St) (H:Hp) (Q:VK),Inv X c f H s->t f H Q →
  wpAny (model X.prog X.w) X.A (eval a X.env) (λv d=>wpAny (model X.prog X.w) X.A (eval b X.env) (λu e=>wpAny (model X.prog X.w) X.A (compareOp g v u) (EP X c f Q) X.xe e) X.xe d) X.xe s
inductive tB_ (x:V) (Q:Bool->Hp->Prop) (H1:Hp):Prop
 |mk (c:Bool) (_:x = .bl c) (_:Q c H1):tB_ x Q H1
def tB(t:TE):TT:=λc H Q=>t c H λx d=>tB_ x Q d
def ZtB{t:TE}(h:PC X f a b t)(g:behindInMarks f b=false:=by first|exact nobehind _ ∅ ∅ |rfl):PT X (.Compare a [f] [b] pos) (tB t):=by
 intro e s i H Q I k;refine wpAny_isTrue_Compare1 (thn (h e s i H _ I k) λv r g=>thn g λu w l=>thn l λc p ⟨x,o,n,m,j⟩=>?_) g;obtain ⟨d,rfl,q⟩:=j
 cases m
 exact wpAny_truthy_bool (o,n,q)
def ZaQ{e:Expr}{t:TE}(h:PE X e t)(l:∀c,isTrue e X.env c=(do let v ← c;standAt e.pos;holding [v] (truthy v)):=by intro _;rfl):PT X e (tB t):=by
 intro f s g H Q I j;refine isTrue_plain (thn (h f s g H _ I j) λv o ⟨x,n,m,k,i⟩=>?_)<|l _;obtain ⟨d,rfl,q⟩:=i
 cases k
 exact wpAny_truthy_bool (n,m,q)
variable{tA tB':TT}{rest:List Expr}
def ZtR(t u:TT):TT:=λd H Q=>t d H λc e=>if c=true then u d e Q else Q false e
def tOr(t u:TT):TT:=λd H Q=>t d H λc e=>if c=true then Q true e else u d e Q
def ZtS(t:TT):TT:=λd H Q=>t d H λc e=>Q (!c) e
def Zkz(g:PT X a tA):PW X (.BoolOp .And [a] pos) tA:=by
 intro i d s f H Q I h;refine isTrue_and<|thn (g d s f H Q I h) λc j e=>?_
 cases c with
 |true=>exact isTrue_and_nil e
 |false=>exact e
def ZcO(g:PT X a tA):PW X (.BoolOp .Or [a] pos) tA:=by
 intro i d s f H Q I h;refine isTrue_or<|thn (g d s f H Q I h) λc j e=>?_
 cases c with
 |false=>exact isTrue_or_nil e
 |true=>exact e
def Zn0(l:PT X a tA)(j:PW X (.BoolOp .And (b::rest) pos) tB'):PW X (.BoolOp .And (a::b::rest) pos) (ZtR tA tB'):=by
 intro k d s e H Q I h;refine isTrue_and<|thn (l d s e H _ I h) λc m ⟨i,g,f⟩=>?_
 cases c with
 |true=>exact j k d m e i Q g f
 |false=>exact (i,g,f)
def ZcW(l:PT X a tA)(j:PW X (.BoolOp .Or (b::rest) pos) tB'):PW X (.BoolOp .Or (a::b::rest) pos) (tOr tA tB'):=by
 intro k d s e H Q I h;refine isTrue_or<|thn (l d s e H _ I h) λc m ⟨i,g,f⟩=>?_
 cases c with
 |true=>exact (i,g,f)
 |false=>exact j k d m e i Q g f
def ZcP(g:PT X a tA):PT X (.UnaryOp .Not a pos) (ZtS tA):=by
 intro d s e H Q I h;exact isTrue_not<|g d s e H (λc f=>Q (!c) f) I h
def Zsn(ta tb:TE):TE:=λd H Q=>ta d H λx e=>∃c,x = .bl c/\if c=true then tb d e Q else Q (.bl false) e
def Zso(ta:TE):TE:=λd H Q=>ta d H λx e=>∃c,x = .bl c/\Q (.bl<|!c) e
def Zhm{op}{t:TE}(h:PE X a t):PE X (.BoolOp op [a] pos) t:=λc s d H Q I e=>BoolOp_one<|h c s d H Q I e
def Zhn(l:PE X a ta)(j:PE X (.BoolOp .And (b::rest) pos) tb):PE X (.BoolOp .And (a::b::rest) pos) (Zsn ta tb):=by
 intro d s f H Q I h;refine BoolOp_and<|thn (l d s f H _ I h) λv k ⟨x,i,g,m,e⟩=>?_;obtain ⟨c,rfl,e⟩:=e
 cases m
 refine wpAny_truthy_bool ?_
 cases c with
 |true=>exact j d k f i Q g e
 |false=>exact (.bl false,i,g,rfl,e)
def Zn1(j:PE X a ta):PE X (.UnaryOp .Not a pos) (Zso ta):=by
 intro d s f H Q I h;refine UnaryOp_<|thn (j d s f H _ I h) λv l ⟨x,i,g,k,e⟩=>?_;obtain ⟨c,rfl,e⟩:=e
 cases k
 exact not_of<|wpAny_truthy_bool (.bl<|!c,i,g,rfl,e)
def tIf(t:TT)(ta tb:TE):TE:=λd H Q=>t d H λc e=>if c=true then ta d e Q else tb d e Q
def ZmN(m:PT X c tA)(n:PE X a ta)(l:PE X b tb):PE X (.IfExp c a b pos) (tIf tA ta tb):=by
 intro e s f H Q I h;refine wpAny_IfExp<|thn (m e s f H _ I h) λd k ⟨j,i,g⟩=>?_
 cases d with
 |true=>exact n e k f j Q i g
 |false=>exact l e k f j Q i g
end
def SqL(K:ZZfg)(H:Hp)(a:Addr)(xs:List V):Prop :=
 Rd H a (.lst xs) ∨
  ∃(o:Obj) (b:Array Value) (n:Nat),K.lookup a=some o/\o.cls = .type "list" /\ o.dict=none/\o.data = .seq b n/\b.size<=sizeLine/\Vals xs b.toList
def SqT(K:ZZfg)(H:Hp)(a:Addr)(xs:List V):Prop :=
 Rd H a (.tup xs) ∨
  ∃(o:Obj) (b:Array Value) (n:Nat),K.lookup a=some o/\o.cls = .type "tuple" /\ o.data = .seq b n/\b.size<=sizeLine/\Vals xs b.toList
def ZtT:Value->Option V
 | .none=>some .non
 | .bool b=>some<|.bl b
 | .int i _=>some<|.int i
 | .str x _=>some<|.str x
 | .bytes b _=>some<|.byt b
 | .float b _=>some<|.flt b
 | .ref a=>some<|.ref a
 | .type n=>some<|.ty n
 |_=>none
def RelV.abs(r:RelV x u):ZtT u=some x:=by
 cases x with
 |non=>cases r;rfl
 |bl _=>cases r;rfl
 |int _=>obtain ⟨t,rfl⟩:=r;rfl
 |str _=>obtain ⟨t,rfl⟩:=r;rfl
 |byt _=>obtain ⟨t,rfl⟩:=r;rfl
 |flt _=>obtain ⟨t,rfl⟩:=r;rfl
 |ref _=>cases r;rfl
 |ty _=>cases r;rfl
def RelV.inj(r:RelV x u)(q:RelV y u):x=y:=Option.some.inj<|r.abs.symm.trans q.abs
def Vals.inj:∀ {xs ys:List V} {us:List Value},Vals xs us->Vals ys us->xs=ys
 |_,_,_,.nil,.nil=>rfl
 |_,_,_,.cons r t,.cons r' t'=>by rw[r.inj r',Vals.inj t t']
section
variable{X:Cx}{pins:List (Addr×Obj)}{σ:St}{H:Hp}{s:Shared}{a:Addr}{xs ys:List V}
def SqL.of{K:ZZfg}(h:H a=some (.lst xs)):SqL K H a xs:=.inl<|.inl h
def SqT.of{K:ZZfg}(h:H a=some (.tup xs)):SqT K H a xs:=.inl<|.inl h
def Inv.list(I:Inv X pins σ H s)(h:SqL X.K H a xs):∃its:List Value,Vals xs its/\PlainL s.heap a its.toArray/\xs.length<=sizeLine:=by
 rcases h with h|⟨o,its,n,hk,hc,hd,hs,hz,r⟩
 ·obtain ⟨z,its,n,r,e⟩:=h.ok I.hok;exact (its,r,(_,n,e,rfl,rfl,rfl),z)
 ·refine (its.toList,r,(o,n,I.kIn a o hk,hc,hd,by simpa using hs),?_);have e:=r.length
  simp only[Array.length_toList] at e
  omega
def Inv.tuple(I:Inv X pins σ H s)(h:SqT X.K H a xs):∃its:List Value,Vals xs its/\IsTup s.heap a its.toArray/\xs.length<=sizeLine:=by
 rcases h with h|⟨o,its,n,hk,hc,hs,hz,r⟩
 ·obtain ⟨z,its,r,p⟩:=h.ok I.hok;exact (its,r,p,z)
 ·refine (its.toList,r,(o,I.kIn a o hk,hc,n,by simpa using hs),?_);have e:=r.length
  simp only[Array.length_toList] at e
  omega
def Inv.list_inj(I:Inv X pins σ H s)(h:SqL X.K H a xs)(h':SqL X.K H a ys):xs=ys:=by
 obtain ⟨c,r,⟨o,n,e,_,_,d⟩,_⟩:=I.list h;obtain ⟨b,i,⟨k,j,f,_,_,g⟩,_⟩:=I.list h';rw[e] at f;cases f;rw[d] at g
 injection g with d1 _
 have:c=b:=by simpa using congrArg Array.toList d1
 subst this;exact r.inj i
def Inv.tuple_inj(I:Inv X pins σ H s)(h:SqT X.K H a xs)(h':SqT X.K H a ys):xs=ys:=by
 obtain ⟨c,r,⟨o,e,_,n,d⟩,_⟩:=I.tuple h;obtain ⟨b,i,⟨k,f,_,j,g⟩,_⟩:=I.tuple h';rw[e] at f;cases f;rw[d] at g
 injection g with d1 _
 have:c=b:=by simpa using congrArg Array.toList d1
 subst this;exact r.inj i
end
abbrev Cx.wish(X:Cx)(E:Value->Shared->Prop):Cx:={ X with xe:=E }
abbrev Cx.nox(X:Cx):Cx:=X.wish λ_ _=>False
def Cx.Ok.wish{X:Cx}(a:X.Ok)(E:Value->Shared->Prop):(X.wish E).Ok :=
 (a.mod,a.kind,a.glob,a.blt,a.above,a.inj,a.has,a.cab,a.hd,a.frames,a.stk,a.exf,a.bs,a.bsz,a.noex,a.exfs,a.funs,a.frf)
def Cx.Ok.unwish{X:Cx}(a:(X.wish E).Ok):X.Ok :=
 (a.mod,a.kind,a.glob,a.blt,a.above,a.inj,a.has,a.cab,a.hd,a.frames,a.stk,a.exf,a.bs,a.bsz,a.noex,a.exfs,a.funs,a.frf)
section
variable{X:Cx}{pins:List (Addr×Obj)}{σ:St}{H:Hp}{s:Shared}{E:Value->Shared->Prop}
def Inv.wish(I:Inv X pins σ H s)(E:Value->Shared->Prop):Inv (X.wish E) pins σ H s:=(I.ok.wish E,I.os,I.bare,I.base,I.loc,I.cell,I.free,I.freeC,I.pin,I.hok,I.len)
def Inv.unwish(I:Inv (X.wish E) pins σ H s):Inv X pins σ H s:=(I.ok.unwish,I.os,I.bare,I.base,I.loc,I.cell,I.free,I.freeC,I.pin,I.hok,I.len)
def SP.unwish(h:SP (X.wish E) pins D f c):SP X pins D f c:=by
 cases f with
 |next=>obtain ⟨a,b,I,q⟩:=h;exact (a,b,I.unwish,q)
 |brk=>obtain ⟨a,b,I,q⟩:=h;exact (a,b,I.unwish,q)
 |cont=>obtain ⟨a,b,I,q⟩:=h;exact (a,b,I.unwish,q)
 |ret u=>obtain ⟨v,a,b,I,r,q⟩:=h;exact (v,a,b,I.unwish,r,q)
def PSs.nox{t:TS}(h:PSs X.nox a t):PSs X a t:=λpins s σ H D I b =>
 wpAny_mono (h pins s σ H D (I.wish _) b) (λ_ _ q=>q.unwish) λ_ _ z=>False.elim z
end
section
variable{X:Cx}{st:Stmt}{rest:List Stmt}{t u:TS}{e:Expr}{te:TE}{pos:Pos}
def Zsp:TS:=λD a H=>D.nx a H
def ZtU(t u:TS):TS:=λD a H=>t { D with nx:=u D } a H
def Zav:PSs X [] Zsp:=λ_ _ a H _ I h=>wpAny_execs_nil (a,H,I,h)
def Zag(g:PS X st t)(j:PSs X rest u):PSs X (st::rest) (ZtU t u):=by
 intro a s c H D I h;refine wpAny_execs_cons<|thn (g a s c H { D with nx:=u D } I h) λf k q=>?_
 cases f with
 |next =>
  obtain ⟨b,i,d,q⟩:=q;exact j a k b i D d q
 |ret v=>exact q
 |brk=>exact q
 |cont=>exact q
def Zad(c:PS X st t):PSs X [st] t:=by
 intro a s b H D I h;refine wpAny_execs_cons<|thn (c a s b H D I h) λf d q=>?_
 cases f with
 |next=>exact wpAny_execs_nil q
 |ret v=>exact q
 |brk=>exact q
 |cont=>exact q
def Inv.quiet(I:Inv X a b H s):interactive X.env=false:=by simp[interactive,I.ok.kind]
def Zsq(te:TE):TS:=λD a H=>te a H λ_ b=>D.nx a b
def Zbm(d:PE X e te)(c:swapsWith e none pos.line X.env=pure false:=by rfl):PS X (.Expr e pos) (Zsq te):=by
 intro a s b H D I h;exact wpAny_Expr_any (thn (d a s b H _ I h) λv j ⟨x,i,g,k,f⟩=>(b,i,g,f)) I.quiet c
def ZtV(te:TE):TS:=λD a H=>te a H D.rt
def Zaq(c:PE X e te):PS X (.Return (some e) pos) (ZtV te):=by
 intro a s b H D I h;exact wpAny_Return_some<|thn (c a s b H _ I h) λv j ⟨x,g,f,i,d⟩=>(x,b,g,f,i,d)
def ZtW(c:TT)(t u:TS):TS:=λD a H=>c a H λb d=>if b=true then t D a d else u D a d
def ZaY(n:PT X c tc)(o:PSs X a t)(m:PSs X b u):PS X (.If c a b pos) (ZtW tc t u):=by
 intro f s g H D I h;refine wpAny_If<|thn (n f s g H _ I h) λd l ⟨k,j,i⟩=>?_
 cases d with
 |true=>exact o f l g k D j i
 |false=>exact m f l g k D j i
def Zqw:TS:=λ_ _ _=>False
def ZmO:PS X st Zqw:=λ_ _ _ _ _ _ h=>h.elim
end
abbrev TG:=V->St->Hp->(St->Hp->Prop)->Prop
abbrev TGs:=List V->St->Hp->(St->Hp->Prop)->Prop
def PG(X:Cx)(a:Expr)(t:TG):Prop :=
 ∀(b:List (Addr×Obj)) (s:Shared) (d:St) (H:Hp) (v:V) (u:Value) (Q:St->Hp->Prop),Inv X b d H s->RelV v u->t v d H Q →
  wpAny (model X.prog X.w) X.A (assign a X.env u) (λ_ f=>∃c e,Inv X b c e f/\Q c e) X.xe s
def PGs(X:Cx)(g:List Expr)(t:TGs):Prop :=
 ∀(a:List (Addr×Obj)) (s:Shared) (c:St) (H:Hp) (e:List V) (d:List Value) (Q:St->Hp->Prop),Inv X a c H s->Vals e d->t e c H Q →
  wpAny (model X.prog X.w) X.A (assignInOrder ((assignEach g X.env).map (·.2)) d) (λ_ h=>∃b f,Inv X a b f h/\Q b f) X.xe s
abbrev Zsr:=V->V->V->Hp->(Hp->Prop)->Prop
def ZtC(X:Cx)(t:Zsr):Prop :=
 ∀(a:List (Addr×Obj)) (s:Shared) (b:St) (H:Hp) (o i v:V) (d c u:Value) (Q:Hp->Prop),Inv X a b H s->RelV o d->RelV i c->RelV v u->t o i v H Q →
  wpAny (model X.prog X.w) X.A (setItem d c u) (λ_ f=>∃e,Inv X a b e f/\Q e) X.xe s
abbrev TIp:=V->V->Hp->VK->Prop
def PIp(X:Cx)(c:Operator)(t:TIp):Prop :=
 ∀(a:List (Addr×Obj)) (s:Shared) (b:St) (H:Hp) (x y:V) (v u:Value) (Q:VK),Inv X a b H s->RelV x v->RelV y u->t x y H Q →
  wpAny (model X.prog X.w) X.A (inplaceOp c v u) (EP X a b Q) X.xe s
section
variable{X:Cx}{pos:Pos}
def Zdv(i:Nat):TG:=λv a H Q=>Q (a.set i<|some v) H
def ZaL{i:Nat}{x:Str}(b:X.N.Nodup)(e:X.N[i]?=some x)(f:Loc X.env.scope x)(c:X.fn x=true\/X.env.scope.names.lookup x=some .local:=by first|exact .inl rfl|exact .inr rfl|assumption):PG X (.Name x pos) (Zdv i):=by
 intro a s g H v u Q I r h;exact wpAny_assign_Name<|Zdm I b e f r (λj d=>(_,H,d,h)) c
def Zqx:TGs:=λa b H Q=>a=[]/\Q b H
inductive ZfM (t:TG) (u:TGs) (vs:List V) (σ:St) (H:Hp) (Q:St->Hp->Prop):Prop
 |mk (v:V) (r:List V) (_:vs=v::r) (_:t v σ H λσ' H'=>u r σ' H' Q):ZfM t u vs σ H Q
def Ze1:PGs X [] Zqx:=by
 intro a s b H d c Q I r h;obtain ⟨e,h⟩:=h;subst e
 cases r
 exact assignInOrder_nil (b,H,I,h)
def ZbH{t:TG}(l:PG X e t)(j:PGs X b u)
    (k:(assignEach (e::b) X.env).map (·.2)=assign e X.env::(assignEach b X.env).map (·.2):=by rfl):PGs X (e::b) (ZfM t u):=by
  intro a s f H w p Q I r h;obtain ⟨v,q,d,h⟩:=h;subst d
  cases r with
  | cons r i =>
    rw[k];refine assignInOrder_cons<|thn (l a s f H _ _ _ I r h) λ_ o ⟨c,n,m,g⟩=>?_;exact j a o c n _ _ Q m i g
inductive Zo1 (K:ZZfg) (n:Nat) (t:TGs) (v:V) (σ:St) (H:Hp) (Q:St->Hp->Prop):Prop
 |mk (a:Addr) (xs:List V) (_:v = .ref a) (_:SqT K H a xs) (_:xs.length=n) (_:t xs σ H Q):Zo1 K n t v σ H Q
def Zho{k:Nat}{t:TGs}{n:Nat}(q:X.calm=true)(h:PGs X d t)
    (B:(assignEach d X.env).length=n:=by rfl) (f:(assignEach d X.env).findIdx? (·.1)=none:=by rfl):PG X (.Tuple d k pos) (Zo1 X.K n t):=by
  intro c s i H v u Q I r g;obtain ⟨a,z,l,m,y,g⟩:=g;subst l
  cases r
  obtain ⟨p,j,x,D⟩:=I.tuple m;refine assign_Tuple_tuple (I.ok.hd q) x (by simp[B,<-y,j.length]) f λA w=>?_;have C:Inv X c i H { s with heap:=A }:=I.kept (t':=s.toks) λb o e=>w b o (Qc<|Heap.lt_size e) e;exact h c _ i H z _ Q C (by simpa using j) g
def ZtX(b d:TE)(t:Zsr):TG:=λv a H Q=>b a H λo f=>d a f λi e=>t o i v e λc=>Q a c
def Zqy{t:Zsr}(D:PE X o e)(g:PE X i f)(l:ZtC X t)
    (q:∀v,assign (.Subscript o i pos) X.env v=(do
      let b ← holding [v] (eval o X.env)
      let c ← holding [v,b] (eval i X.env)
      standAt pos
      holding [v,b,c] (setItem b c v)
      release [v,b,c] []):=by intro _; rfl):PG X (.Subscript o i pos) (ZtX e f t):=by
  intro a s d H v u Q I r h;rw[q];refine wpAny_bind<|wpAny_holding<|thn (D a s d H _ I h) λb n ⟨x,p,w,j,B⟩=>?_;refine wpAny_bind<|wpAny_holding<|thn (g a n d p _ w B) λc z ⟨y,F,G,k,m⟩=>?_;refine wpAny_bind<|wpAny_standAt<|wpAny_bind<|wpAny_holding<|thn (l a z d F x y v b c u _ G j k r m) λ_ J ⟨E,A,C⟩=>?_;exact wpAny_release (d,E,A,C)
def Zss(te:TE)(g:TG):TS:=λD a H=>te a H λx b=>g x a b D.nx
def Zqz(j:PE X e te)(i:PG X b g)(k:swapsWithSole [b] e pos.line X.env=pure false:=by rfl)(hw:swappedStores [b] e X.env=pure none:=by rfl)
    (l:(assignEach [b] X.env).map (·.2)=[assign b X.env]:=by rfl):PS X (.Assign [b] e pos) (Zss te g):=by
  intro a s c H D I h;refine wpAny_Assign_stores (thn (j a s c H _ I h) λv o ⟨x,n,m,f,d⟩=>?_) k hw;rw[l];exact thn (i a o c n x v _ m f d) λ_ p q=>q
def ZaE{i:Nat}{x:Str}{a:Pos}(c:X.N.Nodup)(j:X.N[i]?=some x)(k:Loc X.env.scope x)(n:PE X e te)(m:swapsWith e (some<|.Name x a) pos.line X.env=pure false:=by rfl)(f:X.fn x=true\/X.env.scope.names.lookup x=some .local:=by first | exact .inl rfl | exact .inr rfl | assumption) :
    PS X (.Assign [.Name x a] e pos) (Zss te<|Zdv i):=by
  intro b s d H D I h;refine wpAny_Assign_Name (thn (n b s d H _ I h) λv r ⟨y,q,p,l,g⟩=>?_) m;exact Zdm p c j k l (λt o=>(_,q,o,g)) f
def ZtY(i j:Nat)(b:TA):TS:=λD a H=>b a H λc d=>∃v w,c=[v,w]/\D.nx ((a.set i<|some v).set j<|some w) d
def ZqA{i j:Nat}{x y:Str}{a b:Expr}{m k n:Pos}{kt k2 pt2}(R:X.calm=true)(u:X.N.Nodup)(J:X.N[i]?=some x)(S:X.N[j]?=some y)(t:i≠j)
    (A:X.env.scope.names.lookup x=some .local) (F:X.env.scope.names.lookup y=some .local) (N:PA X [a,b] C)
    (hw:swappedStores [.Tuple [.Name x m,.Name y k] kt n] (.Tuple [a,b] k2 pt2) X.env=pure (some [x,y]))
    (L:swapsWithSole [.Tuple [.Name x m,.Name y k] kt n] (.Tuple [a,b] k2 pt2) pos.line X.env=pure false:=by rfl) :
    PS X (.Assign [.Tuple [.Name x m,.Name y k] kt n] (.Tuple [a,b] k2 pt2) pos) (ZtY i j C):=by
  intro c s z H D I h;rw[exec_Assign_arm];refine wpAny_bind<|wpAny_standAt ?_;rw[L];refine wpAny_bind<|wpAny_pure ?_;rw[if_neg ∅];refine wpAny_bind<|Tuple_<|thn (N _ c s z H _ I h) λG f ⟨vs,B,M,K,r⟩=>?_;obtain ⟨v,w,P,r⟩:=r;subst P;obtain ⟨d,g,rfl,rv,rw'⟩:∃d g,G=[d,g]/\RelV v d/\RelV w g:=by
    cases K with
    | cons p q =>
      cases q with
      | cons T O =>
        cases O
        exact (_,_,rfl,p,T)
  refine wpAny_newObj_type ?_ (by show 2<=sizeLine; decide);have W:Inv X c z B { f with heap:=f.heap.push { cls:=.type "tuple", data:=.seq [d,g].toArray } }:=M.kept (t':=f.toks) λb o e=>Heap.get?_push_of_some _ e;rw[hw];refine wpAny_bind<|wpAny_pure ?_;show wpAny (model X.prog X.w) X.A (do rule "assign.swapped-stores"; let items ← unpackItems (.ref f.heap.objs.size) 2 none; assignInOrder [λv=>bindName X.env y v,λv=>bindName X.env x v] items.reverse; pure Flow.next) _ _ _;refine wpAny_bind<|wpAny_rule<|wpAny_bind<|unpackItems_tuple (items:=#[d,g]) (I.ok.hd R) (IsTup.new f.heap _) λh' l=>?_;have Q:=W.kept (h':=h') (t':=f.toks) λb o e=>l b o (Qc<|Heap.lt_size e) e;show wpAny _ _ (assignInOrder [λv=>bindName X.env y v,λv=>bindName X.env x v] [g,d] >>= λ_=>pure Flow.next) _ _ _;refine wpAny_bind<|assignInOrder_cons<|wpAny_bindName<|Zdm Q u S (.inl F) rw' (λZ U=>?_)<|.inr F;refine assignInOrder_cons<|wpAny_bindName<|Zdm U u J (.inl A) rv (λY E=>assignInOrder_nil<|wpAny_pure ?_)<|.inr A;rw[List.set_comm _ _<|Ne.symm t] at E;exact (_,B,E,r)
def ZtZ(i:Nat)(te:TE)(b:TIp):TS:=λD a H=>∃x,a[i]?=some (some x)/\te a H λy d=>b x y d λz c=>D.nx (a.set i<|some z) c
def Zi6{i:Nat}{x:Str}{b:Pos}(A:X.N.Nodup)(t:X.N[i]?=some x)(g:Loc X.env.scope x)(P:PE X e te)(Q:PIp X j q)(B:X.fn x=true\/X.env.scope.names.lookup x=some .local:=by first | exact .inl rfl | exact .inr rfl | assumption) :
    PS X (.AugAssign (.Name x b) j e pos) (ZtZ i te q):=by
  intro a s o H D I h;obtain ⟨v,M,h⟩:=h;obtain ⟨m,L,G⟩:=I.loc;have n:Vis X.env.scope x:=by rcases g with k | k; exact .inl k; exact .inr<|.inl k
  obtain ⟨u,r,l⟩:=G i x v t M n;refine wpAny_AugAssign_Name ?_;have p:wpAny (model X.prog X.w) X.A (eval e X.env) (λw d=>wpAny (model X.prog X.w) X.A (inplaceOp j u w) (λr f=>wpAny (model X.prog X.w) X.A (storeName X.env x r) (λ_=>SP X a D .next) X.xe f) X.xe d) X.xe s:=by
    refine thn (P a s o H _ I h) λw T ⟨y,K,J,C,O⟩=>?_;refine thn (Q a T o K v y u w _ J r C O) λz W ⟨Y,R,S,E,F⟩=>?_;exact Zdm S A t g E (λU N=>(_,R,N,F)) B
  rcases l with ⟨hk,hm⟩ | ⟨hk,c,hc,hcell⟩
  · exact wpAny_loadName_local I.ok.kind hk L hm p
  · rcases hk with hk | hk
    · exact wpAny_loadName_cell I.ok.kind hk hc hcell p
    · rcases g with k | k
      · have:X.env.scope.names.lookup x=some .free:=hk
        rw[k] at this; cases this
      · have:X.env.scope.names.lookup x=some .free:=hk
        rw[k] at this; cases this
def ipI(f:Int->Int->Int):TIp:=λx y H Q=>∃i j,x = .int i/\y = .int j/\Q (.int<|f i j) H
def Zn2:PIp X .Add (ipI λi j=>i+j):=by
 intro a s f H x y v u Q I d e h;obtain ⟨i,j,b,c,q⟩:=h;subst b;subst c;obtain ⟨t,rfl⟩:=d;obtain ⟨g,rfl⟩:=e;exact iadd_int (.int _,H,I.tok _,(_,rfl),q)
def ZqB:PIp X .Sub (ipI λi j=>i-j):=by
 intro a s f H x y v u Q I d e h;obtain ⟨i,j,b,c,q⟩:=h;subst b;subst c;obtain ⟨t,rfl⟩:=d;obtain ⟨g,rfl⟩:=e;exact isub_int (.int _,H,I.tok _,(_,rfl),q)
def ZqC(c:TT)(h:TS):TS:=λD a H=>∃W:Nat->St->Hp->Prop,(∃m,W m a H)/\∀m a H,W m a H →
 c a H λb f=>if b=true then ∃N:St->Hp->Prop,(∀d g,N d g->∃e,e<m/\W e d g)/\h { D with nx:=N,ct:=N,bk:=D.nx } a f else D.nx a f
def Zcc(w:PassesOwn (model X.prog X.w) X.A X.env X.xe)(K:PT X c tc)(J:PSs X body A):PS X (.While c body [] pos) (ZqC tc A):=by
 intro a s C H D I h;obtain ⟨W,⟨B,L⟩,g⟩:=h;refine wpAny_While<|codeAny_whileLoop (λn M=>∃i z,Inv X a i z M/\W n i z) ?_ B (C,H,I,L);rintro n O ⟨e,u,F,E⟩;refine wpAny_passesOwn w<|thn (K a O e u _ F<|g n e u E) λb G ⟨x,y,k⟩=>?_
 cases b with
 |true =>
  obtain ⟨N,t,k⟩:=k;rw[if_pos rfl];refine wpAny_passesOwn w<|thn (J a G e x _ y k) λf P l=>?_
  cases f with
  |next =>
   obtain ⟨d,j,o,r⟩:=l;obtain ⟨m,q,p⟩:=t d j r;exact (m,q,d,j,o,p)
  |cont =>
   obtain ⟨d,j,o,r⟩:=l;obtain ⟨m,q,p⟩:=t d j r;exact (m,q,d,j,o,p)
  |brk=>exact l
  |ret v=>exact l
 |false =>
  rw[if_neg Qv];exact wpAny_execs_nil (e,x,y,k)
end
structure It where
 go:Nat->Hp->Prop
 yld:Nat->Hp->V->Hp->Prop
 stop:Nat->Hp->Prop
def Zi7(X:Cx)(a:List (Addr×Obj))(H:Hp)(b:Addr):Prop :=
 H b=none/\b≠X.env.locals/\b∉X.fs/\(b∈X.ex\/X.s₀.heap.objs.size<=b)/\(∀x c,X.env.cells.lookup x=some c->c≠b)/\∀p∈X.pn++a,p.1≠b
def Inv.fpOk{H f:Hp}{s:Shared}{b:Addr}(I:Inv X a g H s)(d:s.heap.objs.size<=b)(i:f b=none):Zi7 X a f b:=by
 refine (i,Us<|Qa I.lt d,I.nofs d,.inr<|Q0 I.sz d,λx c e z=>?_,λp h z=>?_)
 ·obtain ⟨v,q⟩:=I.cell x c e;exact absurd (Qa q.lt (by rw[z];exact d))<|W0 _
 ·exact absurd (Qa (Heap.lt_size (I.pin p h).1) (by rw[z];exact d)) (W0 _)
structure Turn (P:Program) (w:World) (K:ZZfg) (tg:Expr) (J:It) (fp:ZZla) (it:Addr) (tn:Nat->Heap->Prop):Prop where
 mem:it∈fp
 obj:∀i h,tn i h->∀b∈fp,∃o,h.get? b=some o/\∀v,o.data ≠ .cell v
 keep:∀i h h',tn i h->(∀b∈fp,∀o,h.get? b=some o->h'.get? b=some o)->tn i h'
 item:∀(X:Cx),X.prog=P->X.w=w->X.K=K->X.calm=true->∀(i:Nat) (pins:List (Addr×Obj)) (s:Shared) (σ:St) (H:Hp) (E:Value->Shared->Prop),Inv X pins σ H s->(∀b∈fp,Zi7 X pins H b)->tn i s.heap->J.go i H →
  wpAny (model P w) X.A (pyNext (.ref it)) (λr s1=>∃u,r=some u ∧
   wpAny (model P w) X.A (letOwnedTupleGo tg (.ref it) u) (λ_ s2=>∃x H',Inv X pins σ H' s2/\RelV x u/\J.yld i H x H'/\tn (i+1) s2.heap/\∀b∈fp,H' b=none) E s1) E s
 done:∀(X:Cx),X.prog=P->X.w=w->X.K=K->X.calm=true->∀(i:Nat) (pins:List (Addr×Obj)) (s:Shared) (σ:St) (H:Hp) (E:Value->Shared->Prop),Inv X pins σ H s->(∀b∈fp,Zi7 X pins H b)->tn i s.heap->J.stop i H →
  wpAny (model P w) X.A (pyNext (.ref it)) (λr s1=>r=none/\Inv X pins σ H s1) E s
 self:∀(A:Around) (i:Nat) (s:Shared) (Q:Value->Shared->Prop) (E:Value->Shared->Prop),tn i s.heap->Q (.ref it) s->wpAny (model P w) A (pyIter (.ref it)) Q E s
abbrev TI:=St->Hp->(It->Hp->Prop)->Prop
def PIE(X:Cx)(a:List (Addr×Obj))(i:St)(j:Expr)(R:It->Hp->Prop)(c:Value)(h:Shared):Prop :=
 ∃(e:Addr) (f:ZZla) (g:Nat->Heap->Prop) (J:It) (d:Hp),c = .ref e/\Inv X a i d h/\Turn X.prog X.w X.K j J f e g/\g 0 h.heap/\(∀b∈f,Zi7 X a d b)/\R J d
def PI(X:Cx)(d b:Expr)(e:TI):Prop :=
 ∀(a:List (Addr×Obj)) (s:Shared) (c:St) (H:Hp) (R:It->Hp->Prop),Inv X a c H s->e c H R →
  wpAny (model X.prog X.w) X.A (eval b X.env) (λv f=>wpAny (model X.prog X.w) X.A (pyIter v) (PIE X a c d R) X.xe f) X.xe s
def ZkA{s:Shared}{it:Addr}{o:Obj}{n:String}{vs:Array Value}{Q:Unit->Shared->Prop}(e:s.heap.get? it=some o)(d:o.cls = .type n)(c:o.data = .fields vs)
    (f:["enumerate", "zip", "dict_itemiterator", "dict_reverseitemiterator", "odict_iterator", "itertools.zip_longest", "itertools.pairwise"].contains n=false) (a:Q () s):wpAny M A (letOwnedTupleGo b (.ref it) u) Q E s:=by
  unfold letOwnedTupleGo
  cases b <;> first
    | exact wpAny_pure a
    | (cases u <;> first
        | exact wpAny_pure a
        | (refine wpAny_bind<|wpAny_load e ?_
           rw[d,c];show wpAny M A (if (["enumerate", "zip", "dict_itemiterator", "dict_reverseitemiterator", "odict_iterator", "itertools.zip_longest", "itertools.pairwise"].contains n&&vs[0]?==some (rawInt _))=true then _ else _) Q E s;rw[if_neg (by intro h; rw[f,Bool.false_and] at h; cases h)];exact wpAny_pure a))
def Itl(K:ZZfg)(a:Addr):It :=
 (λi H=>∃b x,SqL K H a b/\b[i]?=some x,λi H x c=>c=H/\∀b,SqL K H a b->b[i]?=some x,λi H=>∃b,SqL K H a b/\b.length<=i)
def Itt(K:ZZfg)(a:Addr):It :=
 (λi H=>∃b x,SqT K H a b/\b[i]?=some x,λi H x c=>c=H/\∀b,SqT K H a b->b[i]?=some x,λi H=>∃b,SqT K H a b/\b.length<=i)
def Itr(lo:Int)(n:Nat):It:=(λi _=>i<n,λi H x a=>a=H/\x = .int (lo+i),λi _=>n<=i)
def ZkB{K:ZZfg}(a it:Addr):Turn P w K U (Itl K a) [it] it (λi h=>h.IsListIter it a i) where
 mem:=by simp
 obj:=λi h f b j=>by
  have e:b=it:=by simpa using j
  subst e;obtain ⟨o,e,c,d⟩:=f;exact (o,e,λv z=>by rw[d] at z;cases z)
 keep:=λi h q f k=>f.at λo e=>k it (by simp) o e
 item:=by
  intro X C y A O i g s N H E I m f J;subst C y A;obtain ⟨Y,x,n,B⟩:=J;obtain ⟨F,G,p,Q⟩:=I.list n;obtain ⟨u,R,T⟩:=G.get B;obtain ⟨r,D,f2,M,t,L⟩:=m it (by simp);refine wpAny_pyNext_list_item f p.isList (x:=u) (by simpa using R) λq l sb=>?_;have S:Inv X g N H { s with heap:=q }:=I.turned (t':=s.toks) (λb o j e=>(sb.2 b j).trans e) r D M t L;obtain ⟨o,e,c,d⟩:=id l;exact (u,rfl,ZkA (s:={ s with heap:=q }) e c d ∅ (x,H,S,T,(rfl,λys Z=>by rw[I.list_inj Z n];exact B),l,λb j=>(m b j).1))
 done:=by
  intro X C y A O i g s N H E I m f J;subst C y A;obtain ⟨Y,n,B⟩:=J;obtain ⟨F,G,p,Q⟩:=I.list n;obtain ⟨r,D,f2,M,t,L⟩:=m it (by simp);have hl:=G.length;exact wpAny_pyNext_list_end (I.ok.hd O) f p.isList (by simp;omega) λq W=>(rfl,I.turned (t':=s.toks) (λb o j e=>W b o j e) r D M t L)
 self:=λ_ _ _ _ _ f h=>wpAny_pyIter_listiter f h
def ZjP{K:ZZfg}(a it:Addr):Turn P w K U (Itt K a) [it] it (λi h=>h.IsTupleIter it a i) where
 mem:=by simp
 obj:=λi h f b j=>by
  have e:b=it:=by simpa using j
  subst e;obtain ⟨o,e,c,d⟩:=f;exact (o,e,λv z=>by rw[d] at z;cases z)
 keep:=λi h r f k=>f.at λo e=>k it (by simp) o e
 item:=by
  intro X D A B O i g s N H E I n f J;subst D A B;obtain ⟨Y,x,q,C⟩:=J;obtain ⟨l,G,p,Q⟩:=I.tuple q;obtain ⟨u,R,T⟩:=G.get C;obtain ⟨t,F,f2,M,y,L⟩:=n it (by simp);refine wpAny_pyNext_tuple_item f (show s.heap.IsTuple a l.toArray from p) (x:=u) (by simpa using R) λr m sb=>?_;have S:Inv X g N H { s with heap:=r }:=I.turned (t':=s.toks) (λb o j e=>(sb.2 b j).trans e) t F M y L;obtain ⟨o,e,c,d⟩:=id m;exact (u,rfl,ZkA (s:={ s with heap:=r }) e c d ∅ (x,H,S,T,(rfl,λys Z=>by rw[I.tuple_inj Z q];exact C),m,λb j=>(n b j).1))
 done:=by
  intro X D A B O i g s N H E I n f J;subst D A B;obtain ⟨Y,q,C⟩:=J;obtain ⟨l,G,p,Q⟩:=I.tuple q;obtain ⟨t,F,f2,M,y,L⟩:=n it (by simp);have hl:=G.length;exact wpAny_pyNext_tuple_end (I.ok.hd O) f (show s.heap.IsTuple a l.toArray from p) (by simp;omega) λr W=>(rfl,I.turned (t':=s.toks) (λb o j e=>W b o j e) t F M y L)
 self:=λ_ _ _ _ _ f h=>wpAny_pyIter_tupleiter f h
def ZjQ{K:ZZfg}(it:Addr)(lo:Int)(n:Nat):Turn P w K G (Itr lo n) [it] it (λi h=>IsRangeIter h it (lo+(i:Nat)*1) ((n:Int)-(i:Nat)) 1) where
 mem:=by simp
 obj:=λi h a b d=>by
  have e:b=it:=by simpa using d
  subst e;exact (_,a,λv z=>by
   have J:Data.fields _=Data.cell v:=z
   cases J)
 keep:=λi h j a k=>k it (by simp) _ a
 item:=by
  intro X r p q x i c s C H E I g a y;subst r p q;obtain ⟨l,u,O,B,m,A⟩:=g it (by simp);have W:=Walks.range (prog:=X.prog) (w:=X.w) (I.ok.hd x) it lo 1 n;refine W.item i s _ _ y a λv j D M f N=>?_;obtain ⟨t,rfl⟩:=M;have F:Inv X c C H { s with heap:=j,toks:=D }:=I.turned (λb o d e=>N b o (by simpa using d) e) l u B m A;refine (_,rfl,ZkA (s:={ s with heap:=j,toks:=D }) (n :="range_iterator") f rfl rfl ∅ (.int<|lo+i,H,F,(t,?_),(rfl,rfl),f,λb d=>(g b d).1));rw[Ut]
 done:=by
  intro X r p q x i c s C H E I g a y;subst r p q;obtain ⟨l,u,O,B,m,A⟩:=g it (by simp);exact wpAny_pyNext_range_end (I.ok.hd x) a (by have:n<=i:=y;omega) λj L=>(rfl,I.turned (t':=s.toks) (λb o d e=>L b o d e) l u B m A)
 self:=λ_ _ _ _ _ a h=>wpAny_pyIter_rangeiter a h
section
variable{X:Cx}{tg:Expr}
inductive Zn3 (K:ZZfg) (x:V) (H1:Hp) (R:It->Hp->Prop):Prop
 |mk (a:Addr) (_:x = .ref a) (_:(∃xs,SqL K H1 a xs)) (_:R (Itl K a) H1):Zn3 K x H1 R
def Zst(K:ZZfg)(b:TE):TI:=λa H R=>b a H λx c=>Zn3 K x c R
def Zt0(K:ZZfg)(e:TE):TI:=λc H R=>e c H λx b=>∃a,x = .ref a/\(∃d,SqT K b a d)/\R (Itt K a) b
def ZcX(t:PE X l g):PI X tg l (Zst X.K g):=by
 intro c s i H R I h;refine thn (t c s i H _ I h) λv f ⟨x,u,d,r,k⟩=>?_;obtain ⟨a,e,⟨z,m⟩,q⟩:=k;subst e
 cases r
 obtain ⟨n,y,p,w⟩:=d.list m;refine wpAny_pyIter_list p.isList ?_;refine (f.heap.objs.size,[f.heap.objs.size],_,_,u,rfl,d.kept (t':=f.toks) λb o e=>Heap.get?_push_of_some _ e,ZkB a _,(_,Heap.get?_push_size _ rfl,rfl,rfl),λb j=>?_,q);have e:b=f.heap.objs.size:=by simpa using j
 subst e;exact d.fpOk (Q4 _)<|d.hok.fresh<|Q4 _
def ZqD(t:PE X l i):PI X tg l (Zt0 X.K i):=by
 intro c s j H R I h;refine thn (t c s j H _ I h) λv d ⟨x,u,f,r,m⟩=>?_;obtain ⟨a,e,⟨z,n⟩,q⟩:=m;subst e
 cases r
 obtain ⟨g,y,p,w⟩:=f.tuple n;refine wpAny_pyIter_tuple (show d.heap.IsTuple a g.toArray from p) ?_;refine (d.heap.objs.size,[d.heap.objs.size],_,_,u,rfl,f.kept (t':=d.toks) λb o e=>Heap.get?_push_of_some _ e,ZjP a _,(_,Heap.get?_push_size _ rfl,rfl,rfl),λb k=>?_,q);have e:b=d.heap.objs.size:=by simpa using k
 subst e;exact f.fpOk (Q4 _)<|f.hok.fresh<|Q4 _
def Zi8{s:Shared}{R:It->Hp->Prop}{lo a:Int}{t u v:Tok}{f:Nat}(I:Inv X c d H s)(m:-(2^62)<=lo)(k:lo<2^62)(n:-(2^62)<=a)(l:a<2^62)
    (q:R (Itr lo (a-lo).toNat) H):wpAny (model X.prog X.w) X.A (pyIter<|.ref s.heap.objs.size) (PIE X c d tg R) E { s with heap:=s.heap.push { cls:=.type "range", data:=.fields #[.int lo t,.int a u,.int 1 v] },toks:=f }:=by
  refine wpAny_pyIter_range (IsRange.new ..) (small_one m k n l) ?_;have g:Inv X c d H { s with heap:=s.heap.push { cls:=.type "range", data:=.fields #[.int lo t,.int a u,.int 1 v] },toks:=f }:=I.kept λb o e=>Heap.get?_push_of_some _ e;refine ((s.heap.push { cls:=.type "range", data:=.fields #[.int lo t,.int a u,.int 1 v] }).objs.size,[(s.heap.push { cls:=.type "range", data:=.fields #[.int lo t,.int a u,.int 1 v] }).objs.size],_,_,H,rfl,
    g.kept (t':=f) λb o e=>Heap.get?_push_of_some _ e,ZjQ _ lo (a-lo).toNat,?_,λb i=>?_,q)
  · have h:lo+((0:Nat):Int)*1=lo:=by simp
    have j:(((a-lo).toNat:Nat):Int)-((0:Nat):Int)=Builtin.Range.rangeSize lo a 1:=by rw[rangeSize_one]; split <;> omega
    show IsRangeIter _ _ (lo+((0:Nat):Int)*1) ((((a-lo).toNat:Nat):Int)-((0:Nat):Int)) 1;rw[h,j];exact Heap.get?_push_size _ rfl
  · have e:b=(s.heap.push { cls:=.type "range", data:=.fields #[.int lo t,.int a u,.int 1 v] }).objs.size:=by simpa using i
    subst e;exact g.fpOk (Q4 _)<|g.hok.fresh<|Q4 _
inductive Zn4 (vs:List V) (H1:Hp) (R:It->Hp->Prop):Prop
 |mk (j:Int) (_:vs=[.int j]) (_:-(2^62)<=j) (_:j<2^62) (_:R (Itr 0 j.toNat) H1):Zn4 vs H1 R
def Zsu(a:TA):TI:=λb H R=>a b H λd c=>Zn4 d c R
inductive Zn5 (vs:List V) (H1:Hp) (R:It->Hp->Prop):Prop
 |mk (i j:Int) (_:vs=[.int i,.int j]) (_:(-(2^62)<=i/\i<2^62 /\ -(2^62)<=j/\j<2^62)) (_:R (Itr i (j-i).toNat) H1):Zn5 vs H1 R
def Zsv(a:TA):TI:=λb H R=>a b H λd c=>Zn5 d c R
def Ze2{a:Expr}{p c:Pos}(m:Gl X "range") (l:X.mg "range"=none) (v:PA X [a] f) (n:starEach [a] X.env=[(false,eval a X.env)]:=by rfl):PI X tg (.Call (.Name "range" p) [a] [] c) (Zsu f):=by
 intro b s g H R I h;refine Call_<|Zdy I m l boot_range<|PyProof.Rows.callWith_type1 (thn (v c b s g H _ I h) λw z ⟨x,y,u,k,d⟩=>?_) n rfl;obtain ⟨j,e,d,o,q⟩:=d;subst e
 cases k with
 |cons r i =>
  cases i
  obtain ⟨t,rfl⟩:=r;exact call_range_1<|Zi8 u ⋯ ⋯ d o (by simpa using q)
def ZkC{a b:Expr}{p f:Pos}(A:Gl X "range") (z:X.mg "range" = none) (w:PA X [a,b] l) (o:starEach [a,b] X.env=[(false,eval a X.env),(false,eval b X.env)]:=by rfl) (c:starEach [b] X.env=[(false,eval b X.env)]:=by rfl) :
    PI X tg (.Call (.Name "range" p) [a,b] [] f) (Zsv l):=by
  intro d s m H R I h;refine Call_<|Zdy I A z boot_range<|PyProof.Rows.callWith_type1 (thn (w f d s m H _ I h) λC E ⟨G,F,v,n,k⟩=>?_) (by rw[o,c]) (by rw[c]; rfl);obtain ⟨i,j,e,⟨k,u,y,x⟩,q⟩:=k;subst e
  cases n with
  | cons r g =>
    cases g with
    | cons B g =>
      cases g
      obtain ⟨t,rfl⟩:=r;obtain ⟨D,rfl⟩:=B;exact call_range_2<|Zi8 v k u y x q
def Zt1(f:TI)(g:TG)(k:TS):TS:=λD a H=>f a H λJ j=>∃W:Nat->Nat->St->Hp->Prop,(∃m,W 0 m a j)/\∀i m a H,W i m a H →
 (J.stop i H/\D.nx a H)\/(J.go i H/\∃N:St->Hp->Prop,(∀b c,N b c->∃e,e<m/\W (i+1) e b c)/\∀x c,J.yld i H x c->g x a c λd h=>k { D with nx:=N,ct:=N,bk:=D.nx } d h)
def Zi9(a:ZZla)(h:Heap):List (Addr×Obj):=a.filterMap λb=>(h.get? b).map λo=>(b,o)
def ZbZ{a:ZZla}{h:Heap}{b:Addr}{o:Obj}(c:b∈a)(e:h.get? b=some o):(b,o)∈Zi9 a h:=List.mem_filterMap.mpr (b,c,by rw[e];rfl)
def ZkD{h:Heap}{p:Addr×Obj}(d:p∈Zi9 a h):p.1∈a/\h.get? p.1=some p.2:=by
 obtain ⟨b,c,e⟩:=List.mem_filterMap.mp d
 cases q:h.get? b with
 |none=>rw[q] at e;cases e
 |some o =>
  rw[q] at e;have f:(b,o)=p:=Option.some.inj e;subst f;exact (c,q)
def Inv.pinned{s:Shared}{c:ZZla}(I:Inv X a f H s)(i:∀b∈c,Zi7 X a H b)(l:∀b∈c,∃o,s.heap.get? b=some o/\∀v,o.data ≠ .cell v):Inv X (a++Zi9 c s.heap) f H s :=
 I.pins_of λp m=>(We.mp m).elim (λz=>I.pin p<|Qw _ z) λz=>by
  obtain ⟨g,e⟩:=ZkD z;obtain ⟨k,j,n,_⟩:=i p.1 g;obtain ⟨o,h,d⟩:=l p.1 g;rw[e] at h;cases h;exact (e,k,j,n,d)
def Inv.unpinned{a pl:List (Addr×Obj)}(I:Inv X (a++pl) b H s):Inv X a b H s:=I.pins_of λp c=>I.pin p<|Qw _<|List.mem_append_left _ c
def Zdz{S:Pos}(G:PassesOwn (model X.prog X.w) X.A X.env X.xe)(hc:X.calm=true)(hi:PI X tg q wi)(hg:PG X tg g)(t:PSs X body tb)
    (hs:∀x,foldedSetIterable q X.env x=pure x:=by intro _; rfl):PS X (.For tg q body [] S) (Zt1 wi g tb):=by
  intro a s σ H D I h;refine wpAny_For (thn (hi a s σ H _ I h) λv s1 h1=>thn h1 λa0 s2 h2=>?_) hs;obtain ⟨it,L,tn,J,H2,e,I2,T,Q,f2,W,⟨m0,w0⟩,F⟩:=h2;subst e;have k:∀ {z:Hp},(∀b∈L,z b=none)->∀b∈L,Zi7 X a z b:=λhn b t=>(hn b t,(f2 b t).2);refine codeAny_forLoop_any (λn s'=>∃i w z,Inv X a w z s'/\tn i s'.heap/\(∀b∈L,z b=none)/\W i n w z) ?_ m0 (0,σ,H2,I2,Q,λb t=>(f2 b t).1,w0);rintro n s3 ⟨i,p,M,I3,E,C,w3⟩;rcases F i n p M w3 with ⟨stop,qn⟩ | ⟨go,N,hN,step⟩
  · refine wpAny_passesOwn G (thn (T.done X rfl rfl rfl hc i a s3 p M X.xe I3 (k C) E stop) λr s4 ⟨U,I4⟩=>?_)
    subst U;exact wpAny_execs_nil (p,M,I4,qn)
  · refine wpAny_passesOwn G (thn (T.item X rfl rfl rfl hc i a s3 p M X.xe I3 (k C) E go) λr s4 ⟨u,U,h4⟩=>?_)
    subst U;refine wpAny_passesOwn G<|thn h4 λ_ s5 ⟨x,Z,I5,r5,y5,B,Y⟩=>?_;have O:=I5.pinned (k Y)<|T.obj _ _ B;refine wpAny_passesOwn G<|thn (hg _ s5 p Z x u _ O r5<|step x Z y5) λ_ s6 ⟨R,H6,I6,q6⟩=>?_;refine wpAny_passesOwn G<|thn (t _ s6 R H6 _ I6 q6) λf P A=>?_;have l:∀ {c:St} {j:Hp},Inv X (a++Zi9 L s5.heap) c j P->N c j->∃m,m<n/\∃i w z,Inv X a w z P/\tn i P.heap/\(∀b∈L,z b=none)/\W i m w z:=fun {c j} y K=>by
      obtain ⟨m',hm,w7⟩:=hN c j K;refine (m',hm,i+1,c,j,y.unpinned,T.keep _ _ _ B λb t o e=>(y.pin (b,o)<|Qw _<|Qw _<|ZbZ t e).1,λb t=>?_,w7);obtain ⟨o,e,d⟩:=T.obj _ _ B b t;exact (y.pin (b,o)<|Qw _<|Qw _<|ZbZ t e).2.1
    cases f with
    | next=>obtain ⟨c,j,y,K⟩:=A; exact l y K
    | cont=>obtain ⟨c,j,y,K⟩:=A; exact l y K
    | brk=>obtain ⟨c,j,y,A⟩:=A; exact (c,j,y.unpinned,A)
    | ret v=>obtain ⟨x7,c,j,y,r7,A⟩:=A; exact (x7,c,j,y.unpinned,r7,A)
end
def ZeT{K:ZZfg}{xs:List V}{g:TG}{l:TS}{D:Ends}(c:Nat->St->Hp->Prop)(n:c 0 b H)(t:∀i b H,i<=xs.length->c i b H->SqL K H a xs)
    (s:∀i x b H,xs[i]?=some x->c i b H->g x b H λh j=>l { D with nx:=c<|i+1,ct:=c<|i+1,bk:=D.nx } h j) (o:∀b H,c xs.length b H->D.nx b H) :
    ∃W:Nat->Nat->St->Hp->Prop,(∃m,W 0 m b H)/\∀i m b H,W i m b H →
      ((Itl K a).stop i H/\D.nx b H)\/((Itl K a).go i H/\∃N:St->Hp->Prop,(∀d f,N d f->∃k,k<m/\W (i+1) k d f)/\∀x f,(Itl K a).yld i H x f->g x b f λh j=>l { D with nx:=N,ct:=N,bk:=D.nx } h j):=by
  refine (λi m b H=>m=xs.length-i/\i<=xs.length/\c i b H,(xs.length,by simp,Qg _,n),?_);rintro i m b H ⟨rfl,r,p⟩;have q:=t i b H r p
  by_cases hlt:i<xs.length
  · refine .inr ((xs,xs[i],q,by simp[hlt]),c<|i+1,λd f u=>(xs.length-(i+1),⋯,rfl,hlt,u),λx f y=>?_)
    obtain ⟨e,y⟩:=y;subst e;exact s i x b _ (y xs q) p
  · have e:i=xs.length:=⋯
    subst e;exact .inl ((xs,q,Q4 _),o b H p)
def Zo2{K:ZZfg}{xs:List V}{g:TG}{l:TS}{D:Ends}(c:Nat->St->Hp->Prop)(n:c 0 b H)(t:∀i b H,i<=xs.length->c i b H->SqT K H a xs)
    (s:∀i x b H,xs[i]?=some x->c i b H->g x b H λh j=>l { D with nx:=c<|i+1,ct:=c<|i+1,bk:=D.nx } h j) (o:∀b H,c xs.length b H->D.nx b H) :
    ∃W:Nat->Nat->St->Hp->Prop,(∃m,W 0 m b H)/\∀i m b H,W i m b H →
      ((Itt K a).stop i H/\D.nx b H)\/((Itt K a).go i H/\∃N:St->Hp->Prop,(∀d f,N d f->∃k,k<m/\W (i+1) k d f)/\∀x f,(Itt K a).yld i H x f->g x b f λh j=>l { D with nx:=N,ct:=N,bk:=D.nx } h j):=by
  refine (λi m b H=>m=xs.length-i/\i<=xs.length/\c i b H,(xs.length,by simp,Qg _,n),?_);rintro i m b H ⟨rfl,r,p⟩;have q:=t i b H r p
  by_cases hlt:i<xs.length
  · refine .inr ((xs,xs[i],q,by simp[hlt]),c<|i+1,λd f u=>(xs.length-(i+1),⋯,rfl,hlt,u),λx f y=>?_)
    obtain ⟨e,y⟩:=y;subst e;exact s i x b _ (y xs q) p
  · have e:i=xs.length:=⋯
    subst e;exact .inl ((xs,q,Q4 _),o b H p)
def ZkE{lo:Int}{n:Nat}{g:TG}{k:TS}{D:Ends}(f:Nat->St->Hp->Prop)(l:f 0 a H)
    (q:∀i a H,i<n->f i a H->g (.int<|lo+i) a H λd h=>k { D with nx:=f<|i+1,ct:=f<|i+1,bk:=D.nx } d h) (o:∀a H,f n a H->D.nx a H) :
    ∃W:Nat->Nat->St->Hp->Prop,(∃m,W 0 m a H)/\∀i m a H,W i m a H →
      ((Itr lo n).stop i H/\D.nx a H)\/((Itr lo n).go i H/\∃N:St->Hp->Prop,(∀b c,N b c->∃j,j<m/\W (i+1) j b c)/\∀x c,(Itr lo n).yld i H x c->g x a c λd h=>k { D with nx:=N,ct:=N,bk:=D.nx } d h):=by
  refine (λi m a H=>m=n-i/\i<=n/\f i a H,(n,by simp,Qg _,l),?_);rintro i m a H ⟨rfl,s,p⟩
  by_cases hlt:i<n
  · refine .inr (hlt,f<|i+1,λb c r=>(n-(i+1),⋯,rfl,hlt,r),λx c y=>?_)
    obtain ⟨e,y⟩:=y;subst e y;exact q i a _ hlt p
  · have e:i=n:=⋯
    subst e;exact .inl (Q4 _,o a H p)
abbrev R2:=V->V->Hp->VK->Prop
def OpR(X:Cx)(f:Value->Value->Sem Value)(r:R2):Prop :=
 ∀(a:List (Addr×Obj)) (s:Shared) (b:St) (H:Hp) (x y:V) (v u:Value) (Q:VK),Inv X a b H s->RelV x v->RelV y u->r x y H Q →
  wpAny (model X.prog X.w) X.A (f v u) (EP X a b Q) X.xe s
def UnR(X:Cx)(f:Value->Sem Value)(r:V->Hp->VK->Prop):Prop :=
 ∀(a:List (Addr×Obj)) (s:Shared) (b:St) (H:Hp) (x:V) (v:Value) (Q:VK),Inv X a b H s->RelV x v->r x H Q →
  wpAny (model X.prog X.w) X.A (f v) (EP X a b Q) X.xe s
def ZeP(X:Cx)(f:Value)(r:List V->Hp->VK->Prop):Prop :=
 ∀(a:List (Addr×Obj)) (s:Shared) (b:St) (H:Hp) (d:List V) (c:List Value) (Q:VK),Inv X a b H s->Vals d c->r d H Q →
  wpAny (model X.prog X.w) X.A (call f c) (EP X a b Q) X.xe s
def tOp(r:R2)(b e:TE):TE:=λa H Q=>b a H λx d=>e a d λy c=>r x y c Q
def tUn(r:V->Hp->VK->Prop)(a:TE):TE:=λb H Q=>a b H λx c=>r x c Q
inductive rI (C:Int->Int->Prop) (g:Int->Int->V) (x y:V) (H:Hp) (Q:VK):Prop
 |mk (i j:Int) (_:x = .int i) (_:y = .int j) (_:C i j) (_:Q (g i j) H):rI C g x y H Q
inductive rI0 (g:Int->Int->V) (x y:V) (H:Hp) (Q:VK):Prop
 |mk (i j:Int) (_:x = .int i) (_:y = .int j) (_:Q (g i j) H):rI0 g x y H Q
inductive rU (g:Int->V) (x:V) (H:Hp) (Q:VK):Prop
 |mk (i:Int) (_:x = .int i) (_:Q (g i) H):rU g x H Q
section
variable{X:Cx}{a b c:Expr}{ta tb tc:TE}{pos:Pos}
def Zsw(z:PE X a ta)(n:PE X b tb){d:List (Addr×Obj)}{s:Shared}{e:St}{H:Hp}{R:V->V->Hp->Prop}(I:Inv X d e H s)
    (h:ta e H λx l=>tb e l λy g=>R x y g) {Q:Value->Shared->Prop} {f:Value->Value->Sem Value}
    (m:∀v u k x y g,Inv X d e g k->RelV x v->RelV y u->R x y g->wpAny (model X.prog X.w) X.A (f v u) Q X.xe k) :
    wpAny (model X.prog X.w) X.A (eval a X.env) (λv i=>wpAny (model X.prog X.w) X.A (eval b X.env) (λu j=>wpAny (model X.prog X.w) X.A (f v u) Q X.xe j) X.xe i) X.xe s:=by
  refine thn (z d s e H _ I h) λv A ⟨x,l,w,p,o⟩=>?_;refine thn (n d A e l _ w o) λu k ⟨y,g,t,q,r⟩=>?_;exact m v u k x y g t p q r
def Zap(k:OpR X (binaryOp e) r)(n:PE X a ta)(g:PE X b tb):PE X (.BinOp a e b pos) (tOp r ta tb):=by
 intro d s f H Q I h;exact wpAny_BinOp<|Zsw n g I h λv u o x y l m j i q=>k d o f l x y v u Q m j i q
def ZjR(g:UnR X (unaryOp f) r)(l:PE X a ta):PE X (.UnaryOp f a pos) (tUn r ta):=by
 intro d s e H Q I h;exact UnaryOp_<|thn (l d s e H _ I h) λv j ⟨x,m,k,n,i⟩=>g d j e m x v Q k n i
def opI{f:Value->Value->Sem Value}{C:Int->Int->Prop}{g:Int->Int->Int}
    (d:∀(i j:Int) (t u:Tok) (s:Shared) (Q:Value->Shared->Prop) (E:Value->Shared->Prop),C i j->Q (.int (g i j) s.toks) { s with toks:=s.toks+1 }->wpAny (model X.prog X.w) X.A (f (.int i t)<|.int j u) Q E s) :
    OpR X f (rI C λi j => .int<|g i j):=by
  intro e s o H x y v u Q I m l h;obtain ⟨i,j,rfl,rfl,k,q⟩:=h;obtain ⟨t,rfl⟩:=m;obtain ⟨n,rfl⟩:=l;exact d i j t n s _ _ k (.int<|g i j,H,I.tok _,(_,rfl),q)
def ZtD{f:Value->Value->Sem Value}{g:Int->Int->Int}
    (d:∀(i j:Int) (t u:Tok) (s:Shared) (Q:Value->Shared->Prop) (E:Value->Shared->Prop),Q (.int (g i j) s.toks) { s with toks:=s.toks+1 }->wpAny (model X.prog X.w) X.A (f (.int i t)<|.int j u) Q E s) :
    OpR X f (rI0 λi j => .int<|g i j):=by
  intro e s n H x y v u Q I l k h;obtain ⟨i,j,rfl,rfl,q⟩:=h;obtain ⟨t,rfl⟩:=l;obtain ⟨m,rfl⟩:=k;exact d i j t m s _ _ (.int<|g i j,H,I.tok _,(_,rfl),q)
def Zsb{f:Value->Value->Sem Value}{g:Int->Int->Bool}
    (d:∀(i j:Int) (t u:Tok) (s:Shared) (Q:Value->Shared->Prop) (E:Value->Shared->Prop),Q (.bool<|g i j) s->wpAny (model X.prog X.w) X.A (f (.int i t)<|.int j u) Q E s) :
    OpR X f (rI0 λi j => .bl<|g i j):=by
  intro e s n H x y v u Q I l k h;obtain ⟨i,j,rfl,rfl,q⟩:=h;obtain ⟨t,rfl⟩:=l;obtain ⟨m,rfl⟩:=k;exact d i j t m s _ _ (.bl<|g i j,H,I,rfl,q)
def Zt2(i j:Int):Prop:=0<j/\j<1073741824
def CMul(i j:Int):Prop:=(-(2^64)<i/\i<2^64)\/(-(2^64)<j/\j<2^64)
def CMul.ok(h:CMul i j):IntMulOk i j:=by
 rcases h with ⟨h1,h2⟩|⟨h1,h2⟩
 ·exact .of_left (intBits_le_64 h1 h2)
 ·exact .of_right (intBits_le_64 h1 h2)
def Za6:OpR X (binaryOp .Add) (rI0 λi j => .int<|i+j):=ZtD λ_ _ _ _ _ _ _ q=>add_int q
def Zbq:OpR X (binaryOp .Sub) (rI0 λi j => .int<|i-j):=ZtD λ_ _ _ _ _ _ _ q=>sub_int q
def ZqE:OpR X (binaryOp .Mult) (rI CMul λi j => .int<|i*j):=opI λ_ _ _ _ _ _ _ d q=>mul_int q d.ok
def Zec:OpR X (binaryOp .FloorDiv) (rI Zt2 λi j => .int<|i/j):=opI λi j _ _ _ _ _ d q=>by
 have f:(0:Int)<j:=d.1;have e:j<1073741824:=d.2;exact floordiv_int ⋯ (by rw[Int.fdiv_eq_ediv_of_nonneg i ⋯];exact q)<|.inl<|PyProof.noPylong_small ⋯
def ZcQ:OpR X (binaryOp .Mod) (rI (λ_ j=>0<j) λi j => .int<|i%j):=opI λi j _ _ _ _ _ d q=>by
 have e:(0:Int)<j:=d;exact mod_int' ⋯ (by rw[Wm i ⋯];exact q)
def Zbn:OpR X (binaryOp .Mod) (rI (λ_ j=>j≠0) λi j => .int<|i.fmod j):=opI λ_ _ _ _ _ _ _ d q=>mod_int' d q
def unI{f:Value->Sem Value}{g:Int->Int}
    (d:∀(i:Int) (t:Tok) (s:Shared) (Q:Value->Shared->Prop) (E:Value->Shared->Prop),Q (.int (g i) s.toks) { s with toks:=s.toks+1 }->wpAny (model X.prog X.w) X.A (f<|.int i t) Q E s) :
    UnR X f (rU λi => .int<|g i):=by
  intro e s k H x v Q I j h;obtain ⟨i,rfl,q⟩:=h;obtain ⟨t,rfl⟩:=j;exact d i t s _ _ (.int<|g i,H,I.tok _,(_,rfl),q)
def Zf0:UnR X (unaryOp .USub) (rU λi => .int<|-i):=unI λ_ _ _ _ _ q=>neg_int q
end
def Zsx:V->V->Bool
 | .non,.non=>true| .non,.int _=>true| .int _,.non=>true| .non,.bl _=>true| .bl _,.non=>true| .non,.str _=>true| .str _,.non=>true
 | .int _,.int _=>true| .bl _,.bl _=>true| .str _,.str _=>true| .byt _,.byt _=>true
 | .int _,.str _=>true| .str _,.int _=>true| .bl _,.str _=>true| .str _,.bl _=>true
 |_,_=>false
def rEq:R2:=λx y H Q=>Zsx x y=true/\Q (.bl<|decide<|x=y) H
def rNe:R2:=λx y H Q=>Zsx x y=true/\Q (.bl<|!decide (x=y)) H
def Zgh:decide (V.int i=V.int j)=(i==j):=by
 rw[Bool.eq_iff_iff]
 simp
def Zn6:decide (V.bl i=V.bl j)=(i==j):=by
 rw[Bool.eq_iff_iff]
 simp
def ZkF:decide (V.str i=V.str j)=(i==j):=by
 rw[Bool.eq_iff_iff]
 simp
def ZkG{i j:Array UInt8}:decide (V.byt i=V.byt j)=(i.toList==j.toList):=by
 rw[Bool.eq_iff_iff]
 cases i
 cases j
 simp
section
variable{X:Cx}{a b c:Expr}{ta tb tc:TE}{pos:Pos}
def ZaS{Q:VK}{k g:Bool}(I:Inv X d f H s)(q:Q (.bl k) H)(e:k=g):EP X d f Q (.bool g) s:=by
 subst e;exact (.bl k,H,I,rfl,q)
def Zbr:OpR X (compareOp .Eq) rEq:=by
 intro k s l H x y v u Q I g d h;obtain ⟨f,q⟩:=h
 cases x with
 |non =>
  cases g
  cases y with
  |non=>cases d;exact PySem.EqNone.eq_none_none<|ZaS I q (by simp)
  |bl j=>cases d;exact PySem.EqNone.eq_none_bool<|ZaS I q (by simp)
  |int j=>obtain ⟨e,rfl⟩:=d;exact PySem.EqNone.eq_none_int<|ZaS I q (by simp)
  |str j=>obtain ⟨e,rfl⟩:=d;exact PySem.EqNone.eq_none_str<|ZaS I q (by simp)
  |_=>exact absurd (show false=true from f) Qv
 |bl i =>
  cases g
  cases y with
  |non=>cases d;exact PySem.EqNone.eq_bool_none<|ZaS I q (by simp)
  |bl j=>cases d;exact eq_bool<|ZaS I q Zn6
  |str j=>obtain ⟨e,rfl⟩:=d;exact PySem.EqMixed.eq_bool_str<|ZaS I q (by simp)
  |_=>exact absurd (show false=true from f) Qv
 |int i =>
  obtain ⟨t,rfl⟩:=g
  cases y with
  |non=>cases d;exact PySem.EqNone.eq_int_none<|ZaS I q (by simp)
  |int j=>obtain ⟨e,rfl⟩:=d;exact eq_int<|ZaS I q Zgh
  |str j=>obtain ⟨e,rfl⟩:=d;exact PySem.EqMixed.eq_int_str<|ZaS I q (by simp)
  |_=>exact absurd (show false=true from f) Qv
 |str i =>
  obtain ⟨t,rfl⟩:=g
  cases y with
  |non=>cases d;exact PySem.EqNone.eq_str_none<|ZaS I q (by simp)
  |bl j=>cases d;exact PySem.EqMixed.eq_str_bool<|ZaS I q (by simp)
  |int j=>obtain ⟨e,rfl⟩:=d;exact PySem.EqMixed.eq_str_int<|ZaS I q (by simp)
  |str j=>obtain ⟨e,rfl⟩:=d;exact eq_str<|ZaS I q ZkF
  |_=>exact absurd (show false=true from f) Qv
 |byt i =>
  obtain ⟨t,rfl⟩:=g
  cases y with
  |byt j=>obtain ⟨e,rfl⟩:=d;exact PySem.W.eq_bytes<|ZaS I q ZkG
  |_=>exact absurd (show false=true from f) Qv
 |_=>cases y <;> exact absurd (show false=true from f) Qv
def Zgi:OpR X (compareOp .NotEq) rNe:=by
 intro k s l H x y v u Q I g d h;obtain ⟨f,q⟩:=h
 cases x with
 |non =>
  cases g
  cases y with
  |non=>cases d;exact PySem.EqNone.ne_none_none<|ZaS I q (by simp)
  |bl j=>cases d;exact PySem.EqNone.ne_none_bool<|ZaS I q (by simp)
  |int j=>obtain ⟨e,rfl⟩:=d;exact PySem.EqNone.ne_none_int<|ZaS I q (by simp)
  |str j=>obtain ⟨e,rfl⟩:=d;exact PySem.EqNone.ne_none_str<|ZaS I q (by simp)
  |_=>exact absurd (show false=true from f) Qv
 |bl i =>
  cases g
  cases y with
  |non=>cases d;exact PySem.EqNone.ne_bool_none<|ZaS I q (by simp)
  |bl j=>cases d;exact ne_bool<|ZaS I q<|congrArg not Zn6
  |str j=>obtain ⟨e,rfl⟩:=d;exact PySem.EqMixed.ne_bool_str<|ZaS I q (by simp)
  |_=>exact absurd (show false=true from f) Qv
 |int i =>
  obtain ⟨t,rfl⟩:=g
  cases y with
  |non=>cases d;exact PySem.EqNone.ne_int_none<|ZaS I q (by simp)
  |int j=>obtain ⟨e,rfl⟩:=d;exact ne_int<|ZaS I q<|congrArg not Zgh
  |str j=>obtain ⟨e,rfl⟩:=d;exact PySem.EqMixed.ne_int_str<|ZaS I q (by simp)
  |_=>exact absurd (show false=true from f) Qv
 |str i =>
  obtain ⟨t,rfl⟩:=g
  cases y with
  |non=>cases d;exact PySem.EqNone.ne_str_none<|ZaS I q (by simp)
  |bl j=>cases d;exact PySem.EqMixed.ne_str_bool<|ZaS I q (by simp)
  |int j=>obtain ⟨e,rfl⟩:=d;exact PySem.EqMixed.ne_str_int<|ZaS I q (by simp)
  |str j=>obtain ⟨e,rfl⟩:=d;exact ne_str<|ZaS I q<|congrArg not ZkF
  |_=>exact absurd (show false=true from f) Qv
 |byt i =>
  obtain ⟨t,rfl⟩:=g
  cases y with
  |byt j=>obtain ⟨e,rfl⟩:=d;exact PySem.W.ne_bytes<|ZaS I q<|congrArg not ZkG
  |_=>exact absurd (show false=true from f) Qv
 |_=>cases y <;> exact absurd (show false=true from f) Qv
def ZdW:OpR X (compareOp .Lt) (rI0 λi j => .bl<|decide<|i<j):=Zsb λ_ _ _ _ _ _ _ q=>lt_int q
def Zo3:OpR X (compareOp .LtE) (rI0 λi j => .bl<|decide<|i<=j):=Zsb λ_ _ _ _ _ _ _ q=>le_int q
def Ze3:OpR X (compareOp .Gt) (rI0 λi j => .bl<|decide<|j<i):=Zsb λ_ _ _ _ _ _ _ q=>gt_int q
def Zsy:OpR X (compareOp .GtE) (rI0 λi j => .bl<|decide<|j<=i):=Zsb λ_ _ _ _ _ _ _ q=>ge_int q
def ZaC(b:Expr){d:CmpOp}(h:d ≠ .In:=by decide)(f:d ≠ .NotIn:=by decide):behindInMarks d b=false:=by
 have e:(d==CmpOp.In)=false:=by cases d <;> first|rfl|exact absurd rfl h
 have g:(d==CmpOp.NotIn)=false:=by cases d <;> first|rfl|exact absurd rfl f
 cases b <;> simp[behindInMarks,e,g]
def Zcr(l:OpR X (compareOp e) r)(o:PE X a ta)(g:PE X b tb)(k:behindInMarks e b=false):PE X (.Compare a [e] [b] pos) (tOp r ta tb):=by
 intro d s f H Q I h;exact wpAny_Compare1 (Zsw o g I h λv u p x y m n j i q=>l d p f m x y v u Q n j i q) k
inductive Zn7 (x:V) (Q:Bool->Hp->Prop) (H':Hp):Prop
 |mk (k:Bool) (_:x = .bl k) (_:Q k H'):Zn7 x Q H'
def Zsz(t:TE):TT:=λd H Q=>t d H λx e=>Zn7 x Q e
def Zay(w:OpR X (compareOp g) r)(F:PE X a ta)(i:PE X b tb)(q:behindInMarks g b=false):PT X (.Compare a [g] [b] pos) (Zsz<|tOp r ta tb):=by
 intro d s f H Q I h;refine wpAny_isTrue_Compare1 (thn (F d s f H _ I h) λv G ⟨x,E,D,o,m⟩=>thn (i d G f E _ D m) λu J ⟨y,B,C,p,t⟩ =>
  thn (w d J f B x y v u _ C o p t) λc K ⟨z,A,l,j,k,e,n⟩=>?_) q
 subst e
 cases j
 exact wpAny_truthy_bool (A,l,n)
def ZqF(r i:R2)(ta tb tc:TE):TE:=λd H Q=>ta d H λx j=>tb d j λy h=>r x y h λz e=>∃k,z = .bl k ∧
 (if k=true then tc d e λg f=>i y g f Q else Q (.bl false) e)
def ZmP(S:OpR X (compareOp l) r)(j:OpR X (compareOp g) q)(F:PE X a ta)(M:PE X b tb)(P:PE X c tc)
    (R:lastMarks [l,g] [b,c]=false:=by with_unfolding_all rfl):PE X (.Compare a [l,g] [b,c] pos) (ZqF r q ta tb tc):=by
  intro f s i H Q I h;refine Compare_chain (thn (F f s i H _ I h) λv Z ⟨x,E,D,w,O⟩=>chain_link<|thn (M f Z i E _ D O) λu J ⟨y,W,Y,m,A⟩ =>
    thn (S f J i W x y v u _ Y w m A) λd B ⟨z,p,n,N,k,e,o⟩=>?_) R
  subst e
  cases N
  refine wpAny_truthy_bool ?_
  cases k with
  | false=>exact ite_ff (.bl false,p,n,rfl,o)
  | true=>exact ite_tt<|chain_last<|thn (P f B i p _ n o) λT K ⟨L,C,U,t,G⟩=>j f K i C y L u T Q U m t G
def Zja:(sizeLine:Nat)<2^63:=by rw[sizeLine_eq];decide
def Zhp{x:V}(r:Vals [x] us):∃u,us=[u]/\RelV x u:=by
 cases r with
 |cons d e=>cases e;exact (_,rfl,d)
def ZkH{x y:V}(r:Vals [x,y] us):∃u d,us=[u,d]/\RelV x u/\RelV y d:=by
 cases r with
 |cons g h =>
  cases h with
  |cons e f=>cases f;exact (_,_,rfl,g,e)
def Zjb:ZeP X (.builtin "abs") (λxs H Q=>∃i,xs=[.int i]/\Q (.int (if i<0 then -i else i)) H):=by
 intro d s e H xs f Q I r h;obtain ⟨i,rfl,q⟩:=h;obtain ⟨u,rfl,t,rfl⟩:=Zhp r;exact call_abs_int λu g=>(.int (if i<0 then -i else i),H,I.tok _,(_,rfl),q)
def ZkI(e:X.calm=true):ZeP X (.builtin "max") (λxs H Q=>∃i j,xs=[.int i,.int j]/\Q (.int (if j>i then j else i)) H):=by
 intro d s f H xs g Q I r h;obtain ⟨i,j,rfl,q⟩:=h;obtain ⟨u,m,rfl,⟨t,rfl⟩,⟨n,rfl⟩⟩:=ZkH r;refine max_two_ints (I.ok.hd e) λo l k=>(_,H,I.kept k,?_,q)
 by_cases hj:j>i
 ·rw[if_pos hj,if_pos hj];exact (_,rfl)
 ·rw[if_neg hj,if_neg hj];exact (_,rfl)
def ZkJ(e:X.calm=true):ZeP X (.builtin "min") (λxs H Q=>∃i j,xs=[.int i,.int j]/\Q (.int (if j<i then j else i)) H):=by
 intro d s f H xs g Q I r h;obtain ⟨i,j,rfl,q⟩:=h;obtain ⟨u,m,rfl,⟨t,rfl⟩,⟨n,rfl⟩⟩:=ZkH r;refine min_two_ints (I.ok.hd e) λo l k=>(_,H,I.kept k,?_,q)
 by_cases hj:j<i
 ·rw[if_pos hj,if_pos hj];exact (_,rfl)
 ·rw[if_neg hj,if_neg hj];exact (_,rfl)
def Zhq:ZeP X (.type "int") (λxs H Q=>(∃i,xs=[.int i]/\Q (.int i) H)\/∃k,xs=[.bl k]/\Q (.int (if k then 1 else 0)) H):=by
 intro d s f H xs g Q I r h;rcases h with ⟨i,rfl,q⟩|⟨k,rfl,q⟩
 ·obtain ⟨u,rfl,t,rfl⟩:=Zhp r;exact call_int_int (.int i,H,I,(_,rfl),q)
 ·obtain ⟨u,rfl,e⟩:=Zhp r
  cases e
  exact call_int_bool (.int (if k then 1 else 0),H,I.tok _,(_,rfl),q)
end
structure ObjM (h:Heap) (x dx C:Addr) (mA:Str->Option Value):Prop where
 obj:h.get? x=some (PySem.W.instObj C dx)
 ns:h.Ns1 dx mA
 ne:dx≠x
def ZkK{h:Heap}(n:h.Ns1 d f):∃i,h.get? d=some i/\∀b,PySem.W.lookIn b i=some (f b):=by
 obtain ⟨o,g,s,m,j,p,_,l⟩:=n;refine (o,m,λb=>?_);have e:=l b;unfold nsFind findBy at e;rw[<-Array.find?_toList] at e;unfold PySem.W.lookIn;rw[j]
 dsimp only
 split
 ·rename_i y q
  rw[q] at e;exact congrArg some e
 ·rename_i q
  rw[q] at e;have a:g.toList.any (·.refKey)=false:=by
   rw[List.any_eq_false];intro y r;obtain ⟨z,t,c⟩:=p y<|Array.mem_toList_iff.mp r
   simp[DictEntry.refKey,c]
  have k:¬g.toList.any (·.refKey)=true:=by rw[a];exact Qv
  rw[if_neg k];exact congrArg some e
def ObjM.look(I:ObjM h x d C c):∃b,PySem.W.InstAt h x (PySem.W.instObj C d) C (some b)/\∀a,PySem.W.lookIn a b=some (c a) :=
 let ⟨b,ho,hl⟩:=ZkK I.ns
 (b,(I.obj,rfl,rfl,ho),hl)
section
variable{prog:Program}{w:World}{A:Around}{E:Value->Shared->Prop}{s:Shared}{K:ZZfg}{x dx C f:Addr}{mA:Str->Option Value}{name:Str}{v:Value}
def Zo4{Q:Value->Shared->Prop}(X:K.In s.heap)(I:ObjM s.heap x dx C mA)(c:PySem.W.plainGet K C name=true)(d:PySem.W.hasDictIn K C=true)
    (i:PySem.W.findIn K (.ref C) name=some none) (e:mA name=some v) (b:PySem.W.handedIn v=true) (h:Q v { s with toks:=s.toks+1 }) :
    wpAny (model prog w) A (getAttr (.ref x) name a) Q E s:=by
  obtain ⟨j,J,g⟩:=I.look;exact PySem.W.get_value X J (PySem.W.plainGet_of c).1 (PySem.W.findObj_own d i rfl (by rw[g,e])) b h
def ZmQ{Q:Value×List Value->Shared->Prop}(X:K.In s.heap)(I:ObjM s.heap x dx C mA)(a:PySem.W.plainGet K C name=true)
    (c:PySem.W.findIn K (.ref C) name=some (some<|.ref f)) (g:PySem.W.isFn K (.ref f)=true) (b:mA name=none) (h:Q (.ref f,[.ref x]) s) :
    wpAny (model prog w) A (getMethod (.ref x) name pl) Q E s:=by
  obtain ⟨e,J,d⟩:=I.look;exact PySem.W.method_fn X J (PySem.W.plainGet_of a).1 (PySem.W.plainGet_of a).2 c (beq_iff_eq.mp g) (by show (PySem.W.lookIn name e).map (·.isSome)=some false; rw[d,b]; rfl) h
def Zo5{k:List Str}{Q:Unit->Shared->Prop}(X:K.In s.heap)(I:ObjM s.heap x dx C mA)
    (o:PySem.W.findIn K (.ref C) "__setattr__" = some (some<|.builtin "object.__setattr__")) (z:PySem.W.plainOver K C=true) (n:PySem.W.takerIn K C name=some none) (t:PySem.W.hasDictIn K C=true)
    (hw:PySem.Within mA k) (u:k.length<=sizeLine)
    (h:∀h',ObjM h' x dx C (λy=>if y=name then some v else mA y)->Heap.SameBut dx s.heap h'->Q () { s with heap:=h',toks:=s.toks+2 }) :
    wpAny (model prog w) A (setAttr (.ref x) name v) Q E s:=by
  obtain ⟨G,J,D⟩:=I.look;refine PySem.W.set_plain X J o<|PySem.W.osa_open (s:={ s with toks:=s.toks+1 }) (r:=none) X J z n λb=>?_;obtain ⟨B,l,e⟩:=PySem.W.any_some t;have m:s.heap.get? x=some (.ref C,some dx,.plain,#[]):=I.obj;refine wpAny_bind<|wpAny_pure<|wpAny_bind<|wpAny_bind<|wpAny_loadPart m<|wpAny_bind<|PySem.W.Looks.here (s:={ s with toks:=s.toks+1 }) (PySem.W.looks_clsIn X l) ?_;rw[e];refine wpAny_pure (a:=some dx)<|wpAny_bind<|wpAny_pure<|wpAny_bind ?_;refine wpAny_nsSet1 (s:={ s with toks:=s.toks+1 }) I.ns λh' c d=>?_;obtain ⟨F,q,p,j,i,g⟩:=c.count<|PySem.Within.cons name v hw;refine wpAny_bind<|wpAny_lookBehind j (by rw[i]; exact pastItsLine_dict<|Q0 g (by rw[Wy]; omega)) ?_;exact wpAny_pure<|h _ ((d.2 _<|Ne.symm I.ne).trans I.obj,c,I.ne) d
def ZmR{vs:List Value}{b:List (Str×Value)}(X:K.In s.heap)(i:PySem.W.makesIn K C=true)
    (e:PySem.W.findIn K (.ref C) "__init__" = some (some<|.ref f)) (c:PySem.W.typeIn K (.ref f)=some (.type "function"))
    (h:codeAny (model prog w) (A.under<|.builtin "type.__call__" (.ref C::vs,b)) (.call (.ref f) (.ref (s.heap.objs.size+1)::vs,b)) (PySem.W.InitBack (s.heap.objs.size+1) R)
      { s with heap:=(s.heap.push PySem.W.emptyDict).push (PySem.W.instObj C s.heap.objs.size) }) :
    codeAny (model prog w) A (.call (.ref C) (vs,b)) R s:=by
  obtain ⟨k,g,d,t,j⟩:=s;exact PySem.W.make_core (PySem.W.makes_of X i) (PySem.W.looks_findIn X e) (λa=>PySem.W.bind_fn X a c) (.inl rfl) h
def ZkL(X:K.In s.heap)(e:PySem.W.makesIn K C=true)
    (c:PySem.W.findIn K (.ref C) "__init__" = some (some<|.builtin "object.__init__"))
    (b:∀a,PySem.W.Looks (model prog w) s.heap (bindSpecial (.builtin "object.__init__") a) (.builtin "object.__init__", [a]))
    (h:codeAny (model prog w) (A.under<|.builtin "type.__call__" ([.ref C],[])) (.call (.builtin "object.__init__") ([.ref<|s.heap.objs.size+1],[])) (PySem.W.InitBack (s.heap.objs.size+1) R)
      { s with heap:=(s.heap.push PySem.W.emptyDict).push (PySem.W.instObj C s.heap.objs.size) }) :
    codeAny (model prog w) A (.call (.ref C) ([],[])) R s:=by
  obtain ⟨j,g,d,t,i⟩:=s;exact PySem.W.make_core (PySem.W.makes_of X e) (PySem.W.looks_findIn X c) b (.inr (rfl,rfl)) h
end
def Zhr(f:Str)(v:V):List (Str×V)->List (Str×V)
 | []=>[(f,v)]
 |(g,x)::r=>if g=f then (g,v)::r else (g,x)::Zhr f v r
def Zcs(f g:Str)(v:V):∀b:List (Str×V),(Zhr f v b).lookup g=if g=f then some v else b.lookup g
 | []=>by
  show List.lookup g [(f,v)]=_
  by_cases h:g=f
  ·have a:(g==f)=true:=beq_iff_eq.mpr h
   simp only[List.lookup,a,if_pos h]
  ·have a:(g==f)=false:=beq_eq_false_iff_ne.mpr h
   simp only[List.lookup,a,if_neg h]
 |(k,x)::r=>by
  have c:=Zcs f g v r;rw[show Zhr f v ((k,x)::r)=(if k=f then (k,v)::r else (k,x)::Zhr f v r) from rfl]
  by_cases hk:k=f
  ·rw[if_pos hk]
   by_cases h:g=k
   ·have a:(g==k)=true:=beq_iff_eq.mpr h
    simp only[List.lookup,a,if_pos<|h.trans hk]
   ·have a:(g==k)=false:=beq_eq_false_iff_ne.mpr h
    simp only[List.lookup,a,if_neg (λe:g=f=>h<|e.trans hk.symm)]
  ·rw[if_neg hk]
   by_cases h:g=k
   ·have a:(g==k)=true:=beq_iff_eq.mpr h
    simp only[List.lookup,a,if_neg (λe:g=f=>hk<|h.symm.trans e)]
   ·have a:(g==k)=false:=beq_eq_false_iff_ne.mpr h
    simp only[List.lookup,a]
    exact c
def Ze4(f:Str)(v:V):∀a:List (Str×V),f∈(Zhr f v a).map (·.1)/\∀g,g∈a.map (·.1)->g∈(Zhr f v a).map (·.1)
 | []=>(by simp[Zhr],λg h=>by simp at h)
 |(k,x)::r=>by
  obtain ⟨c,b⟩:=Ze4 f v r;rw[show Zhr f v ((k,x)::r)=(if k=f then (k,v)::r else (k,x)::Zhr f v r) from rfl]
  by_cases hk:k=f
  ·rw[if_pos hk];subst hk;exact (by simp,λg h=>by simpa using h)
  ·rw[if_neg hk];refine (?_,λg h=>?_)
   ·rw[Ui];exact W7 _ c
   ·rw[Ui] at h ⊢;rcases Qe.mp h with e|e
    ·exact Qe.mpr (.inl e)
    ·exact W7 _ (b g e)
def Ze5(f:Str)(v:V):∀a:List (Str×V),(Zhr f v a).length<=a.length+1
 | []=>by simp[Zhr]
 |(k,x)::r=>by
  have b:=Ze5 f v r;rw[show Zhr f v ((k,x)::r)=(if k=f then (k,v)::r else (k,x)::Zhr f v r) from rfl]
  by_cases hk:k=f
  ·rw[if_pos hk,Wy,Wy];omega
  ·rw[if_neg hk,Wy,Wy];omega
def RelO.some_of{v:V}(r:RelO (some v) o):∃u,o=some u/\RelV v u:=by
 cases o with
 |none=>exact (show False from r).elim
 |some u=>exact (u,rfl,r)
def RelO.none_of(r:RelO none o):o=none:=by
 cases o with
 |none=>rfl
 |some u=>exact (show False from r).elim
def ZkM(r:RelV v u):PySem.W.handedIn u=true:=by
 cases v with
 |non=>cases (show u=Value.none from r);rfl
 |bl b=>cases (show u=Value.bool b from r);rfl
 |int i=>obtain ⟨t,e⟩:=(show ∃t,u=Value.int i t from r);cases e;rfl
 |str x=>obtain ⟨t,e⟩:=(show ∃t,u=Value.str x t from r);cases e;rfl
 |byt b=>obtain ⟨t,e⟩:=(show ∃t,u=Value.bytes b t from r);cases e;rfl
 |flt b=>obtain ⟨t,e⟩:=(show ∃t,u=Value.float b t from r);cases e;rfl
 |ref a=>cases (show u=Value.ref a from r);rfl
 |ty n=>cases (show u=Value.type n from r);rfl
section
variable{P:Program}{w:World}{H H':Hp}{h h':Heap}{a C dx:Addr}{fs fs':List (Str×V)}
def Ze6(c:HOk P w H h)(e:H a=some (.ins C dx fs)):∃b,ObjM h a dx C b/\(∀f,RelO (fs.lookup f)<|b f)/\PySem.Within b (fs.map (·.1))/\fs.length<=1000/\H dx=some (.own a):=by
 obtain ⟨d,z,i,g,b,n,r,q⟩:=(show ObjOk P w H h a (.ins C dx fs) from c a _ e);exact (b,(g,n,i),r,q,z,d)
end
structure Cls (K:ZZfg) (C:Addr):Prop where
 pg:PySem.W.plainGet K C Str.empty=true
 hd:PySem.W.hasDictIn K C=true
 po:PySem.W.plainOver K C=true
 sa:PySem.W.findIn K (.ref C) "__setattr__"=some (some (.builtin "object.__setattr__"))
def Cls.get{K:ZZfg}(c:Cls K C)(f:Str):PySem.W.plainGet K C f=true:=c.pg
def NoAttr(K:ZZfg)(C:Addr)(f:Str):Prop:=PySem.W.findIn K (.ref C) f=some none
def NoAttr.taker{K:ZZfg}(n:NoAttr K C f):PySem.W.takerIn K C f=some none:=by
 unfold PySem.W.takerIn;rw[show PySem.W.findIn K (.ref C) f=some none from n]
 rfl
structure Meth (K:ZZfg) (C:Addr) (m:Str) (f:Addr):Prop where
 at_:PySem.W.findIn K (.ref C) m=some (some (.ref f))
 fn:PySem.W.isFn K (.ref f)=true
 kp:PySem.W.keepIn K (.ref f)=true
section
variable{X:Cx}{pins:List (Addr×Obj)}{σ:St}{H:Hp}{s:Shared}{a C dx:Addr}{fs:List (Str×V)}{f:Str}{v:V}{A:Around}{E:Value->Shared->Prop}
def ZjS{Q:Value->Shared->Prop}(I:Inv X pins σ H s)(e:H a=some (.ins C dx fs))(c:Cls X.K C)(n:NoAttr X.K C f)(l:fs.lookup f=some v)
    (h:∀u d,Inv X pins σ H d->RelV v u->Q u d):wpAny (model X.prog X.w) A (getAttr (.ref a) f b) Q E s:=by
  obtain ⟨i,O,r,_,_,_⟩:=Ze6 I.hok e;obtain ⟨u,j,g⟩:=RelO.some_of (v:=v) (o:=i f) (by rw[<-l]; exact r f);exact Zo4 I.kIn O (c.get f) c.hd n j (ZkM g)<|h u _ (I.tok _) g
def Zf1{Q:Value×List Value->Shared->Prop}(I:Inv X pins σ H s)(e:H a=some (.ins C dx fs))(c:Cls X.K C)(k:Meth X.K C m g)(l:fs.lookup m=none)
    (h:Q (.ref g,[.ref a]) s):wpAny (model X.prog X.w) A (getMethod (.ref a) m pl) Q E s:=by
  obtain ⟨b,O,r,_,_,_⟩:=Ze6 I.hok e;have d:b m=none:=RelO.none_of (by rw[<-l]; exact r m);exact ZmQ I.kIn O (c.get m) k.at_ k.fn d h
def ZjT{Q:Unit->Shared->Prop}(I:Inv X pins σ H s)(e:H a=some (.ins C dx fs))(c:Cls X.K C)(n:NoAttr X.K C f)(G:fs.length<1000)(w:RelV y u)
    (h:∀l,Inv X pins σ (upd H a<|.ins C dx<|Zhr f y fs) l->Q () l):wpAny (model X.prog X.w) A (setAttr (.ref a) f u) Q E s:=by
  obtain ⟨j,O,r,i,_,k⟩:=Ze6 I.hok e;have t:(fs.map (·.1)).length<=sizeLine:=by rw[Q1,sizeLine_eq]; omega
  refine Zo5 I.kIn O c.sa c.po n.taker c.hd i t λD d F=>h _ ?_;have m:∃o,D.get? dx=some o:=let ⟨o,_,_,e',_⟩:=d.ns; (o,e');refine I.write (x:=a) (e:=dx) (by rw[e]; exact True.intro) (.inr k) (λb q p z=>(F.2 b p).trans z) m ?_;refine (by rw[Zaj O.ne]; exact k,?_,O.ne,d.obj,_,d.ns,λg=>?_,λg B=>?_)
  · have:=Ze5 f y fs; omega
  · show RelO ((Zhr f y fs).lookup g) (if g=f then some u else j g)
    rw[Zcs]
    by_cases q:g=f
    · rw[if_pos q,if_pos q]; exact w
    · rw[if_neg q,if_neg q]; exact r g
  · by_cases q:g=f
    · rw[q]; exact (Ze4 f y fs).1
    · refine (Ze4 f y fs).2 g (i g λz=>B ?_)
      show (if g=f then some u else j g)=none;rw[if_neg q]; exact z
def Inv.made(I:Inv X pins σ H s):Inv X pins σ (upd (upd H s.heap.objs.size<|.own<|s.heap.objs.size+1) (s.heap.objs.size+1)<|.ins C s.heap.objs.size [])
    { s with heap:=(s.heap.push PySem.W.emptyDict).push (PySem.W.instObj C s.heap.objs.size) }:=by
  have c:(s.heap.push PySem.W.emptyDict).get? s.heap.objs.size=some PySem.W.emptyDict:=Heap.get?_push_size s.heap rfl;have k:((s.heap.push PySem.W.emptyDict).push<|PySem.W.instObj C s.heap.objs.size).get? (s.heap.objs.size+1)=some (PySem.W.instObj C s.heap.objs.size):=by
    have:=Heap.get?_push_size (s.heap.push PySem.W.emptyDict) (o:=PySem.W.instObj C s.heap.objs.size) rfl
    rwa [Heap.size_push] at this
  have h:(s.heap.push PySem.W.emptyDict).Ns s.heap.objs.size (λ_=>none):=(PySem.W.emptyDict,#[],_,c,rfl,(λe g=>absurd g (by simp)),λ_=>rfl);have j:=I.laid (a:=s.heap.objs.size) (o:=.own<|s.heap.objs.size+1) (h':=s.heap.push PySem.W.emptyDict) (t':=s.toks) (λb u q=>Heap.get?_push_of_some _ q) (Q4 _) (_,c);refine j.laid (a:=s.heap.objs.size+1) (o:=.ins C s.heap.objs.size []) (t':=s.toks) (λb u q=>Heap.get?_push_of_some _ q) (Wo<|Heap.size_push _ _) ?_;have d:s.heap.objs.size≠s.heap.objs.size+1:=Qc<|Uu _;refine (by rw[Zaj d,Zai],Qg _,d,k,λ_=>none,(Heap.Ns1.of_empty h).at λo q=>Heap.get?_push_of_some _ q,λ_=>True.intro,λy i=>absurd rfl i)
def Zo6{f:Str}{c:Pos}{s:Shared}(d:attributeBase e f env (eval e env)=eval e env)
    (h:wpAny (model prog w) A (eval e env) (λo b=>wpAny (model prog w) A (getAttr o f true) Q E b) E s):wpAny (model prog w) A (eval (.Attribute e f c) env) Q E s :=
  Attribute_any_ h (by rw[arm_eval_Attribute,d])
end
inductive ZqG (K:ZZfg) (f:Str) (x:V) (H1:Hp) (Q:VK):Prop
 |mk (a C:Addr) (dx:_) (fs:_) (v:V) (_:x = .ref a) (_:H1 a=some (.ins C dx fs)) (_:Cls K C) (_:NoAttr K C f) (_:fs.lookup f=some v) (_:Q v H1):ZqG K f x H1 Q
def Zt3(K:ZZfg)(a:TE)(f:Str):TE:=λb H Q=>a b H λx c=>ZqG K f x c Q
def Zt4(K:ZZfg)(g h:TE)(f:Str):TS:=λD b H=>h b H λy i=>g b i λx d=>∃a C e c,x = .ref a/\d a=some (.ins C e c)/\Cls K C/\NoAttr K C f/\c.length<1000 ∧
 D.nx b (upd d a<|.ins C e<|Zhr f y c)
section
variable{X:Cx}{o e value:Expr}{f:Str}{pos pos' tpos:Pos}{ta tv:TE}
def ZeE(k:PE X e ta)(g:attributeBase e f X.env (eval e X.env)=eval e X.env):PE X (.Attribute e f pos) (Zt3 X.K ta f):=by
 intro b s d H Q I h;refine Zo6 g<|thn (k b s d H _ I h) λu B ⟨x,r,p,j,a,C,z,y,v,m,i,c,n,l,q⟩=>?_;subst m;obtain rfl:u=Value.ref a:=j;exact ZjS p i c n l λA D t w=>(v,r,t,w,q)
def Zn8(A:PE X o ta)(p:PE X value tv)(m:swapsWith value (some<|.Attribute o f pos') pos.line X.env=pure false):PS X (.Assign [.Attribute o f pos'] value pos) (Zt4 X.K ta tv f):=by
 intro b s d H D I h;refine plainObj_wpAny_Assign_Attribute (thn (p b s d H _ I h) λu E ⟨y,z,w,j,q⟩=>thn (A b E d z _ w q) λB L ⟨x,K,v,k,a,C,G,F,t,i,c,n,l,r⟩=>?_) m;subst t;obtain rfl:B=Value.ref a:=k;exact ZjT v i c n l j λJ g=>(d,_,g,r)
end
section
variable{X:Cx}{pins:List (Addr×Obj)}{σ:St}{H:Hp}{s:Shared}{A:Around}{E:Value->Shared->Prop}{Q:Value->Shared->Prop}{c:Value}{b:Bool}
inductive Zjc (K:ZZfg) (H:Hp):V->Value->Prop where
  | non:Zjc K H .non (.type "NoneType")
  | bl (x:Bool):Zjc K H (.bl x) (.type "bool")
  | int (i:Int):Zjc K H (.int i) (.type "int")
  | str (x:Str):Zjc K H (.str x) (.type "str")
  | flt (x:UInt64):Zjc K H (.flt x) (.type "float")
  | lst {a:Addr} {xs:List V} (e:H a=some (.lst xs)):Zjc K H (.ref a) (.type "list")
  | frz {a:Addr} {o:Obj} {xs:List V} (e:H a=some (.frz o (.lst xs))):Zjc K H (.ref a) (.type "list")
  | tup {a:Addr} {xs:List V} (e:H a=some (.tup xs)):Zjc K H (.ref a) (.type "tuple")
  | dK {a:Addr} {kvs:List (Key×V)} (e:H a=some (.dK kvs)):Zjc K H (.ref a) (.type "dict")
  | dT {a:Addr} {kvs:List (List Key×V)} (e:H a=some (.dT kvs)):Zjc K H (.ref a) (.type "dict")
  | ins {a C dx:Addr} {fs:List (Str×V)} (e:H a=some (.ins C dx fs)) (cl:Cls K C) (ha:PySem.W.findIn K (.ref C) "__class__" = some (some (.builtin "object.__class__")))
      (hn:PySem.W.specialIn K (.builtin "object.__class__") "__get__" = some (some (.builtin "getset_descriptor.__get__"))) (htk:PySem.W.takesIn K (.builtin "object.__class__")=some true)
      (hm:PySem.W.mroIn K C (.type "object")=some true):Zjc K H (.ref a) (.ref C)
def ZkN{u t:Value}(I:Inv X pins σ H s)(d:RelV x u)(l:Zjc X.K H x t)(e:PySem.W.kitOne X.K t c=some b)(h:∀m,Q (.bool b) { s with toks:=m }) :
    wpAny (model X.prog X.w) A (call (.builtin "isinstance") [u,c]) Q E s:=by
  cases l with
  | non=>cases (show u=Value.none from d); exact PySem.W.kia_one PySem.W.kitx_none I.kIn True.intro e (λz=>nomatch z) h
  | bl y=>cases (show u=Value.bool y from d); exact PySem.W.kia_one PySem.W.kitx_bool I.kIn True.intro e (λz=>nomatch z) h
  | int i=>obtain ⟨t,q⟩:=(show ∃t,u=Value.int i t from d); cases q; exact PySem.W.kia_one PySem.W.kitx_int I.kIn True.intro e (λz=>nomatch z) h
  | str y=>obtain ⟨t,q⟩:=(show ∃t,u=Value.str y t from d); cases q; exact PySem.W.kia_one PySem.W.kitx_str I.kIn True.intro e (λz=>nomatch z) h
  | flt y=>obtain ⟨t,q⟩:=(show ∃t,u=Value.float y t from d); cases q; exact PySem.W.kia_one PySem.W.kitx_float I.kIn True.intro e (λz=>nomatch z) h
  | @lst a g ea =>
    cases (show u=Value.ref a from d)
    obtain ⟨_,_,n,_,f⟩:=(show ObjOk X.prog X.w H s.heap a (.lst g) from I.hok a _ ea);exact PySem.W.kia_one PySem.W.kitx_list I.kIn (_,f,rfl) e (λz=>nomatch z) h
  | @frz a ob g ea =>
    cases (show u=Value.ref a from d)
    obtain ⟨_,_,_,n,_,f⟩:=(show ObjOk X.prog X.w H s.heap a (.frz ob<|.lst g) from I.hok a _ ea);exact PySem.W.kia_one PySem.W.kitx_list I.kIn (_,f,rfl) e (λz=>nomatch z) h
  | @tup a g ea =>
    cases (show u=Value.ref a from d)
    obtain ⟨_,_,_,p⟩:=(show ObjOk X.prog X.w H s.heap a (.tup g) from I.hok a _ ea);obtain ⟨o,f,j,_⟩:=p;exact PySem.W.kia_one PySem.W.kitx_tuple I.kIn (o,f,j) e (λz=>nomatch z) h
  | @dK a kvs ea =>
    cases (show u=Value.ref a from d)
    obtain ⟨_,_,w,_,p⟩:=(show ObjOk X.prog X.w H s.heap a (.dK kvs) from I.hok a _ ea);obtain ⟨o,r,k,f,j,_⟩:=p;exact PySem.W.kia_one PySem.W.kitx_dict I.kIn (o,f,j.1) e (λz=>nomatch z) h
  | @dT a kvs ea =>
    cases (show u=Value.ref a from d)
    obtain ⟨_,_,g,_,o,r,k,f,j,_⟩:=(show ObjOk X.prog X.w H s.heap a (.dT kvs) from I.hok a _ ea);exact PySem.W.kia_one PySem.W.kitx_dict I.kIn (o,f,j.1) e (λz=>nomatch z) h
  | @ins a C dx fs ea cl ha hn htk hm =>
    cases (show u=Value.ref a from d)
    obtain ⟨v,O,_⟩:=Ze6 I.hok ea;obtain ⟨B,J,_⟩:=O.look;exact PySem.W.kia_one (PySem.W.kitx_own (cl.get _) cl.hd ha hn htk hm) I.kIn J e (λz=>nomatch z) h
end
structure Room (k:Nat) (A:Around):Prop where
 hd:A.handled=none
 dp:A.depth+3*k+5<recursionLimit
 un:A.units+16*k+200<cLine
def Room.mono{j k:Nat}(r:Room k A)(h:j<=k):Room j A:=(r.hd,by have:=r.dp;omega,by have:=r.un;omega)
def Room.deeper{k:Nat}{A:Around}(r:Room (k+1) A)(env:Env):Room k (A.deeper env) :=
 (r.hd,by have:=r.dp;show A.depth+1+3*k+5<_;omega,by have:=r.un;show A.units+3+16*k+200<_;omega)
def ZjU{A:Around}{C:Addr}{us:List Value}{a:List (Str×Value)}:(A.under<|.builtin "type.__call__" (.ref C::us,a)).depth=A.depth+1:=by
 first|rfl|simp[Around.under,Code.weight,Code.isCreation,Code.isGuard,Code.isCaller,Code.frames,Code.isFrame,guardIds]
def ZjV{A:Around}{C:Addr}{us:List Value}{a:List (Str×Value)}:(A.under<|.builtin "type.__call__" (.ref C::us,a)).units=A.units+1:=by
 first|rfl|simp[Around.under,Code.cUnits,Code.frames,Code.isFrame]
def Room.make{k:Nat}{A:Around}(r:Room (k+1) A)(C:Addr)(us:List Value)(a:List (Str×Value)):Room k (A.under<|.builtin "type.__call__" (.ref C::us,a)) :=
 (r.hd,by have:=r.dp;rw[ZjU];omega,by have:=r.un;rw[ZjV];omega)
def Room.depth{A:Around}(r:Room k A):A.depth<recursionLimit:=by have:=r.dp;omega
def Room.units{A:Around}(r:Room k A):A.units+64<cLine:=by have:=r.un;omega
def Zt5:TA:=λ_ H Q=>Q [] H
def ZsA(b:TE)(c:TA):TA:=λa H Q=>b a H λx f=>c a f λd e=>Q (x::d) e
section
variable{X:Cx}{e:Expr}{es:List Expr}{te:TE}{t:TA}{pos:Pos}
def Zaf:PA X [] Zt5:=λ_ _ _ _ H Q I h=>Calls.spliced_nil ([],H,I,.nil,h)
def Zaa(o:PE X e te)(hr:PA X es t)(g:starEach (e::es) X.env=(false,eval e X.env)::starEach es X.env:=by rfl):PA X (e::es) (ZsA te t):=by
 intro pos a s b H Q I h;rw[g];show wpAny _ _ (spliced ((false,eval e X.env)::backTo pos (starEach es X.env))) _ _ s;refine Calls.spliced_cons<|thn (o a s b H _ I h) λu p ⟨x,n,m,d,c⟩=>?_;exact thn (hr pos a p b n _ m c) λq r ⟨j,k,l,f,i⟩=>(x::j,k,l,.cons d f,i)
def Zt6(t:TA):TE:=λc H Q=>t c H λb a=>b.length<=sizeLine/\∀p,a p=none->Q (.ref p) (upd a p<|.tup b)
def Zt7(t:TA):TE:=λc H Q=>t c H λb a=>b.length<=sizeLine/\∀p,a p=none->Q (.ref p) (upd a p<|.lst b)
def Zb0{x1}(h:PA X es t):PE X (.Tuple es x1 pos) (Zt6 t):=by
 intro a s g H Q I k;refine wpAny_Tuple_spliced<|thn (h pos a s g H _ I k) λj c ⟨l,f,d,r,z,q⟩=>(by rw[<-r.length];exact z,?_);have i:f c.heap.objs.size=none:=d.hok.fresh<|Q4 _;refine (.ref c.heap.objs.size,upd f c.heap.objs.size<|.tup l,d.laid (t':=c.toks) (λb u e=>Heap.get?_push_of_some _ e) (Q4 _) ?_,rfl,q _ i);exact (z,j,r,(_,Heap.get?_push_size _ rfl,rfl,_,rfl))
def ZeF(h:PA X es t):PE X (.List es pos) (Zt7 t):=by
 intro a s g H Q I k;refine wpAny_List_spliced<|thn (h pos a s g H _ I k) λj c ⟨l,f,d,r,z,q⟩=>(by rw[<-r.length];exact z,?_);have i:f c.heap.objs.size=none:=d.hok.fresh<|Q4 _;refine (.ref c.heap.objs.size,upd f c.heap.objs.size<|.lst l,d.laid (t':=c.toks) (λb u e=>Heap.get?_push_of_some _ e) (Q4 _) ?_,rfl,q _ i);exact (z,j,0,r,Heap.get?_push_size _ rfl)
end
abbrev Sp:=List V->Hp->VK->XK->Prop
abbrev CXT:=List Env->Hp->Shared->XK->Value->Shared->Prop
structure Env0 (P:Program) (w:World) (K:ZZfg) (mg:ZZmg) (base:Heap) (A:Around) (outer:List Env) (s:Shared) (H:Hp):Prop where
 frames:A.frames=some outer
 mod:Mod K mg base
 bs:∀b o,base.get? b=some o->s.heap.get? b=some o/\H b=none
 bsz:base.objs.size<=s.heap.objs.size
 funs:s.heap.FunFrames base outer
 frf:∀b∈frs outer,H b=none
 hok:HOk P w H s.heap
 bare:AllBare s.gens
def CE(a:List Env)(P:Program)(w:World)(H:Hp)(s:Shared)(Q:VK)(u:Value)(b:Shared):Prop :=
 ∃v c,b.os=s.os/\AllBare b.gens/\Un (frs a) [] H c s.heap b.heap/\HOk P w c b.heap/\RelV v u/\Q v c
def CR(CX:CXT)(a:List Env)(P:Program)(w:World)(H:Hp)(s:Shared)(Q:VK)(E:XK)(r:Result)(b:Shared):Prop :=
 match r with
 | .ok (.ret u)=>CE a P w H s Q u b
 | .ok _=>False
 | .error e=>CX a H s E e b
structure FnOk (P:Program) (w:World) (K:ZZfg) (mg:ZZmg) (base:Heap) (CX:CXT) (k:Nat) (f:Addr) (fd:FuncData) (ps:List Str) (sp:Sp):Prop where
 len:∀vs H Q E,sp vs H Q E->vs.length=ps.length
 run:∀(A:Around) (outer:List Env) (s:Shared) (H:Hp) (args:Args) (us:List Value) (vs:List V) (Q:VK) (E:XK),Room k A->Env0 P w K mg base A outer s H->BindsTo s fd args (ps.zip us)->Vals vs us->sp vs H Q E →
  codeAny (model P w) A (.call (.ref f) args) (CR CX outer P w H s Q E) s
def FnOk.mono{K:ZZfg}{j k:Nat}(F:FnOk P w K mg base CX j f c ps sp)(h:j<=k) :
    FnOk P w K mg base CX k f c ps sp:=(F.len,λA a s H b d g Q E e=>F.run A a s H b d g Q E<|e.mono h)
def FnOk.imp{K:ZZfg}{sp b:Sp}(F:FnOk P w K mg base CX k f d ps sp)
    (h:∀vs H Q E,b vs H Q E->sp vs H Q E):FnOk P w K mg base CX k f d ps b :=
  (λvs H Q E q=>F.len vs H Q E<|h _ _ _ _ q,λA a s H c g vs Q E i l e m j=>F.run A a s H c g vs Q E i l e m<|h _ _ _ _ j)
def Env0.make{K:ZZfg}{A:Around}(e:Env0 P w K mg base A a s H)(C:Addr)(us:List Value)(b:List (Str×Value)) :
    Env0 P w K mg base (A.under<|.builtin "type.__call__" (.ref C::us,b)) a s H:=(by first | exact e.frames | (simpa [Around.under,Code.envs,Code.isFrame,pushEnvs] using e.frames),e.mod,e.bs,e.bsz,e.funs,e.frf,e.hok,e.bare)
section
variable{X:Cx}{pins:List (Addr×Obj)}{σ:St}{H:Hp}{s s':Shared}
def Inv.env0(I:Inv X pins σ H s):Env0 X.prog X.w X.K X.mg X.base X.A X.stack s H :=
 (I.ok.frames,I.ok.mod,I.bs,Q0 I.ok.bsz I.sz,I.stack,I.stkFree,I.hok,I.bare)
def Inv.after(I:Inv X pins σ H s)(h:CE X.stack X.prog X.w H s Q u s'):EP X pins σ Q u s':=by
 obtain ⟨v,j,f,a,k,e,r,q⟩:=h;obtain ⟨i,g,d,t,c⟩:=s';obtain rfl:c=s.os:=f;exact (v,j,I.call (h':=i) (g':=g) (d':=d) (t':=t) (ch:=[]) k e a<|λb z=>absurd z (by simp),r,q)
end
def ZqH(sp:Sp)(dvs:List V)(E:XK)(t:TA):TE:=λa H Q=>t a H λb c=>sp (b++dvs) c Q E
def ZqI(C:Addr)(sp:Sp)(dvs:List V)(E:XK)(t:TA):TE:=λc H Q=>t c H λd b=>∀x a,b x=none->b a=none->a≠x →
 sp (.ref x::(d++dvs)) (upd (upd b a<|.own x) x<|.ins C a []) (λv e=>v = .non/\Q (.ref x) e) E
def Binds(K:ZZfg)(b:FuncData)(ps:List Str)(ds:List Value):Prop :=
 ∀(s:Shared) (a:List Value),K.In s.heap->(a++ds).length=ps.length->BindsTo s b (a,[]) (ps.zip<|a++ds)
def Binds.all{K:ZZfg}{ps:List Str}(h:∀us:List Value,us.length=ps.length->bindArgs b (us,[])=pure (ps.zip us)):Binds K b ps []:=λs us _ a=>by
 rw[Wp] at a ⊢;exact .of_eq<|h us a
def Zhs(CX:CXT)(X:Cx)(E:XK):Prop:=∀(a:List (Addr×Obj)) (c:St) (H:Hp) (s:Shared) (e:Value) (b:Shared),Inv X a c H s->CX X.stack H s E e b->X.xe e b
section
variable{X:Cx}{CX:CXT}{k:Nat}{f C:Addr}{fd:FuncData}{ps:List Str}{sp:Sp}{dvs:List V}{ds:List Value}{E:XK}{x m:Str}{p pos apos:Pos}{e o:Expr}{es:List Expr}{ta:TE}{t:TA}
def Zn9(F:FnOk X.prog X.w X.K X.mg X.base CX k f fd ps sp)(hr:Room k X.A)(n:Binds X.K fd ps ds)(l:Vals dvs ds)(g:Zhs CX X E)
    (I:Inv X a c H s) (r:Vals vs us) (h:sp (vs++dvs) H Q E):wpAny (model X.prog X.w) X.A (call (.ref f) us) (EP X a c Q) X.xe s:=by
  have d:Vals (vs++dvs) (us++ds):=r.append l;have i:(us++ds).length=ps.length:=by rw[<-d.length]; exact F.len _ _ _ _ h
  refine wpAny_call<|codeAny_mono (F.run X.A X.stack s H (us,[]) (us++ds) (vs++dvs) Q E hr I.env0 (n s us I.kIn i) d h) λr q b=>?_
  cases r with
  | error e=>exact g a c H s e q I b
  | ok j =>
    cases j with
    | ret u=>exact I.after b
    | next=>exact False.elim b
    | brk=>exact False.elim b
    | cont=>exact False.elim b
def Zo7(F:FnOk X.prog X.w X.K X.mg X.base CX k f fd ps sp)(hr:Room k X.A)(u:Gl X x)(n:X.mg x=some (.ref f))(w:PySem.W.keepIn X.K (.ref f)=true)(j:Binds X.K fd ps ds)(i:Vals dvs ds)(l:Zhs CX X E)
    (y:PA X (e::es) t) (b:(x==("__debug__" : Str))=false:=by decide) (v:starEach (e::es) X.env=(false,eval e X.env)::starEach es X.env:=by rfl) (c:(backTo pos<|starEach es X.env).any (·.1)=false:=by rfl) :
    PE X (.Call (.Name x p) (e::es) [] pos) (ZqH sp dvs E t):=by
  intro a s g H Q I h;refine wpAny_Call_Name_kw<|ZcV I u n ?_ b;refine PySem.W.callWith_K (h₀:=X.base) I.ok.mod.kin w (thn (y pos a s g H _ I h) λz D ⟨A,B,d,r,q⟩=>(d.kIn,?_)) v c;exact Zn9 F hr j i l d r q
structure Mk (K:ZZfg) (C f:Addr):Prop where
 makes:PySem.W.makesIn K C=true
 init:PySem.W.findIn K (.ref C) "__init__"=some (some (.ref f))
 fn:PySem.W.isFn K (.ref f)=true
 kp:PySem.W.keepIn K (.ref C)=true
def ZmS{Q:VK}(M:Mk X.K C f)(F:FnOk X.prog X.w X.K X.mg X.base CX k f fd ps sp)(hr:Room (k+1) X.A)(n:Binds X.K fd ps ds)(l:Vals dvs ds)
    (w:Zhs CX X E) (I:Inv X a g H s) (r:Vals vs us)
    (h:∀x c,H x=none->H c=none->c≠x->sp (.ref x::(vs++dvs)) (upd (upd H c<|.own x) x<|.ins C c []) (λv G=>v = .non/\Q (.ref x) G) E) :
    wpAny (model X.prog X.w) X.A (call (.ref C) us) (EP X a g Q) X.xe s:=by
  have i:=h (s.heap.objs.size+1) s.heap.objs.size (I.hok.fresh<|Nat.le_succ _) (I.hok.fresh<|Q4 _)<|Qc<|Uu _;have d:=Inv.made (C:=C) I;have j:Vals (V.ref (s.heap.objs.size+1)::(vs++dvs)) (Value.ref (s.heap.objs.size+1)::(us++ds)):=.cons rfl<|r.append l;have A:(Value.ref (s.heap.objs.size+1)::us++ds).length=ps.length:=by
    have e:=j.length;rw[F.len _ _ _ _ i] at e;exact e.symm
  refine wpAny_call<|ZmR (f:=f) I.kIn M.makes M.init (beq_iff_eq.mp M.fn)<|codeAny_mono (F.run _ X.stack _ _ (Value.ref (s.heap.objs.size+1)::us,[]) (Value.ref (s.heap.objs.size+1)::(us++ds)) _ _ E (hr.make C us [])
    (d.env0.make C us []) (n _ (Value.ref (s.heap.objs.size+1)::us) d.kIn A) j i) λr D b=>?_
  cases r with
  | error e=>exact w a g _ _ e D d b
  | ok B =>
    cases B with
    | ret u =>
      obtain ⟨v,J,q,z,K,y⟩:=d.after b;subst K;exact (z,(V.ref<|s.heap.objs.size+1,J,q,rfl,y))
    | next=>exact False.elim b
    | brk=>exact False.elim b
    | cont=>exact False.elim b
def Zo8(M:Mk X.K C f)(F:FnOk X.prog X.w X.K X.mg X.base CX k f fd ps sp)(hr:Room (k+1) X.A)(u:Gl X x)(n:X.mg x=some (.ref C))(j:Binds X.K fd ps ds)(i:Vals dvs ds)(l:Zhs CX X E)
    (w:PA X (e::es) t) (b:(x==("__debug__" : Str))=false:=by decide) (v:starEach (e::es) X.env=(false,eval e X.env)::starEach es X.env:=by rfl) (c:(backTo pos<|starEach es X.env).any (·.1)=false:=by rfl) :
    PE X (.Call (.Name x p) (e::es) [] pos) (ZqI C sp dvs E t):=by
  intro a s g H Q I h;refine wpAny_Call_Name_kw<|ZcV I u n ?_ b;refine PySem.W.callWith_K (h₀:=X.base) I.ok.mod.kin M.kp (thn (w pos a s g H _ I h) λy B ⟨z,A,d,r,q⟩=>(d.kIn,?_)) v c;exact ZmS M F hr j i l d r q
end
structure FnScope (N P:List Str) (sc:Scope):Prop where
 kind:sc.kind = .function
 co:sc.isCoroutine=false
 gen:sc.isGenerator=false
 nd:N.Nodup
 pre:N.take P.length=P
 par:∀x∈P,sc.names.lookup x=some .local\/sc.names.lookup x=some .cell
 nofree:∀y∈sc.names,y.2 ≠ .free
def Zht{x:Str}:∀ {a:List (Str×Value)} {m:Str->Option Value},(∀v,(x,v)∉a)->bindL b a m x=m x
 | [],_,_=>rfl
 |(n,v)::r,m,h=>by
  unfold bindL;rw[Zht λw c=>h w<|W7 _ c]
  split
  ·have:x≠n:=by rintro rfl;exact h v W6
   simp[this]
  ·rfl
def Zhu{x:Str}:∀ {a:List (Str×Value)} {m:Str->Option Value},(∀v,(x,v)∉a)->bindC b a m x=m x
 | [],_,_=>rfl
 |(n,v)::r,m,h=>by
  unfold bindC;rw[Zhu λw c=>h w<|W7 _ c]
  split
  ·rfl
  ·have:x≠n:=by rintro rfl;exact h v W6
   simp[this]
def Zhv{a:Str->Option NameKind}{x:Str}{v:Value}:∀ {P:List Str} {vs:List Value} {i:Nat} {m:Str->Option Value},P.Nodup->P[i]?=some x->vs[i]?=some v->a x=some .local →
    bindL a (P.zip vs) m x=some v
  | [],_,_,_,_,h,_,_=>by simp at h
  | _::_,[],_,_,_,_,h,_=>by simp at h
  | p::P,w::vs,0,m,nd,h1,h2,hk=>by
    simp at h1 h2; subst h1; subst h2
    show bindL a ((p,w)::P.zip vs) m p=_;unfold bindL;rw[Zht λv b=>(List.nodup_cons.mp nd).1 (List.of_mem_zip b).1,if_pos hk]
    simp
  | p::P,w::vs,i+1,m,nd,h1,h2,hk=>by
    show bindL a ((p,w)::P.zip vs) m x=_;unfold bindL;exact Zhv (i:=i) (List.nodup_cons.mp nd).2 (by simpa using h1) (by simpa using h2) hk
def Zhw{a:Str->Option NameKind}{x:Str}{v:Value}:∀ {P:List Str} {vs:List Value} {i:Nat} {m:Str->Option Value},P.Nodup->P[i]?=some x->vs[i]?=some v->a x≠some .local →
    bindC a (P.zip vs) m x=some v
  | [],_,_,_,_,h,_,_=>by simp at h
  | _::_,[],_,_,_,_,h,_=>by simp at h
  | p::P,w::vs,0,m,nd,h1,h2,hk=>by
    simp at h1 h2; subst h1; subst h2
    show bindC a ((p,w)::P.zip vs) m p=_;unfold bindC;rw[Zhu λv b=>(List.nodup_cons.mp nd).1 (List.of_mem_zip b).1,if_neg hk]
    simp
  | p::P,w::vs,i+1,m,nd,h1,h2,hk=>by
    show bindC a ((p,w)::P.zip vs) m x=_;unfold bindC;exact Zhw (i:=i) (List.nodup_cons.mp nd).2 (by simpa using h1) (by simpa using h2) hk
def start(N:List Str)(vs:List V):St:=vs.map some++List.replicate (N.length-vs.length) none
def Zo9(CX:CXT)(P:Program)(w:World)(K:ZZfg)(mg:ZZmg)(base:Heap)(N:List Str)(b:Str)(a:Scope)(f:Addr)(d:Value)(A:Around)(outer:List Env)(s:Shared)(H:Hp)(E:XK):Cx where
 prog:=P
 w:=w
 K:=K
 mg:=mg
 base:=base
 A:=A.deeper<|envOfC b a s.heap.objs.size f d
 N:=N
 s₀:=s
 H₀:=H
 env:=envOfC b a s.heap.objs.size f d
 outer:=outer
 stack:=envOfC b a s.heap.objs.size f d::outer
 ex:=[]
 calm:=true
 fn:=λ_=>true
 pn:=[]
 xe:=λe h=>wpAny (model P w) (A.deeper<|envOfC b a s.heap.objs.size f d) (leaving (envOfC b a s.heap.objs.size f d) e) (λ_ c=>CX outer H s E e c) (λg c=>CX outer H s E g c) h
def Zjd{a:Scope}(h:a.names.lookup x=some .cell):∃c,(cellsFrom n a.names []).lookup x=some c:=by
 have q:=PySem.W.cellsFrom_some a.names n []<|.inl h;exact Option.isSome_iff_exists.mp q
def ZkO{K:ZZfg}{N ps:List Str}{d:Scope}{A:Around}{s J:Shared}{vs:List V}
    (S:FnScope N ps d) (M:A.handled=none) (m:Env0 P w K mg base A g s H) (R:vs.length=ps.length) (r:Vals vs us)
    (x:InCallC s s.heap.objs.size (bindL (envOfC j d s.heap.objs.size f D).kindOf (ps.zip us) λ_=>none) (cellsFrom (s.heap.objs.size+1) d.names []) (bindC (envOfC j d s.heap.objs.size f D).kindOf (ps.zip us) λ_=>none) J) :
    Inv (Zo9 CX P w K mg base N j d f D A g s H E) [] (start N vs) H J:=by
  have O:ps.length<=N.length:=by have:=congrArg List.length S.pre; rw[Qr] at this; omega
  obtain ⟨F,T,rfl,I⟩:=x.done;have o:∀b:Addr,b∉(Zo9 CX P w K mg base N j d f D A g s H E).ex:=λb z=>absurd (show b∈([]:ZZla) from z) (by simp);refine ((m.mod,S.kind,rfl,rfl,Q4 _,λy z c F l=>?_,λy hy=>?_,λy c _ h=>?_,λ_=>M,Around.frames_deeper m.frames,.inr (rfl,rfl),λb z=>absurd z<|o b,m.bs,m.bsz,λb _ _=>o b,λb z=>absurd z<|o b,m.funs,m.frf),
    rfl,m.bare,Un.kept I,(_,x.toInCall.ns,λi y v F l U=>?_),λy c h=>(_,x.cell y c h),m.hok.fresh<|Q4 _,λy c h=>?_,λp t=>absurd (show p∈([]:List (Addr×Obj)) from t) (by simp),m.hok.kept I,?_)
  · exact name_of_addr x.apart (PySem.mem_of_lookup F) (PySem.mem_of_lookup l)
  · have hy:d.names.lookup y=some .cell\/d.names.lookup y=some .free:=hy
    rcases hy with hy | hy
    · exact Zjd hy
    · exact absurd rfl (S.nofree _<|PySem.mem_of_lookup hy)
  · exact Wl (x.above y c<|PySem.mem_of_lookup h)
  · have C:i<vs.length:=by
      unfold start at l
      by_cases C:i<vs.length
      · exact C
      · rw[Wz (by simpa using C)] at l
        rw[Wq] at l
        split at l <;> cases l
    have L:vs[i]?=some v:=by
      unfold start at l;rw[Wr (by simpa using C),Q3] at l
      cases e:vs[i]? with
      | none=>rw[e] at l; cases l
      | some a=>rw[e] at l; cases l; rfl
    obtain ⟨u,G,Q⟩:=r.get L;have t:ps[i]?=some y:=by
      rw[<-S.pre,List.getElem?_take_of_lt ⋯]; exact F
    have B:ps.Nodup:=by rw[<-S.pre]; exact S.nd.sublist<|List.take_sublist _ _
    refine (u,Q,?_);rcases S.par y (Qd t) with k | k
    · exact .inl (k,Zhv B t G k)
    · obtain ⟨c,e⟩:=Zjd (n:=s.heap.objs.size+1) k
      refine .inr (.inl k,c,e,?_);have q:=x.cell y c e;rw[Zhw B t G (by show d.names.lookup y≠_; rw[k]; decide)] at q;exact q
  · exact m.hok.fresh (Wl<|x.above y c<|PySem.mem_of_lookup h)
  · unfold start
    show _=N.length;rw[Qi,Q1,W8];omega
def fn_of{K:ZZfg}{dV kV C W g Z oc:Value}{Y od:Option Addr}
    {L:Array (Option Value)} {N ps:List Str} {sp:Sp} (lk:K.lookup f=some (oc,od,.func<|PySem.W.fnOf j d h body a dV kV C W Y g Z,L)) (M:PySem.W.codeIn K g d=true) (S:FnScope N ps a)
    (G:∀vs H Q E,sp vs H Q E->vs.length=ps.length)
    (m:∀(A:Around) (c:List Env) (s:Shared) (H:Hp) (vs:List V) (Q:VK) (E:XK),Room k (A.deeper<|envOfC d a s.heap.objs.size f g)->sp vs H Q E →
      ∃t,PSs (Zo9 CX P w K mg base N d a f g A c s H E) body t/\t { nx:=λ_ l=>Q .non l,rt:=Q } (start N vs) H) :
    FnOk P w K mg base CX (k+1) f (PySem.W.fnOf j d h body a dV kV C W Y g Z) ps sp:=by
  refine (G,λA c s H a0 us vs Q E T D hb r F=>?_);have hl:=G _ _ _ _ F;have KX:K.In s.heap:=D.mod.kin.keeps λb o e=>(D.bs b o e).1;have O:s.heap.NoLimit:=D.mod.nolimit.keeps λb o e=>(D.bs b o e).1;have p:∀y∈ps.zip us,a.names.lookup y.1=some .local\/(a.names.lookup y.1=some .cell/\((cellsFrom (s.heap.objs.size+1) a.names []).lookup y.1).isSome=true):=λ⟨n,v⟩ hy=>by
    rcases S.par n (List.of_mem_zip hy).1 with q | q
    · exact .inl q
    · exact .inr (q,PySem.W.cellsFrom_some _ _ _<|.inl q)
  refine codeAny_call_function T.depth (KX _ _ lk) rfl S.co S.gen rfl (PySem.W.codeRec_of KX M)<|hb _ _ _ _ ?_;refine wpAny_newFunctionEnv_cells S.kind p λa1 he X x=>?_;subst he;refine (O.keeps x.toInCall.keep,codeAny_func ?_);obtain ⟨t,ht,hq⟩:=m A c s H vs Q E (T.deeper _) F;have I:Inv (Zo9 CX P w K mg base N d a f g A c s H E) [] (start N vs) H X:=ZkO S T.hd D hl r x;refine wpAny_mono (ht [] X (start N vs) H _ I hq) (λfl U z=>?_) λe U z=>z;have B:∀ {i:St} {l:Hp} {v:V} {u:Value},Inv (Zo9 CX P w K mg base N d a f g A c s H E) [] i l U->RelV v u->Q v l->CE c P w H s Q u U :=
    fun {i l v u} J R q=>(v,l,J.os,J.bare,J.base,J.hok,R,q)
  cases fl with
  | ret u =>
    obtain ⟨v,i,l,J,R,q⟩:=z;exact B J R q
  | next =>
    obtain ⟨i,l,J,q⟩:=z;exact B (v:=V.non) (u:=Value.none) J rfl q
  | brk =>
    obtain ⟨_,_,_,q⟩:=z;exact False.elim q
  | cont =>
    obtain ⟨_,_,_,q⟩:=z;exact False.elim q
section
variable{X:Cx}{x:Str}{p pos:Pos}{e:Expr}{es:List Expr}{t:TA}{id T:String}{r:List V->Hp->VK->Prop}
def tCB(r:List V->Hp->VK->Prop)(t:TA):TE:=λa H Q=>t a H λb c=>r b c Q
def Zao(i:ZeP X (.builtin id) r)(l:Gl X x)(k:X.mg x=none)(n:bootBuiltins x=some (.builtin id))(v:PA X (e::es) t)(q:x ≠ "__name__" := by decide) (b:(x==("__debug__" : Str))=false:=by decide)
    (m:starEach (e::es) X.env=(false,eval e X.env)::starEach es X.env:=by rfl) (c:(backTo pos<|starEach es X.env).any (·.1)=false:=by rfl):PE X (.Call (.Name x p) (e::es) [] pos) (tCB r t):=by
  intro a s d H Q I h;refine wpAny_Call_Name_kw<|Zdy I l k n ?_ q b;exact PyProof.Rows.callWith_builtin1 (thn (v pos a s d H _ I h) λf y ⟨o,w,u,j,g⟩=>i a y d w o f Q u j g) m c
def Ze7(i:ZeP X (.type T) r)(l:Gl X x)(k:X.mg x=none)(n:bootBuiltins x=some (.type T))(v:PA X (e::es) t)(q:x ≠ "__name__" := by decide) (b:(x==("__debug__" : Str))=false:=by decide)
    (m:starEach (e::es) X.env=(false,eval e X.env)::starEach es X.env:=by rfl) (c:(backTo pos<|starEach es X.env).any (·.1)=false:=by rfl):PE X (.Call (.Name x p) (e::es) [] pos) (tCB r t):=by
  intro a s d H Q I h;refine wpAny_Call_Name_kw<|Zdy I l k n ?_ q b;exact PyProof.Rows.callWith_type1 (thn (v pos a s d H _ I h) λf y ⟨o,w,u,j,g⟩=>i a y d w o f Q u j g) m c
end
end L2
namespace HT
open PySem PyProof.Rows
section
variable{prog:Program}{w:World}{A:Around}{E:Value->Shared->Prop}{s:Shared}
def sIx(n d:Nat):Option Int->Nat
 |none=>d
 |some v=>if v<0 then (v+(n:Int)).toNat else min v.toNat n
def sIx_none(n d:Nat):sIx n d none=d:=rfl
def sIx_nat(n d k:Nat):sIx n d (some (k:Int))=min k n:=by
 show (if (k:Int)<0 then ((k:Int)+(n:Int)).toNat else min (k:Int).toNat n)=min k n;rw[if_neg ⋯,Ws]
end
end HT
namespace L2
open PySem PySem.Spec PyProof.Rows
abbrev TO:=St->Hp->(Option Int->Hp->Prop)->Prop
def PO(X:Cx)(e:Option Expr)(t:TO):Prop :=
 ∀(a:List (Addr×Obj)) (s:Shared) (b:St) (H:Hp) (Q:Option Int->Hp->Prop),Inv X a b H s->t b H Q →
  wpAny (model X.prog X.w) X.A (evalPart e X.env) (λu d=>∃o c,Inv X a b c d/\IsPart u o/\Q o c) X.xe s
def Zpa:TO:=λ_ H Q=>Q none H
def ZsB(t:TE):TO:=λa H Q=>t a H λx b=>∃i,x = .int i/\Q (some i) b
section
variable{X:Cx}{e:Expr}{te:TE}{lo hi:Option Expr}{tl th:TO}{pos p2:Pos}
def Zgj:PO X none Zpa:=by
 intro a s b H Q I h;rw[evalPart_none];exact wpAny_pure (none,H,I,.none,h)
def Zgk(h:PE X e te):PO X (some e) (ZsB te):=by
 intro a s b H Q I d;rw[evalPart_some];refine thn (h a s b H _ I d) λu k ⟨x,j,g,f,c⟩=>?_;obtain ⟨i,rfl,q⟩:=c;obtain ⟨t,rfl⟩:=f;exact (some i,j,g,.int i t,q)
def SlR(X:Cx)(r:V->Option Int->Option Int->Hp->VK->Prop):Prop :=
 ∀(a:List (Addr×Obj)) (s:Shared) (b:St) (H:Hp) (x:V) (v f c:Value) (lo hi:Option Int) (d:Addr) (Q:VK),Inv X a b H s->RelV x v->s.heap.IsSliceOf d f c .none->IsPart f lo->IsPart c hi->r x lo hi H Q →
  ∃T g,typeLookup (.type T) "__getitem__"=pure (some<|.builtin g)/\s.TypeIs v T/\wpAny (model X.prog X.w) X.A (getItem v<|.ref d) (EP X a b Q) X.xe s
def tSl(r:V->Option Int->Option Int->Hp->VK->Prop)(te:TE)(tl th:TO):TE:=λa H Q=>te a H λx d=>tl a d λl c=>th a c λu b=>r x l u b Q
def ZdX(hr:SlR X r)(E:PE X e te)(n:PO X lo tl)(o:PO X hi th):PE X (.Subscript e (.Slice lo hi none p2) pos) (tSl r te tl th):=by
 intro a s d H Q I h;refine Subscript_<|thn (E a s d H _ I h) λv K ⟨x,t,p,k,z⟩=>?_;refine wpAny_Slice<|thn (n a K d t _ p z) λf w ⟨l,G,J,j,m⟩=>thn (o a w d G _ J m) λvu c ⟨u,g,y,A,B⟩=>?_;rw[evalPart_none];refine wpAny_pure ?_;have F:Inv X a d g { c with heap:=c.heap.push { cls:=.type "slice", data:=.fields #[f,vu,.none] } }:=y.kept (t':=c.toks) λb L q=>Heap.get?_push_of_some _ q;obtain ⟨T,M,i,C,D⟩:=hr a { c with heap:=c.heap.push { cls:=.type "slice", data:=.fields #[f,vu,.none] } } d g x v f vu l u c.heap.objs.size Q F k (Heap.IsSliceOf.new ..) j A B;show wpAny (model X.prog X.w) X.A (subscriptTail e (.Slice lo hi none p2) v<|.ref c.heap.objs.size) (EP X a d Q) X.xe { c with heap:=c.heap.push { cls:=.type "slice", data:=.fields #[f,vu,.none] } };exact tail_any (ops:=[.ref c.heap.objs.size,v]) C i D (by with_unfolding_all rfl)
def Zh9(xs:List V)(lo hi:Option Int):List V:=(xs.drop<|HT.sIx xs.length 0 lo).take<|HT.sIx xs.length xs.length hi-HT.sIx xs.length 0 lo
def Zia(xs:List V)(lo hi:Option Int):(Zh9 xs lo hi).length<=xs.length:=by
 unfold Zh9;rw[Qr,Wj];omega
end
def ixN(n:Nat)(i:Int):Option Nat:=if 0<=i then (if i<n then some i.toNat else none) else if -(n:Int)<=i then some (i+n).toNat else none
def atI{α:Type}(xs:List α)(i:Int):Option α:=(ixN xs.length i).bind λj=>xs[j]?
def ZkP{j:Nat}(h:ixN n i=some j):seqIndex? i n=some j/\j<n /\ -(n:Int)<=i/\i<n:=by
 unfold ixN at h
 by_cases h0:0<=i
 ·rw[if_pos h0] at h
  by_cases h1:i<n
  ·rw[if_pos h1] at h;have e:i.toNat=j:=Option.some.inj h;exact (by rw[seqIndex_of h0 h1,e],⋯,⋯,h1)
  ·rw[if_neg h1] at h;cases h
 ·rw[if_neg h0] at h
  by_cases h1:-(n:Int)<=i
  ·rw[if_pos h1] at h;have e:(i+n).toNat=j:=Option.some.inj h;exact (by rw[seqIndex_neg ⋯ h1,e],⋯,h1,⋯)
  ·rw[if_neg h1] at h;cases h
def ZkQ{α:Type}{xs:List α}{v:α}(h:atI xs i=some v):∃j,seqIndex? i xs.length=some j/\xs[j]?=some v/\j<xs.length /\ -(xs.length:Int)<=i/\i<xs.length:=by
 unfold atI at h
 cases e:ixN xs.length i with
 |none=>rw[e] at h;cases h
 |some j =>
  rw[e] at h;obtain ⟨b,c,d,a⟩:=ZkP e;exact (j,b,h,c,d,a)
def ZdF{α:Type}{xs:List α}{j:Nat}{v:α}(h:xs[j]?=some v):atI xs (j:Int)=some v:=by
 have a:j<xs.length:=(Qp.mp h).1;have e:ixN xs.length (j:Int)=some j:=by
  unfold ixN;rw[if_pos ⋯,if_pos ⋯];simp
 unfold atI;rw[e];exact h
def Zib(b:Expr):Prop:=∀o i,subscripted b false o i=operate [o,i] (getItem o i)
def IxR(X:Cx)(r:R2):Prop :=
 ∀(c a:Expr) (b:List (Addr×Obj)) (s:Shared) (d:St) (H:Hp) (x y:V) (v u:Value) (Q:VK),Inv X b d H s->RelV x v->RelV y u->r x y H Q →
  subscripted a false v u=operate [v,u] (getItem v u)->wpAny (model X.prog X.w) X.A (subscriptTail c a v u) (EP X b d Q) X.xe s
def MtR(X:Cx)(e:String)(r:V->List V->Hp->VK->Prop):Prop :=
 ∀(a:List (Addr×Obj)) (s:Shared) (b:St) (H:Hp) (x:V) (d:List V) (v:Value) (c:List Value) (Q:VK),Inv X a b H s->RelV x v->Vals d c->r x d H Q →
  wpAny (model X.prog X.w) X.A (call (.builtin e) (v::c)) (EP X a b Q) X.xe s
section
variable{X:Cx}{a b:Expr}{ta tb:TE}{pos:Pos}
def ZaD(hr:IxR X r)(l:PE X a ta)(e:PE X b tb)(i:Zib b):PE X (.Subscript a b pos) (tOp r ta tb):=by
 intro c s d H Q I h;exact Subscript_<|Zsw l e I h λv u m x y j k g f q=>hr a b c m d j x y v u Q k g f q<|i _ _
inductive Zsc (K:ZZfg) (x y:V) (H:Hp) (Q:VK):Prop
 |mk (p:Addr) (xs:List V) (i:Int) (v:V) (_:x = .ref p) (_:y = .int i) (_:SqL K H p xs) (_:atI xs i=some v) (_:Q v H):Zsc K x y H Q
inductive Zsd (K:ZZfg) (x y:V) (H:Hp) (Q:VK):Prop
 |mk (p:Addr) (xs:List V) (i:Int) (v:V) (_:x = .ref p) (_:y = .int i) (_:SqT K H p xs) (_:atI xs i=some v) (_:Q v H):Zsd K x y H Q
def Zct:IxR X (Zsc X.K):=by
  intro l n c s o H x y v u Q I E D h A;obtain ⟨p,P,i,z,rfl,rfl,C,K,q⟩:=h
  cases E
  obtain ⟨t,rfl⟩:=D;obtain ⟨g,r,f,N⟩:=I.list C;obtain ⟨j,e,J,R,L,G⟩:=ZkQ K;obtain ⟨w,B,k⟩:=r.get J;have F:=r.length;have O:=Zja;have d:EP X c o Q w s:=(z,H,I,k,q)
  by_cases h0:0<=i
  · have m:i.toNat=j:=by
      rw[seqIndex_of h0 G] at e;exact Option.some.inj e
    exact item_listR f.isList h0 ⋯ (by rw[m]; simpa using B) d A
  · have m:(i+(g.toArray.size:Int)).toNat=j:=by
      rw[seqIndex_neg ⋯ L] at e;rw[Qh,<-F];exact Option.some.inj e
    exact subscriptTail_builtinR (x:=w) f.isList.typeIs slot_list_getitem.lookup
      (wpAny_getItem_list_neg (Q:=λr M=>r=w/\EP X c o Q r M) f.isList ⋯ (by rw[Qh] <;> omega) ⋯ (by rw[m]; simpa using B) (rfl,d)) A
def Zau:IxR X (Zsd X.K):=by
 intro f g c s k H x y v u Q I o n h A;obtain ⟨p,O,i,z,rfl,rfl,m,G,q⟩:=h
 cases o
 obtain ⟨t,rfl⟩:=n;obtain ⟨E,r,l,K⟩:=I.tuple m;obtain ⟨j,D,F,P,N,M⟩:=ZkQ G;obtain ⟨w,C,e⟩:=r.get F;have B:=r.length;have L:=Zja;have d:EP X c k Q w s:=(z,H,I,e,q);exact subscriptTail_builtinR (x:=w) l.typeIs slot_tuple_getitem.lookup
  (getItem_tuple (j:=j) (Q:=λr J=>r=w/\EP X c k Q r J) l ⋯ ⋯ (by rw[Qh,<-B];exact D) (by simpa using C) (rfl,d)) A
def ZjW(its:List Value)(n j:Nat)(u:Value):Obj.mapSeq (·.setIfInBounds j u) { cls:=.type "list", data:=.seq its.toArray n }={ cls:=.type "list", data:=.seq (its.set j u).toArray n }:=by
 simp[Obj.mapSeq]
def Inv.lst{s:Shared}{xs:List V}(I:Inv X c d H s)(h:H p=some (.lst xs)) :
    ∃(its:List Value) (n:Nat),Vals xs its/\s.heap.get? p=some { cls:=.type "list", data:=.seq its.toArray n }/\xs.length<=sizeLine:=by
  obtain ⟨z,its,n,r,e⟩:=I.hok p _ h;exact (its,n,r,e,z)
def Inv.lstUpd{s:Shared}{xs ys:List V}{its its':List Value}{n d:Nat}{f:Obj->Obj}(I:Inv X c g H s)(h:H p=some (.lst xs))
    (l:s.heap.get? p=some { cls:=.type "list", data:=.seq its.toArray n }) (i:f { cls:=.type "list", data:=.seq its.toArray n }={ cls:=.type "list", data:=.seq its'.toArray d }) (r:Vals ys its') (k:ys.length<=sizeLine) (t:Nat) :
    Inv X c g (upd H p<|.lst ys) { s with heap:=s.heap.update p f,toks:=t }:=by
  have e:(s.heap.update p f).get? p=some { cls:=.type "list", data:=.seq its'.toArray d }:=by
    rw[Heap.get?_update_self f l (by rw[i] <;> rfl),i]
  refine I.write (x:=p) (e:=p) (by rw[h]; trivial) (.inl rfl) (λb u j q=>(Heap.get?_update_other _ _<|Ne.symm j).trans q) (_,e) ?_;exact (k,its',d,r,e)
inductive ZqJ (o i v:V) (H:Hp) (Q:Hp->Prop):Prop
 |mk (p:Addr) (xs:List V) (k:Int) (j:Nat) (_:o = .ref p) (_:i = .int k) (_:H p=some (.lst xs)) (_:ixN xs.length k=some j) (_:Q (upd H p (.lst (xs.set j v)))):ZqJ o i v H Q
def ZmT:ZtC X ZqJ:=by
  intro c s z H o i v L G u Q I F D B h;obtain ⟨p,E,k,j,rfl,rfl,m,C,q⟩:=h
  cases F
  obtain ⟨t,rfl⟩:=D;obtain ⟨d,n,r,g,A⟩:=I.lst m;obtain ⟨e,K,y,x⟩:=ZkP C;have f:=r.length;have J:=Zja;have w:Inv X c z (upd H p<|.lst<|E.set j v) { s with heap:=s.heap.update p (Obj.mapSeq (·.setIfInBounds j u)) } :=
    I.lstUpd m g (ZjW d n j u) (r.set B j) (by rw[Wc]; exact A) s.toks
  by_cases h0:0<=k
  · have l:k.toNat=j:=by
      rw[seqIndex_of h0 x] at e;exact Option.some.inj e
    exact PySem.W.ki_setAt g h0 ⋯ (by rw[Qh,<-f]; exact x) (by rw[l]; exact (_,w,q))
  · have l:(k+(d.toArray.size:Int)).toNat=j:=by
      rw[seqIndex_neg ⋯ y] at e;rw[Qh,<-f];exact Option.some.inj e
    exact PySem.W.ki_setBack g ⋯ (by rw[Qh,<-f]; exact y) ⋯ (by rw[l]; exact (_,w,q))
def Zhx(lo c:Option Int)(n:Nat):(sliceBounds lo c none n).1=((HT.sIx n 0 lo:Nat):Int)/\(sliceBounds lo c none n).2.1=((HT.sIx n n c:Nat):Int)/\(sliceBounds lo c none n).2.2=1:=by
 refine (?_,?_,rfl)
 ·cases lo with
  |none=>simp[sliceBounds,HT.sIx]
  |some i =>
   simp only[sliceBounds,HT.sIx,Option.getD_none,show (1:Int)>0 by decide,if_true]
   by_cases h:i<0
   ·simp only[h,if_true] <;> omega
   ·simp only[h,if_false] <;> omega
 ·cases c with
  |none=>simp[sliceBounds,HT.sIx]
  |some i =>
   simp only[sliceBounds,HT.sIx,Option.getD_none,show (1:Int)>0 by decide,if_true]
   by_cases h:i<0
   ·simp only[h,if_true] <;> omega
   ·simp only[h,if_false] <;> omega
def Zgl(its:List Value)(lo c:Option Int):slicePick its.toArray lo c none=((its.drop<|HT.sIx its.length 0 lo).take<|HT.sIx its.length its.length c-HT.sIx its.length 0 lo).toArray:=by
 obtain ⟨f,e,d⟩:=Zhx lo c its.toArray.size;unfold slicePick;rw[f,e,d]
 simp only[sliceRange_one,pick_run,Qh] <;> rfl
inductive ZsC (K:ZZfg) (x:V) (lo hi:Option Int) (H:Hp) (Q:VK):Prop
 |mk (a:Addr) (xs:List V) (_:x = .ref a) (_:SqL K H a xs) (_:∀p,H p=none->Q (.ref p) (upd H p (.lst (Zh9 xs lo hi)))):ZsC K x lo hi H Q
def Ze8:SlR X (ZsC X.K):=by
 intro g s u H x v A w e f z Q I p t m j h;obtain ⟨a,c,rfl,n,q⟩:=h
 cases p
 obtain ⟨l,r,i,k⟩:=I.list n;have d:=r.length;refine ("list", _,slot_list_getitem.lookup,i.isList.typeIs,?_);refine wpAny_getItem_list_slice i.isList t m j .none (by simp) ?_ (by rw[Qh] <;> omega);rw[Zgl,<-d];refine (.ref s.heap.objs.size,_,I.laid (t':=s.toks) (o:=.lst<|Zh9 c e f) (λb y q=>Heap.get?_push_of_some _ q) (Q4 _) ?_,rfl,q _<|I.hok.fresh<|Q4 _);exact (Q0 (Zia c e f) k,_,0,(r.drop<|HT.sIx c.length 0 e).take<|HT.sIx c.length c.length f-HT.sIx c.length 0 e,Heap.get?_push_size _ rfl)
def Za2:ZeP X (.builtin "len") (λxs H Q=>∃p ys,xs=[.ref p]/\(SqL X.K H p ys\/SqT X.K H p ys)/\Q (.int ys.length) H):=by
 intro g s k H xs l Q I r h;obtain ⟨p,ys,rfl,hq,q⟩:=h;obtain ⟨u,rfl,j⟩:=Zhp r
 cases j
 have m:=Zja;rcases hq with hq|hq
 ·obtain ⟨e,f,d,i⟩:=I.list hq;have c:=f.length;exact Calls.call_len_list d.isList (by simp only[Qh] <;> omega) (.int ys.length,H,I.tok _,(s.toks+1,by rw[Qh,c]),q)
 ·obtain ⟨e,f,d,i⟩:=I.tuple hq;have c:=f.length;exact len_tuple d (by simp only[Qh] <;> omega) (.int ys.length,H,I.tok _,(s.toks+1,by rw[Qh,c]),q)
def Zhy:ZeP X (.type "list") (λxs H Q=>∃p ys,xs=[.ref p]/\(SqL X.K H p ys\/SqT X.K H p ys)/\∀l,H l=none->Q (.ref l) (upd H l<|.lst ys)):=by
  intro m s A H xs C Q I r h;obtain ⟨p,ys,rfl,hq,q⟩:=h;obtain ⟨u,rfl,B⟩:=Zhp r
  cases B
  have j:∀(c:List Value),Vals ys c->ys.length<=sizeLine->∀(d:Heap) (f:Nat),(∀b z,s.heap.get? b=some z->d.get? b=some z) →
      d.get? s.heap.objs.size=some { cls:=.type "list", dict:=none,data:=.seq c.toArray f,slots:=#[] }->EP X m A Q (.ref s.heap.objs.size) { s with heap:=d }:=λc g i d f k e =>
    (.ref s.heap.objs.size,_,I.laid (t':=s.toks) k (Q4 _) (show ObjOk X.prog X.w _ d _ (.lst ys) from (i,c,f,g,e)),rfl,q _<|I.hok.fresh<|Q4 _)
  rcases hq with hq | hq
  · obtain ⟨c,g,v,i⟩:=I.list hq
    have t:=g.length;obtain ⟨o,y,x,n,w⟩:=v.isList;exact call_list_seq p (.inl rfl) y x w (λd f k e=>j c g i d f k e) (by simp only[Qh] <;> omega)
  · obtain ⟨c,g,v,i⟩:=I.tuple hq
    have t:=g.length;obtain ⟨o,y,x,n,w⟩:=v;exact call_list_seq p (.inr rfl) y x w (λd f k e=>j c g i d f k e) (by simp only[Qh] <;> omega)
def tyV(K:ZZfg)(T:String)(x:V)(H:Hp):Prop:=match x with
  | .str _=>T = "str"
  | .int _=>T = "int"
  | .ref p=>(T = "list" /\ ∃d,SqL K H p d)\/(T = "tuple" /\ ∃o,K.lookup p=some o/\o.cls = .type "tuple" /\ o.dict=none) ∨
      (T = "dict" /\ ((∃c,H p=some (.dK c))\/∃c,H p=some (.dT c)))\/(T = "set" /\ ∃S n,H p=some (.set S n))
  | _=>False
def ZqK{s:Shared}(I:Inv X f m H s)(r:RelV x v)(g:tyV X.K T x H) :
    s.TypeIs v T/\∀a,v = .ref a->∃l,s.heap.get? a=some l/\l.dict=none:=by
  cases x with
  | str z =>
    obtain ⟨t,rfl⟩:=r
    cases (show T = "str" from g)
    exact (typeIs_str s z t,λ_ e=>nomatch e)
  | int i =>
    obtain ⟨t,rfl⟩:=r
    cases (show T = "int" from g)
    exact (typeIs_int s i t,λ_ e=>nomatch e)
  | ref p =>
    cases r
    rcases g with ⟨rfl,xs,hq⟩ | ⟨rfl,o,hk,hc,h⟩ | ⟨rfl,hk⟩ | ⟨rfl,S,n,hk⟩
    · obtain ⟨q,_,k,_⟩:=I.list hq
      refine (k.isList.typeIs,λa e=>?_)
      cases e
      obtain ⟨o,n,e,c,h,_⟩:=k;exact (o,e,h)
    · refine ((o,I.kIn p o hk,hc),λa e=>?_)
      cases e
      exact (o,I.kIn _ o hk,h)
    · have z:∃o,s.heap.get? p=some o/\o.ExactDict:=by
        rcases hk with ⟨kvs,hk⟩ | ⟨kvs,hk⟩
        · obtain ⟨_,_,_,_,o,_,_,e,d,_⟩:=I.hok p _ hk
          exact (o,e,d)
        · obtain ⟨_,_,_,_,o,_,_,e,d,_⟩:=I.hok p _ hk
          exact (o,e,d)
      obtain ⟨o,e,d⟩:=z;refine ((o,e,d.1),λa j=>?_)
      cases j
      exact (o,e,d.2.1)
    · obtain ⟨o,_,_,_,e,d,_⟩:=I.hok p _ hk
      refine ((o,e,d.1),λa j=>?_)
      cases j
      exact (o,e,d.2.1)
  | _=>exact False.elim g
def tBM(K:ZZfg)(T:String)(r:V->List V->Hp->VK->Prop)(e:TE)(t:TA):TE:=λc H Q=>e c H λx d=>tyV K T x d/\t c d λf g=>r x f g Q
variable{o e:Expr}{es:List Expr}{to:TE}{t:TA}{name:Str}{apos cpos:Pos}{T id:String}{r:V->List V->Hp->VK->Prop}
def Zic(F:PlainAttrs T)(i:Slot T name id)(l:typeOf (.builtin id)=pure (.type "method_descriptor")) (A:MtR X id r) (D:PE X o to) (q:PA X (e::es) t)
    (f:attributeBase o name X.env (eval o X.env)=eval o X.env:=by rfl)
    (j:((backTo cpos<|starEach (e::es) X.env).all (λx=>!x.1)&&(backToKw cpos<|keywordEach [] X.env).all (λx=>x.1.isSome)
      && decide ((e::es).length+([]:List Keyword).length+(if ([]:List Keyword).isEmpty then 0 else 1)<30))=true:=by rfl)
    (g:(apos.endLine==cpos.line)=true:=by rfl) (B:starEach (e::es) X.env=(false,eval e X.env)::starEach es X.env:=by rfl) (d:(backTo cpos<|starEach es X.env).any (·.1)=false:=by rfl) :
    PE X (.Call (.Attribute o name apos) (e::es) [] cpos) (tBM X.K T r to t):=by
  intro c s k H Q I h;refine wpAny_Call_method_late f j g rfl<|thn (D c s k H _ I h) λv N ⟨x,M,p,m,C,w⟩=>?_;obtain ⟨J,y⟩:=ZqK p m C;refine (T,id,F,i,l,J,y,?_);have n:=q cpos c N k M _ p w;rw[B] at n ⊢;refine Calls.callWith_builtin (by show (false||(backTo cpos<|starEach es X.env).any (·.1))=false; rw[d] <;> rfl)<|Calls.evalArgs_plain ?_;exact thn n λu O ⟨G,K,L,z,E⟩=>A c O k K x G v u Q L m z E
/- xs.append(e),list.index on a module's tuple .. are MtR facts of 06m -/
end
def MtM(X:Cx)(e:String)(r:V->List V->Hp->VK->Prop):Prop :=
 ∀(a:List (Addr×Obj)) (s:Shared) (b:St) (H:Hp) (x:V) (d:List V) (v:Value) (c:List Value) (Q:VK),Inv X a b H s->RelV x v->Vals d c->r x d H Q →
  wpAny (model X.prog X.w) X.A (call (.builtin e) (v::c)) (EP X a b Q) X.xe s
def Vals.one:∀ {x:V} {us:List Value},Vals [x] us->∃u,us=[u]/\RelV x u
 |_,_,.cons r .nil=>(_,rfl,r)
section
variable{X:Cx}{pins:List (Addr×Obj)}{σ:St}{H:Hp}{s:Shared}{l b:Addr}{xs ys zs:List V}
def Inv.lset{its its':List Value}{n:Nat}{f:Array Value->Array Value}{t':Nat}(I:Inv X pins σ H s)(a:H l=some (.lst xs))
    (e:s.heap.get? l=some { cls:=.type "list", data:=.seq its.toArray n }) (d:f its.toArray=its'.toArray) (c:Vals ys its') (i:ys.length<=sizeLine) :
    Inv X pins σ (upd H l<|.lst ys) { s with heap:=s.heap.update l<|Obj.mapSeq f,toks:=t' }:=by
  have q:=PySem.IsL.update e f;rw[d] at q;refine I.write (x:=l) (e:=l) (by rw[a]; exact trivial) (.inl rfl) (λj u g h=>(Heap.get?_update_other s.heap (Obj.mapSeq f)<|Ne.symm g).trans h) (_,q) ?_;exact (i,its',_,c,q)
def Inv.lnew{its:List Value}{t':Nat}(I:Inv X pins σ H s)(a:Vals ys its)(c:ys.length<=sizeLine) :
    Inv X pins σ (upd H s.heap.objs.size<|.lst ys) { s with heap:=s.heap.push { cls:=.type "list", data:=.seq its.toArray },toks:=t' } :=
  I.laid (λ_ _ q=>Heap.get?_push_of_some _ q) (Q4 _) (c,its,0,a,Heap.get?_push_size _ rfl)
def Inv.fresh(I:Inv X pins σ H s):H s.heap.objs.size=none:=I.hok.fresh<|Q4 _
def Inv.lstM(I:Inv X pins σ H s)(a:H l=some (.lst xs)):xs.length<=sizeLine/\∃(its:List Value) (n:Nat),Vals xs its/\xs.length=its.length/\s.heap.get? l=some { cls:=.type "list", data:=.seq its.toArray n }:=by
 obtain ⟨z,its,n,r,e⟩:=I.hok l _ a;exact (z,its,n,r,r.length,e)
def ZmU{n:Nat}(h:n<=sizeLine):Builtin.List.listTooLong n=false:=by
 unfold Builtin.List.listTooLong;exact decide_eq_false ⋯
end
section
variable{X:Cx}
inductive ZkR (x:V) (vs:List V) (H:Hp) (Q:VK):Prop
 |mk (l:Addr) (xs:List V) (y:V) (_:x = .ref l) (_:vs=[y]) (_:H l=some (.lst xs)) (_:xs.length<sizeLine) (_:Q .non (upd H l (.lst (xs++[y])))):ZkR x vs H Q
def Zcn:MtM X "list.append" ZkR:=by
 intro b s i H x o v j Q I f d h;obtain ⟨l,p,y,rfl,rfl,c,k,q⟩:=h
 cases f
 obtain ⟨u,rfl,g⟩:=d.one;obtain ⟨z,a,n,r,m,e⟩:=I.lstM c;refine call_meets F.slot_list_append (_,e,rfl) F.entry_list_append (F.args_list_append_2 _ _) (PySem.list_append l a.toArray n u (by rw[Qh];omega)) (e,?_);refine (.non,_,I.lset (its':=a++[u]) c e (by simp) (r.append<|.cons g .nil) ?_,rfl,q);rw[Qi,List.length_singleton];omega
inductive ZkS (x:V) (vs:List V) (H:Hp) (Q:VK):Prop
 |mk (l b:Addr) (xs zs:List V) (_:x = .ref l) (_:vs=[.ref b]) (_:H l=some (.lst xs)) (_:H b=some (.lst zs)) (_:xs.length+zs.length<=sizeLine) (_:Q .non (upd H l (.lst (xs++zs)))):ZkS x vs H Q
def ZkT:MtM X "list.extend" ZkS:=by
 intro i s A H x K v B Q I j w h;obtain ⟨l,b,J,G,rfl,rfl,g,y,C,q⟩:=h
 cases j
 obtain ⟨u,rfl,p⟩:=w.one
 cases p
 obtain ⟨z,c,n,r,D,e⟩:=I.lstM g;obtain ⟨E,a,m,k,t,o⟩:=I.lstM y;have f:c.toArray.size+a.toArray.size<=sizeLine:=by rw[Qh,Qh];omega
 have d:¬(!c.toArray.isEmpty&&Builtin.List.listTooLong (c.toArray.size+a.toArray.size))=true:=by
  rw[ZmU f,Bool.and_false];exact Qv
 refine call_meets F.slot_list_extend (_,e,rfl) F.entry_list_extend (F.args_list_extend_2 _ _)
  (AutoSeq1.list_extend_list_list_0 l c.toArray n b a.toArray m d (by rw[Qh];omega) ⋯) (e,o,?_)
 refine (.non,_,I.lset (its':=c++a) g e (by simp) (r.append k) ?_,rfl,q);rw[Qi];omega
inductive ZtE (x y:V) (H:Hp) (Q:VK):Prop
 |mk (l b:Addr) (xs zs:List V) (_:x = .ref l) (_:y = .ref b) (_:H l=some (.lst xs)) (_:H b=some (.lst zs)) (_:xs.length+zs.length<=sizeLine) (_:∀p,H p=none->Q (.ref p) (upd H p (.lst (xs++zs)))):ZtE x y H Q
def ZqL:OpR X (binaryOp .Add) ZtE:=by
 intro d s w H x y v u Q I j i h;obtain ⟨l,b,E,D,rfl,rfl,o,k,A,q⟩:=h
 cases j
 cases i
 obtain ⟨z,c,n,r,B,e⟩:=I.lstM o;obtain ⟨t,a,C,m,f,p⟩:=I.lstM k;refine PySem.P.add_list e p ?_ (by rw[Qh,Qh];omega);have g:c.toArray++a.toArray=(c++a).toArray:=by simp
 rw[g];exact (.ref _,_,I.lnew (t':=s.toks) (r.append m) (by rw[Qi];omega),rfl,q _ I.fresh)
end
end L2
namespace Att
open PySem PySem.W PySem.Calls PyProof.Rows
def Ze9:∀(c:List Int) (vs:List Value),WellAll P h vs (c.map WData.int)->IntsAre vs c:=by
 intro c
 induction c with
 |nil =>
  intro vs w;rw[List.map_nil] at w
  cases w
  exact .nil
 |cons n c d =>
  intro vs w;rw[Ui] at w
  cases w with
  |cons a b =>
   cases a
   exact .cons _ _<|d _ b
def script_of{l:OpenLaw}{n:Nat}(u:l.most=some n){P:Params}{h:Heap}{args:List WData}{e:List Value}
    (c:l.row.toRowW.claim.pre args=true) (k:WellAll P h e args) :
    ∃a vs b,e=[Value.ref a]/\args=[WData.list<|b.map WData.int]/\h.get? a=some { cls:=.type "list", data:=.seq vs.toArray }/\IntsAre vs b/\b.length<=n:=by
  have m:WShape.hasAll [] args [.list .int]=true:=(pre_splitW c).1;have o:l.pre.holds [] { args:=args }=true:=(pre_splitW c).2;obtain ⟨d,r,rfl,s,w⟩:=hasAllW_cons m;obtain rfl:=hasAllW_nil w;obtain ⟨z,rfl,y⟩:=hasW_list s;obtain ⟨b,rfl⟩:=items_int y;have f:b.length<=n:=by
    unfold OpenLaw.pre at o;have j:(WTm.not<|.lt (.lit<|.int (n:Int))<|.len<|.arg 0).holds [] { args:=[.list<|b.map .int] }=true:=by
      have j:=(holds_andW o).1;rw[u] at j;exact j
    have i:=condW_of j<|w_not<|w_lt w_lit<|w_len_list<|w_arg rfl;rw[Q1] at i;refine Wu λq=>?_;have t:(n:Int)<((b.length:Nat):Int):=⋯
    first
      | (rw[decide_eq_true t] at i; exact absurd i ∅)
      | (simp at i; omega)
  cases k with
  | cons p v =>
    cases v
    cases p with
    | list x g=>exact (_,_,b,rfl,rfl,x,Ze9 b _ g,f)
def post_true(l:OpenLaw)(args:List WData):l.row.toRowW.claim.post args (.bool true) args=true :=
 postW_of (r:=l.row.toRowW) (X:=(true==true))
  (show WShape.has [] (.bool true) .bool=true by first|rfl|decide|simp[WShape.has,WShape.arms,WShape.armsAll])
  (show (WTm.eq .res<|.lit<|.bool true).value [] { args:=args,res:=some<|.bool true,after:=args }=some (.bool<|true==true) from w_eq_bool (w_res rfl) w_lit) rfl
end Att
namespace L2
open PySem PySem.Spec PyProof.Rows
def Zhz:∀ {vs:List Value} {a:List Int},IntsAre vs a->Vals (a.map V.int) vs
 |_,_,.nil => .nil
 |_,_,.cons n t h => .cons (t,rfl)<|Zhz h
end L2
/- THE LAST THEOREM (shape; LID,My.* are yours):
   My.Adr: a structure of the addresses that your layer names (classes,functions); My.Txt K t: a structure (Prop) of the equations over K;
   My.txt_mk:{K} {implicit addresses ..} (e1:nsIn K mainGlobals "law" = some (some (.ref f))) (e2:K.lookup f=some ⟨oc,od,.func (fnOf "law" "law" params body scope dV kV doc pm an cdv ct),sl⟩) (e3:codeIn K cdv "law" = true) ..:∃t,My.Txt K t
set_option maxRecDepth 100000 in
set_option maxHeartbeats 0 in
theorem PySem.Challenge.cw_LID_holds : PySem.Challenge.rw_LID.Holds := by
 w_on;o_law;k_head;(case hw=>w_witness2)
 k_fill
 refine L2.walk_of (l:=PySem.Challenge.rw_LID) (n:=63) (k:=40) (x :="script") (CX:=λw => ..) (sp:=λ_=>My.sp_law) rfl ∅ rfl ⟨rfl,∅,∅⟩ (λw h Y=>PySem.W.kIn_of Y) ?F ?S ?C
 case F =>
  intro w mg fa h KX G hmg;have T:∃t,My.Txt (L2.KOf KX) t:=by
   dsimp only[L2.KOf]                          -- K must stand as «<heap const> w.params» for k_is
   refine' My.txt_mk ?e1 ?e2 ?e3 ..
   (case e1=>PySem.W.k_is)                    -- in the order: a name -> its address -> its object -> its parts
   (case e2=>PySem.W.k_is)
   ..
  obtain ⟨t,T⟩:=T;have e0:=hmg.symm.trans (PySem.W.mg_of KX G T.law)
  cases e0                                       -- fa is the law's own address
  exact ⟨_,λs u => .of_eq rfl,λbase kb nb=>My.law_fn T kb nb⟩     -- if «.of_eq rfl» comes too early: refine' ⟨_,?b,λbase kb nb=>My.law_fn T kb nb⟩;exact λs u => .of_eq rfl
 case S=>exact λw H a ns hl hO hS => ..
 case C=>exact ..
(the tactic k_is has no namespace: write k_is) -/
namespace L2
open PySem PySem.Spec PyProof.Rows
def ZaU(s:Stmt)(j:Nat):Stmt:=match s with
 | .ClassDef _ _ _ body _ _ _ _ _ _ _=>body.getD j<|.Pass (0,0,0,0)
 |_ => .Pass (0,0,0,0)
def Zbt(s:Stmt):Arguments:=match s with
 | .FunctionDef _ a _ _ _ _ _ _ _ _=>a
 |_=>{ posonlyargs:=[],args:=[],vararg:=none,kwonlyargs:=[],kw_defaults:=[],kwarg:=none,defaults:=[] }
def ZaW(s:Stmt):List Stmt:=match s with
 | .FunctionDef _ _ b _ _ _ _ _ _ _=>b
 |_=>[]
def Zab(s:Stmt):Scope:=match s with
 | .FunctionDef _ _ _ _ _ _ sc _ _ _=>sc
 |_=>{ kind:=.function,names:=[],isGenerator:=false,isCoroutine:=false }
abbrev CX0:CXT:=λ_ _ _ _ _ _=>False
abbrev E0:XK:=λ_ _ _=>False
def Zpb:Zhs CX0 X E0:=λ_ _ _ _ _ _ _ h=>h.elim
structure Fun (K:ZZfg) (x qual:Str) (st:Stmt) (f:Addr) (fd:FuncData):Prop where
 ex:∃(oc:Value) (od:Option Addr) (kV doc pm:Value) (an:Option Addr) (cdv ct:Value) (osl:Array (Option Value)),
  fd=PySem.W.fnOf x qual (Zbt st) (ZaW st) (Zab st) .none kV doc pm an cdv ct/\K.lookup f=some ⟨oc,od,.func fd,osl⟩/\PySem.W.codeIn K cdv qual=true
 kp:PySem.W.keepIn K (.ref f)=true
section
variable{P:Program}{w:World}{K:ZZfg}{mg:ZZmg}{base:Heap}
def Fun.ok{N ps:List Str}{sp:Sp}(F:Fun K x b e f l)(S:FnScope N ps (Zab e))(i:∀vs H Q E,sp vs H Q E->vs.length=ps.length)
    (d:∀(c:Value) (A:Around) (a:List Env) (s:Shared) (H:Hp) (vs:List V) (Q:VK) (E:XK),Room k (A.deeper<|envOfC b (Zab e) s.heap.objs.size f c)->sp vs H Q E →
      ∃t,PSs (Zo9 CX0 P w K mg base N b (Zab e) f c A a s H E).nox (ZaW e) t/\t { nx:=λ_ p=>Q .non p,rt:=Q } (start N vs) H):FnOk P w K mg base CX0 (k+1) f l ps sp:=by
  obtain ⟨z,y,kV,r,B,u,c,v,o,rfl,m,j⟩:=F.ex;refine fn_of m j S i λA a s H vs Q E n g=>?_;obtain ⟨t,h,q⟩:=d c A a s H vs Q E n g;exact (t,h.nox,q)
def Fun.binds{ps:List Str}(F:Fun K x a d f j)
    (h:∀(kV c g:Value) (e:Option Addr) (b i:Value) (us:List Value),us.length=ps.length->bindArgs (PySem.W.fnOf x a (Zbt d) (ZaW d) (Zab d) .none kV c g e b i) (us,[])=pure (ps.zip us)):Binds K j ps []:=by
  obtain ⟨m,o,kV,c,g,e,b,i,k,rfl,n,l⟩:=F.ex;exact .all<|h kV c g e b i
def ZkU{m:Value}{n h:Option Addr}{g:Array (Option Value)}{kV e i b j:Value}(l:K.lookup f=some (m,n,.func<|PySem.W.fnOf x a (Zbt d) (ZaW d) (Zab d) .none kV e i h b j,g))
    (c:PySem.W.codeIn K b a=true) (k:PySem.W.keepIn K (.ref f)=true):Fun K x a d f (PySem.W.fnOf x a (Zbt d) (ZaW d) (Zab d) .none kV e i h b j):=((m,n,kV,e,i,h,b,j,g,rfl,l,c),k)
end
def Zba{n:Nat}(h:n<=1000):n<sizeLine:=Q7 h ∅
section
variable{X:Cx}
def ZsD:Option NameKind->Bool
 |some .local=>true
 |some .cell=>true
 |some .free=>true
 |_=>false
def Zpc{a:Scope}(h:ZsD (a.names.lookup x)=true):Vis a x:=by
 unfold ZsD at h
 split at h
 ·exact .inl (by assumption)
 ·exact .inr (.inl (by assumption))
 ·exact .inr (.inr (by assumption))
 ·cases h
def pv(i:Nat){x:Str}{b:Pos}(c:X.N[i]?=some x:=by rfl)(d:ZsD (X.env.scope.names.lookup x)=true:=by rfl)(e:(x==("__debug__" : Str))=false:=by decide)
    (a:(x==("__classdict__" : Str))=false:=by decide):PE X (.Name x b) (Zsm i):=Zcm c (Zpc d) e a
end
def Zed{A B:Prop}(h:B):if false=true then A else B:=by
 rw[if_neg Qv];exact h
def Zkv{A B:Prop}(h:A):if true=true then A else B:=by
 rw[if_pos rfl];exact h
def Zt8{c A B:Prop}[Decidable c](b:c->A)(a:¬c->B):if c then A else B:=by
 by_cases h:c
 ·rw[if_pos h];exact b h
 ·rw[if_neg h];exact a h
def Same(H a:Hp):Prop:=∀b o,H b=some o->a b=some o
def Same.refl(H:Hp):Same H H:=λ_ _ h=>h
def Same.trans(a:Same H e)(b:Same e d):Same H d:=λc o h=>b c o<|a c o h
def Same.free(e:Same H a){l:Addr}(h:a l=Option.none):H l=Option.none:=by
 cases q:H l with
 |none=>rfl
 |some o =>
  rw[e l o q] at h
  cases h
end L2
set_option maxHeartbeats 4000000
namespace L2
open PySem PySem.Spec PyProof.Rows
def ZdG{k:Int}{n:Nat}(h:k.natAbs<2^n):Builtin.Int.intBits k<=n:=by
 unfold Builtin.Int.intBits
 split
 ·exact Qg _
 ·rename_i b
  have a:k.natAbs≠0:=by
   intro z
   apply b
   have:k=0:=⋯
   simp[this]
  have:k.natAbs.log2<n:=(Nat.log2_lt a).mpr h;omega
def Zid:10^150<2^600:=by decide +kernel
def Zbu{i j:Int}(h:i.natAbs<=10^150)(h':j.natAbs<=10^150):IntMulOk i j :=
 .of_bits (Q0 (ZdG (n:=600)<|Q7 h Zid) ∅) (Q0 (ZdG (n:=600)<|Q7 h' Zid) ∅)
def Zpd{j:Int}(h:j.natAbs<=10^150):j.natAbs.log2<9000:=by
 rcases Nat.eq_zero_or_pos j.natAbs with z|z
 ·rw[z];decide
 ·exact Nat.lt_trans ((Nat.log2_lt<|Us z).mpr<|Q7 h Zid) ∅
section
variable{X:Cx}
def ZaK:OpR X (binaryOp .Mult) (rI IntMulOk λi j => .int<|i*j):=opI λ_ _ _ _ _ _ _ a q=>mul_int q a
def Zgm:OpR X (binaryOp .FloorDiv) (rI (λ_ j=>j≠0/\j.natAbs<=10^150) λi j => .int<|i.fdiv j):=opI λ_ _ _ _ _ _ _ a q=>floordiv_int a.1 q<|.inl<|PyProof.noPylong_of_log2<|Zpd a.2
def Zcg{T:String}{a:Pos}(b:Gl X x)(f:X.mg x=none)(c:bootBuiltins x=some (.type T))(e:x ≠"__name__":= by decide) (d:(x==("__debug__":Str))=false:=by decide):PE X (.Name x a) (tC<|.ty T):=Zo0 b f c rfl e d
def Zbz:ZeP X (.builtin "isinstance") (λxs H Q=>∃x T t b,xs=[x,.ty T]/\Zjc X.K H x t/\PySem.W.kitOne X.K t (.type T)=some b/\Q (.bl b) H):=by
 intro a s g H xs i Q I r h;obtain ⟨x,T,t,b,rfl,e,f,q⟩:=h;obtain ⟨u,k,rfl,c,d⟩:=ZkH r
 cases d
 exact ZkN I c e f λj=>(.bl b,H,I.tok _,rfl,q)
end
def ZbT(K:ZZfg)(t:Value)(h:(t==t)=true:=by rfl):PySem.W.kitOne K t t=some true:=by
 unfold PySem.W.kitOne;rw[if_pos h]
def Zcu(K:ZZfg){t T:String}{b:Bool}(a:((Value.type t)==(Value.type T))=false)(c:PySem.W.kitMeta T=true)(h:(PySem.fastBuiltinMro t).map (·.contains (Value.type T))=some b):PySem.W.kitOne K (.type t) (.type T)=some b:=by
 unfold PySem.W.kitOne PySem.W.kitCls;rw[if_neg (by rw[a];exact Qv)];show (if PySem.W.kitMeta T=true then PySem.W.subIn K (Value.type t) (Value.type T) else none)=some b;rw[if_pos c];exact h
def ZeG(K:ZZfg):PySem.W.kitOne K (.type "int") (.type "bool")=some false:=Zcu K ‹4› ‹4› ‹4›
section
variable{A B:Prop}
def ZcR[Decidable p](b:p->A)(a:¬p->B):if decide p=true then A else B:=Zt8 (λc=>b<|of_decide_eq_true c) λc=>a<|of_decide_eq_false<|Bool.eq_false_iff.mpr c
def Zpe[Decidable p](a:¬p->A)(b:p->B):if (!decide p)=true then A else B:=by
 by_cases h:p
 ·rw[decide_eq_true h];exact Zed<|b h
 ·rw[decide_eq_false h];exact Zkv<|a h
def Zb1{a b:Int}(d:a=b->A)(c:a≠b->B):if decide (V.int a=V.int b)=true then A else B:=ZcR (λe=>d<|V.int.inj e) λe=>c λz=>e (by rw[z])
def Zf2{a b:Int}(d:a≠b->A)(c:a=b->B):if (!decide (V.int a=V.int b))=true then A else B:=Zpe (λe=>d λz=>e (by rw[z])) λe=>c<|V.int.inj e
end
def ZmV{a b:Int}(h:a=b):decide (V.int a=V.int b)=true:=decide_eq_true (by rw[h])
def Zie(a b:Int):decide (V.int a=V.int b)=decide (a=b):=by
 by_cases h:a=b
 ·rw[decide_eq_true h,ZmV h]
 ·rw[decide_eq_false h,decide_eq_false λz=>h<|V.int.inj z]
structure Here (K:ZZfg) (mg:ZZmg) (x:Str) (st:Stmt):Prop where
 ex:∃(f:Addr) (fd:FuncData),Fun K x x st f fd/\mg x=some (.ref f)
structure Has (P:Program) (w:World) (K:ZZfg) (mg:ZZmg) (base:Heap) (x:Str) (k:Nat) (ps:List Str) (sp:Sp):Prop where
 ex:∃(f:Addr) (fd:FuncData),FnOk P w K mg base CX0 k f fd ps sp/\mg x=some (.ref f)/\PySem.W.keepIn K (.ref f)=true/\Binds K fd ps []
section
variable{P:Program}{w:World}{K:ZZfg}{mg:ZZmg}{base:Heap}{x:Str}{st:Stmt}{k j:Nat}{ps:List Str}{sp:Sp}
def Has.mono(h:Has P w K mg base x j ps sp)(e:j<=k):Has P w K mg base x k ps sp :=
 let ⟨f,fd,a,b,c,d⟩:=h.ex
 (f,fd,a.mono e,b,c,d)
def Here.has(h:Here K mg x st)(b:∀f a,Fun K x x st f a->Binds K a ps [])(c:∀f a,Fun K x x st f a->FnOk P w K mg base CX0 k f a ps sp):Has P w K mg base x k ps sp :=
 let ⟨f,a,F,m⟩:=h.ex
 (f,a,c f a F,m,F.kp,b f a F)
def here_mk{h:Heap}{f:Addr}{g:Value}{o i:Option Addr}{d:Array (Option Value)}{kV e m b n:Value}(X:K.In h)(G:h.Ns mainGlobals mg)(a:PySem.W.nsIn K mainGlobals x=some (some<|.ref f))
    (l:K.lookup f=some (g,o,.func<|PySem.W.fnOf x x (Zbt st) (ZaW st) (Zab st) .none kV e m i b n,d))
    (c:PySem.W.codeIn K b x=true) (k:PySem.W.keepIn K (.ref f)=true):Here K mg x st:=(f,_,ZkU l c k,PySem.W.mg_of X G a)
end
def ZaG{X:Cx}{e:Expr}{b:List Expr}{t:TA}{p a:Pos}(h:Has X.prog X.w X.K X.mg X.base x k ps sp)(hr:Room k X.A)(i:Gl X x)(n:PA X (e::b) t)(c:(x==("__debug__" : Str))=false:=by decide)
    (j:starEach (e::b) X.env=(false,eval e X.env)::starEach b X.env:=by rfl) (d:(backTo a<|starEach b X.env).any (·.1)=false:=by rfl):PE X (.Call (.Name x p) (e::b) [] a) (ZqH sp [] E0 t):=by
  obtain ⟨f,o,F,l,m,g⟩:=h.ex;exact Zo7 F hr i l m g .nil Zpb n c j d
def Zar{H:Hp}(h:H p=none)(o:HO):Same H (upd H p o):=λb u q=>by rw[Zaj<|ZaF q h];exact q
def Same.tup{K:ZZfg}(e:Same H b)(h:SqT K H a xs):SqT K b a xs:=by
 rcases h with (h|⟨o,h⟩)|h
 ·exact .inl (.inl<|e _ _ h)
 ·exact .inl (.inr (o,e _ _ h))
 ·exact .inr h
def Zhi(b:List (Str×Addr)):List (Str×NameKind)->List (Str×Addr)->List (Str×Addr)
 | [],cs=>cs
 |(n,k)::r,cs=>Zhi b r (if k=NameKind.free then (match b.lookup n with|some a=>(n,a)::cs|none=>cs) else cs)
def ZdY{b:List (Str×Addr)}:∀(d:List (Str×NameKind)) (c:List (Str×Addr)),(∀p∈c,b.lookup p.1=some p.2)->∀p∈Zhi b d c,b.lookup p.1=some p.2
 | [],_,h=>h
 |(n,k)::r,c,h=>by
  refine ZdY r _ λp hp=>?_
  by_cases hk:k=NameKind.free
  ·rw[if_pos hk] at hp
   cases e:b.lookup n with
   |none=>rw[e] at hp;exact h p hp
   |some a =>
    rw[e] at hp;rcases Qe.mp hp with rfl|hp
    ·exact e
    ·exact h p hp
  ·rw[if_neg hk] at hp;exact h p hp
def Zje:∀(d:List (Str×NameKind)) (c:List (Str×Addr)),∀p∈c,p∈Zhi b d c
 | [],_,_,h=>h
 |(n,k)::r,c,p,h=>by
  refine Zje r _ p ?_
  by_cases hk:k=NameKind.free
  ·rw[if_pos hk]
   cases e:b.lookup n with
   |none=>exact h
   |some a=>exact W7 _ h
  ·rw[if_neg hk];exact h
def ZdZ{a:List (Str×Addr)}{x:Str}:∀(f:List (Str×NameKind)) (d:List (Str×Addr)),(x,NameKind.free)∈f->(∃c,a.lookup x=some c)->∃c,(x,c)∈Zhi a f d
 |(n,k)::r,d,h,b=>by
  rcases Qe.mp h with e|h
  ·cases e
   obtain ⟨c,b⟩:=b;refine (c,Zje r _ _ ?_);rw[if_pos rfl,b];exact W6
  ·exact ZdZ r _ h b
def Zbv{b:Type}{x:Str}{c:b}:∀ {l:List (Str×b)},(x,c)∈l->∃d,l.lookup x=some d
 |(n,a)::r,h=>by
  by_cases hx:x=n
  ·exact (a,by simp[W9,hx])
  ·rcases Qe.mp h with e|h
   ·cases e;exact absurd rfl hx
   ·obtain ⟨d,f⟩:=Zbv h;refine (d,?_);have g:(x==n)=false:=beq_eq_false_iff_ne.mpr hx
    simp only[W9,g]
    exact f
def Zf3{env:Env}{α:Type}(k:List (Str×Addr)->Sem α):∀(e:List (Str×NameKind)) (b:List (Str×Addr)),(∀y,(y,NameKind.free)∈e->∃c,env.cells.lookup y=some c) →
    (forIn e b (λ(x:Str×NameKind) (r:List (Str×Addr))=>if (x.2==NameKind.free)=true then (do let a ← cellOf env x.1; pure (ForInStep.yield ((x.1,a)::r))) else pure (ForInStep.yield r)):Sem _)=pure (Zhi env.cells e b)
  | [],b,_=>rfl
  | (n,kd)::r,b,h=>by
    have f:=λb=>Zf3 k r b λy j=>h y<|W7 _ j;rw[List.forIn_cons]
    by_cases hk:kd=NameKind.free
    · subst hk
      obtain ⟨c,g⟩:=h n W6;show ((cellOf env n >>= λa=>pure<|ForInStep.yield ((n,a)::b)) >>= _:Sem _)=_;have d:cellOf env n=pure c:=by unfold cellOf; rw[g]
      rw[d];show (forIn r ((n,c)::b) _:Sem _)=_;rw[f];show _=pure (Zhi env.cells r (if NameKind.free=NameKind.free then (match env.cells.lookup n with | some a=>(n,a)::b | none=>b) else b));rw[if_pos rfl,g]
    · have i:(kd==NameKind.free)=false:=by simpa using hk
      show ((if (kd==NameKind.free)=true then (do let a ← cellOf env n; pure (ForInStep.yield ((n,a)::b))) else pure (ForInStep.yield b)) >>= _:Sem _)=_;rw[i,if_neg Qv];show (forIn r b _:Sem _)=_;rw[f];show _=pure (Zhi env.cells r (if kd=NameKind.free then _ else b));rw[if_neg hk]
def Zee{b:Scope}{env:Env}(h:∀y,(y,NameKind.free)∈b.names->∃c,env.cells.lookup y=some c):closureFor b env=pure (Zhi env.cells b.names []):=by
 unfold closureFor;have:=Zf3 (env:=env) (α:=List<|Str×Addr) pure b.names [] h;show (forIn b.names [] (λ(x:Str×NameKind) (r:List (Str×Addr))=>if (x.2==NameKind.free)=true then (do let a ← cellOf env x.1;pure (ForInStep.yield ((x.1,a)::r))) else pure (ForInStep.yield r)) >>= λd=>pure d:Sem _)=_;rw[this]
 rfl
def Zgn{a:Scope}{env:Env}(h:(a.names.all λy=>!(y.2==NameKind.free)||(env.cells.lookup y.1).isSome)=true):∀y,(y,NameKind.free)∈a.names->∃c,env.cells.lookup y=some c:=λy b=>by
 have e:(env.cells.lookup y).isSome=true:=List.all_eq_true.mp h (y,NameKind.free) b;exact Option.isSome_iff_exists.mp e
def CapsOk(X:Cx)(a:Scope):List (Nat×Str)->Prop
 | []=>True
 |p::r=>(X.N[p.1]?=some p.2/\a.names.lookup p.2=some .free/\(X.env.kindOf p.2=some .cell\/X.env.kindOf p.2=some .free))/\CapsOk X a r
def CapsOk.mem{X:Cx}{a:Scope}:∀ {caps:List (Nat×Str)},CapsOk X a caps->∀p∈caps,X.N[p.1]?=some p.2/\a.names.lookup p.2=some .free/\(X.env.kindOf p.2=some .cell\/X.env.kindOf p.2=some .free)
 | [],_,_,h=>nomatch h
 |_::_,⟨h1,h2⟩,p,h=>by
  rcases Qe.mp h with rfl|h
  ·exact h1
  ·exact h2.mem p h
def ZaN(X:Cx)(a:Scope)(N:List Str)(s₀:Shared)(H₀:Hp)(C:Addr)(b:ZZla):Cx where
 prog:=X.prog
 w:=X.w
 K:=X.K
 mg:=X.mg
 base:=X.base
 A:=X.A
 N:=N
 s₀:=s₀
 H₀:=H₀
 env:=compEnvC a (Zhi X.env.cells a.names []) C X.env
 outer:=X.stack
 stack:=X.stack
 ex:=b
 fn:=λ_=>false
 calm:=X.calm
 pn:=[]
 xe:=λ_ _=>False
def st0(k:Nat)(caps:List (Nat×Str))(a:St):St:=List.replicate k none++caps.map λp=>(a[p.1]?).join
def ZeH{R:Result->Shared->Prop}{l a j:Expr}{d:Scope}{q:Pos}{it k:Value}(I:Nat->Shared->Prop)
    (p:∀n s,I n s->wpAny (model prog w) A (pyNext it) (λr b=>match r with
      | none=>R (.ok .next) b
      | some v=>wpAny (model prog w) A (letOwnedTupleGo a it v) (λ_ b=>wpAny (model prog w) A (assign a env v) (λ_ g=>wpAny (model prog w) A (eval l env) (λx i =>
          wpAny (model prog w) A (call (.builtin "list.append") [k,x]) (λ_ f=>∃m,m<n/\I m f) (λ_ _=>False) i)
          (λ_ _=>False) g) (λ_ _=>False) b) (λ_ _=>False) b) (λ_ _=>False) s)
    (n:Nat) (h:I n s) :
    codeAny (model prog w) A (.compLoop (.ListComp l [(a,j,[],0)] d q) 0 it k env) R s:=by
  refine codeAny_loop rfl I (λn s y=>?_) n h;show wpAny _ _ ((compTurn (.ListComp l [(a,j,[],0)] d q) 0 it k env).onRaise (λx=>do noteFrame x env; theTreesLotGoes x)) _ _ s;refine wpAny_noted ?_;rw[compTurn_list1];refine wpAny_bind<|wpAny_standAt<|wpAny_bind<|wpAny_mono (p n s y) (λr b c=>?_) λ_ _ e=>False.elim e
  cases r with
  | none=>exact wpAny_pure c
  | some v =>
    refine wpAny_bind<|wpAny_mono c (λ_ b c=>?_) λ_ _ e=>False.elim e;exact wpAny_bind<|wpAny_mono c (λ_ g o=>wpAny_bind<|wpAny_bind<|wpAny_mono o (λx i t=>wpAny_bind<|wpAny_mono t
      (λ_ f u=>wpAny_pure<|wpAny_pure (rfl,u)) λ_ _ e=>False.elim e) λ_ _ e=>False.elim e) λ_ _ e=>False.elim e
def Zfa(k:Nat)(caps:List (Nat×Str))(g:TG)(te:TE)(e:St)(J:It)(H:Hp)(Q:List V->Hp->Prop):Prop :=
 ∃W:Nat->Nat->List V->Hp->Prop,(∃m,W 0 m [] H)/\∀i m a b,W i m a b->a.length<=sizeLine/\((J.stop i b/\Q a b) ∨
  (J.go i b/\a.length<sizeLine/\∃N:V->Hp->Prop,(∀v f,N v f->∃d,d<m/\W (i+1) d (a++[v]) f) ∧
   ∀x h,J.yld i b x h->g x (st0 k caps e) h λc j=>(∀(i:Nat) v,(st0 k caps e)[i]?=some (some v)->c[i]?=some (some v))/\te c j N))
def ZjX(k:Nat)(caps:List (Nat×Str))(c:TI)(g:TG)(te:TE):TE:=λa H Q=>c a H λJ e=>Zfa k caps g te a J e λd b=>∀D,b D=none->Q (.ref D) (upd b D<|.lst d)
section
variable{X:Cx}{tg iter elt:Expr}{scope:Scope}{pos:Pos}{wi:TI}{g:TG}{te:TE}{own:List Str}{caps:List (Nat×Str)}
def ZeI{scope:Scope}(a:scope.names.lookup x=some .free):(relabel scope env).names.lookup x=some .cell\/(relabel scope env).names.lookup x=some .free:=by
 unfold relabel;show (scope.names.map _).lookup x=_\/(scope.names.map _).lookup x=_;generalize scope.names=d at a
 induction d with
 |nil=>simp at a
 |cons p r c =>
  obtain ⟨n,k⟩:=p;rw[Ui]
  by_cases hn:x=n
  ·subst hn
   simp only[W9,beq_self_eq_true] at a
   cases a
   by_cases hc:((NameKind.free==NameKind.free)&&env.scope.kind == .function&&env.kindOf x==some .cell)=true
   ·left
    show List.lookup x ((if _=true then (x,NameKind.cell) else (x,NameKind.free))::_)=_;rw[if_pos hc]
    simp[W9]
   ·right
    show List.lookup x ((if _=true then (x,NameKind.cell) else (x,NameKind.free))::_)=_;rw[if_neg hc]
    simp[W9]
  ·have b:(x==n)=false:=beq_eq_false_iff_ne.mpr hn
   simp only[W9,b] at a
   have:=c a;show List.lookup x ((if _=true then (n,NameKind.cell) else (n,k))::_)=_\/List.lookup x ((if _=true then (n,NameKind.cell) else (n,k))::_)=_
   split <;> (simp only[W9,b];exact this)
def ZeJ{scope:Scope}{x:Str}(f:∀y∈scope.names,y.2 ≠ .cell)(a:(relabel scope env).names.lookup x=some .cell\/(relabel scope env).names.lookup x=some .free):(x,NameKind.free)∈scope.names:=by
 unfold relabel at a;have a:(scope.names.map λ(n,k)=>if (k==NameKind.free&&env.scope.kind == .function&&env.kindOf n==some .cell) then (n,NameKind.cell) else (n,k)).lookup x=some .cell\/(scope.names.map λ(n,k)=>if (k==NameKind.free&&env.scope.kind == .function&&env.kindOf n==some .cell) then (n,NameKind.cell) else (n,k)).lookup x=some .free:=a;generalize scope.names=l at a f
 induction l with
 |nil=>simp at a
 |cons p r i =>
  obtain ⟨n,k⟩:=p;rw[Ui] at a;have h:=λz=>i z<|λy j=>f y<|W7 _ j
  by_cases hn:x=n
  ·subst hn
   by_cases hk:k=NameKind.free
   ·subst hk;exact W6
   ·have d:(k==NameKind.free)=false:=by simpa using hk
    have c:List.lookup x ((x,k)::List.map (λ(p:Str×NameKind)=>match p with|(n,k)=>if (k==NameKind.free&&env.scope.kind == .function&&env.kindOf n==some .cell)=true then (n,NameKind.cell) else (n,k)) r)=some .cell\/List.lookup x ((x,k)::List.map (λ(p:Str×NameKind)=>match p with|(n,k)=>if (k==NameKind.free&&env.scope.kind == .function&&env.kindOf n==some .cell)=true then (n,NameKind.cell) else (n,k)) r)=some .free:=by
     simpa [d] using a
    simp only[W9,beq_self_eq_true,Option.some.injEq] at c
    rcases c with e|e
    ·exact absurd e (f (x,k) W6)
    ·exact absurd e hk
  ·have d:(x==n)=false:=beq_eq_false_iff_ne.mpr hn;refine W7 _<|h ?_;have b:List.lookup x ((if (k==NameKind.free&&env.scope.kind == .function&&env.kindOf n==some .cell)=true then (n,NameKind.cell) else (n,k))::List.map (λ(p:Str×NameKind)=>match p with|(n,k)=>if (k==NameKind.free&&env.scope.kind == .function&&env.kindOf n==some .cell)=true then (n,NameKind.cell) else (n,k)) r)=some .cell\/List.lookup x ((if (k==NameKind.free&&env.scope.kind == .function&&env.kindOf n==some .cell)=true then (n,NameKind.cell) else (n,k))::List.map (λ(p:Str×NameKind)=>match p with|(n,k)=>if (k==NameKind.free&&env.scope.kind == .function&&env.kindOf n==some .cell)=true then (n,NameKind.cell) else (n,k)) r)=some .free:=a
   split at b <;> (simp only[W9,d] at b;exact b)
def ZkV{s:Shared}{m:ZZla}{C:Addr}(I:Inv X d r H s)(j:scope.kind = .function)(a:∀y∈scope.names,y.2 ≠ .cell)
    (i:∀y,(y,NameKind.free)∈scope.names->∃c,X.env.cells.lookup y=some c) (n:s.heap.objs.size<=C) (k:∀b∈m,Zi7 X d H b) (l:∀b∈m,b<s.heap.objs.size):(ZaN X scope N s H C m).Ok:=by
  have sub:∀x c,(Zhi X.env.cells scope.names []).lookup x=some c->X.env.cells.lookup x=some c:=λx c e=>ZdY scope.names [] (λp t=>(nomatch t)) (x,c)<|PySem.mem_of_lookup e;refine (I.ok.mod,j,I.ok.glob,I.ok.blt,n,λx y c w v=>I.ok.inj x y c (sub x c w)<|sub y c v,λx q=>?_,λx c h=>(Qv h).elim,I.ok.hd,I.ok.frames,.inl rfl,λb f=>(?_,λx c e=>(k b f).2.2.2.2.1 x c<|sub x c e),I.bs,Q0 I.ok.bsz I.sz,λb o e f=>?_,λb f z=>?_,I.stack,I.stkFree)
  · obtain ⟨c,u⟩:=ZdZ scope.names [] (ZeJ a q)<|i x<|ZeJ a q
    exact Zbv u
  · exact Qc (Qa (l b f) n)
  · rcases (k b f).2.2.2.1 with z | z
    · exact I.ok.noex b o e z
    · exact absurd (Qa (Heap.lt_size e)<|Q0 I.ok.bsz z) (W0 _)
  · rcases Qe.mp (I.stkSub b z) with e | e
    · exact (k b f).2.1 e
    · exact (k b f).2.2.1 e
def ZkW(k:Nat)(caps:List (Nat×Str))(a:St):(st0 k caps a).length=k+caps.length:=by
 unfold st0;rw[Qi,W8,Q1]
def ZkX{caps:List (Nat×Str)}{i:Nat}{v:V}(h:(st0 k caps b)[i]?=some (some v)):k<=i/\∃p,caps[i-k]?=some p/\b[p.1]?=some (some v):=by
 unfold st0 at h
 by_cases hi:i<k
 ·rw[Wr (by rw[W8];exact hi),Wq,if_pos hi] at h
  cases h
 ·have c:k<=i:=Uv.mp hi;refine (c,?_);rw[Wz (by rw[W8];exact c),W8,Q3] at h
  cases e:caps[i-k]? with
  |none=>rw[e] at h;cases h
  |some p =>
   rw[e] at h;refine (p,rfl,?_);have a:(b[p.1]?).join=some v:=Option.some.inj h
   cases q:b[p.1]? with
   |none=>rw[q] at a;cases a
   |some o=>rw[q] at a;cases o with
    |none=>cases a
    |some w=>cases a;rfl
def ZhA{s:Shared}{E:Value->Shared->Prop}{RR:Value->Addr->Result->Shared->Prop}{QL:List V->Hp->Prop}
    (I:Inv X P σ H s) (hc:X.calm=true) (T:Turn X.prog X.w X.K tg J L it tn) (st:tn 0 s.heap) (hf:∀b∈L,Zi7 X P H b)
    (O:scope.kind = .function) (R:∀y∈scope.names,y.2 ≠ .cell) (a9:∀y,(y,NameKind.free)∈scope.names->∃c,X.env.cells.lookup y=some c) (b5:CapsOk X scope caps)
    (hg:∀M S C,PG (ZaN X scope (own++caps.map (·.2)) M S C L) tg g) (he:∀M S C,PE (ZaN X scope (own++caps.map (·.2)) M S C L) elt te)
    (hB:Zfa own.length caps g te σ J H QL)
    (c7:∀D C Z m ys B,s.heap.objs.size<=C->D≠C->Z.heap.Ns C m->Inv X P σ (upd B D<|.lst ys) Z->B D=none->B C=none->QL ys B->RR (.ref D) C (.ok .next) Z) :
    wpAny (model X.prog X.w) X.A (newList []) (λb1 F=>wpAny (model X.prog X.w) X.A (newFunctionEnv scope X.env.globals (Zhi X.env.cells scope.names []) [] X.env.qual none .none<|some X.env) (λa6 b4 =>
      codeAny (model X.prog X.w) X.A (.compStart (.ListComp elt [(tg,iter,[],0)] scope pos) 0 (.ref it) b1 { a6 with scope:=relabel scope X.env }) (RR b1 a6.locals) b4) E F) E s:=by
  refine wpAny_newObj_type (wpAny_newFunctionEnv R (by intro y hy; simp at hy) (λA t h=>?_) O)
  dsimp only at t h ⊢
  generalize hH2:s.heap.push { cls:=.type "list", dict:=none,data:=.seq ([]:List Value).toArray }=H2 at t h ⊢;have hC:H2.objs.size=s.heap.objs.size+1:=by rw[<-hH2,Heap.size_push]
  generalize hCC:H2.objs.size=C at *;have U:s.heap.objs.size<=C:=by rw[hC]; exact Nat.le_succ _
  generalize hDD:s.heap.objs.size=D at *;have a1:D≠C:=by rw[hC]; exact Qc<|Uu _
  have j:∀b,b<D->b≠C/\b≠D:=λb a=>(by rw[hC]; exact Qc<|Nat.lt_succ_of_lt a,Qc a);have K:∀ {b o},s.heap.get? b=some o->b<D:=fun {b o} e=>by rw[<-hDD]; exact Heap.lt_size e
  have G:∀b o,s.heap.get? b=some o->A.get? b=some o:=λb o e=>h.extBut b o (j b<|K e).1<|Heap.get?_push_of_some _<|hH2 ▸ Heap.get?_push_of_some _ e;have c1:A.get? D=some { cls:=.type "list", data:=.seq ([]:List Value).toArray 0 }:=h.extBut _ _ a1<|Heap.get?_push_of_some _<|hH2 ▸ (hDD ▸ Heap.get?_push_size _ rfl);have a3:∀b∈L,b<D:=λb a=>let ⟨o,e,_⟩:=T.obj 0 _ st b a; K e;have c6:∀b,D<=b->s.heap.get? b=none:=λb a=>by
    cases e:s.heap.get? b with
    | none=>rfl
    | some o=>exact absurd (K e)<|Uv.mpr a
  have nH:∀b,D<=b->H b=none:=λb a=>I.hok.fresh (by rw[hDD]; exact a)
  let Y:Cx:=ZaN X scope (own++caps.map (·.2)) s H C L
  have a0:Y.Ok:=ZkV I O R a9 (by rw[hDD]; exact U) hf (by rw[hDD]; exact a3);have sub:∀x c,(Zhi X.env.cells scope.names []).lookup x=some c->X.env.cells.lookup x=some c:=λx c e=>ZdY scope.names [] (λp w=>(nomatch w)) (x,c)<|PySem.mem_of_lookup e;have a2:∀x c,X.env.cells.lookup x=some c->c<D:=λx c e=>by
    obtain ⟨v,o,ho,_⟩:=I.cell x c e;exact K ho
  have a7:∀b∈frs X.stack,b<D:=λb a=>by
    rcases Qe.mp (I.stkSub b a) with e | e
    · rw[e,<-hDD]; exact I.lt
    · obtain ⟨_,o,ho,_⟩:=I.funs.mem e
      exact K ho
  have I0:Inv Y [] (st0 own.length caps σ) H { s with heap:=A,toks:=s.toks+([]:List (Str×Value)).length }:=by
    refine (a0,rfl,I.bare,Un.kept G,(_,t,λi x v h1 h2 h3=>?_),λx c e=>?_,nH C U,λx c e=>I.freeC x c<|sub x c e,λp w=>?_,I.hok.kept G,?_)
    · obtain ⟨hk,p,w,hv⟩:=ZkX h2
      have b9:caps[i-own.length]?.map (·.2)=some x:=by
        have:(own++caps.map (·.2))[i]?=some x:=h1;rw[Wz hk,Q3] at this;exact this
      rw[w] at b9
      cases b9
      obtain ⟨q1,q2,q3⟩:=b5.mem p<|Qd w;obtain ⟨m,hn,hl⟩:=I.loc;obtain ⟨u,r,l⟩:=hl p.1 p.2 v q1 hv (by rcases q3 with z | z; exact .inr<|.inl z; exact .inr<|.inr z);refine (u,r,.inr (ZeI q2,?_));rcases l with ⟨z,_⟩ | ⟨_,c,hc',z⟩
      · rcases q3 with y | y <;> (rw[y] at z; cases z)
      · have hm:(p.2,NameKind.free)∈scope.names:=PySem.mem_of_lookup q2
        obtain ⟨d,hd⟩:=ZdZ scope.names [] hm (c,hc');obtain ⟨d',b2⟩:=Zbv hd;have e:=sub _ _ b2;rw[hc'] at e
        cases e
        obtain ⟨oc,ho,d3⟩:=z;exact (c,b2,oc,G _ _ ho,d3)
    · obtain ⟨v,o,ho,hd⟩:=I.cell x c<|sub x c e
      exact (v,o,G _ _ ho,hd)
    · exact absurd (show p∈([]:List (Addr×Obj)) from w) (by simp)
    · rw[ZkW]
      show _=(own++caps.map (·.2)).length;rw[Qi,Q1]
  have a4:∀ {f:List Value} {n:Nat} {b0:St} {B:Hp} {Z:Shared},Inv Y [] b0 B Z->B D=none->Z.heap.get? D=some { cls:=.type "list", data:=.seq f.toArray n }->Inv Y [(D,{ cls:=.type "list", data:=.seq f.toArray n })] b0 B Z:=fun {f n b0 B Z} J hn e =>
    J.pins_of λp w=>by
      have ep:p=(D,{ cls:=.type "list", data:=.seq f.toArray n }):=Qf.mp w;subst ep;refine (e,hn,a1,λz=>?_,λv z=>by cases z);exact absurd (a7 D z)<|W0 _
  obtain ⟨W,⟨m0,w0⟩,N⟩:=hB;have b7:∀ {B:Hp} {pins':List (Addr×Obj)},(∀b∈L,B b=none)->(∀p∈pins',∀b∈L,p.1≠b)->∀b∈L,Zi7 Y pins' B b:=fun {B pins'} hn w b a =>
    (hn b a,(a0.exf b a).1,a0.exfs b a,.inl a,(a0.exf b a).2,λp q=>w p (by simpa [Y,ZaN] using q) b a)
  have a5:∀F:Shared,F={ s with heap:=A,toks:=s.toks+([]:List (Str×Value)).length } →
      codeAny (model X.prog X.w) X.A (.compLoop (.ListComp elt [(tg,iter,[],0)] scope pos) 0 (.ref it) (.ref D)<|compEnvC scope (Zhi X.env.cells scope.names []) C X.env) (RR (.ref D) C) F:=by
    rintro F rfl;refine ZeH (λk Z=>∃(i:Nat) (ys:List V) (f:List Value) (n:Nat) (B:Hp),Inv Y [(D,{ cls:=.type "list", data:=.seq f.toArray n })] (st0 own.length caps σ) B Z/\tn i Z.heap/\(∀b∈L,B b=none)/\Vals ys f/\W i k ys B) ?_ m0
      (0,[],[],0,H,a4 I0 (nH D<|Q4 _) c1,T.keep _ _ _ st λb _ o e=>G b o e,λb a=>(hf b a).1,.nil,w0)
    rintro k s3 ⟨i,ys,f,n,H3,I3,b3,d0,rv,w3⟩;obtain ⟨pD,nD,_⟩:=I3.pin (D,{ cls:=.type "list", data:=.seq f.toArray n })<|Qw _ W6;have ff:=b7 (pins':=[(D,{ cls:=.type "list", data:=.seq f.toArray n })]) d0 (λp w b a=>by
      rw[Qf.mp w]; exact (Ne.symm (j b<|a3 b a).2))
    obtain ⟨c5,N⟩:=N i k ys H3 w3;rcases N with ⟨stop,q⟩ | ⟨go,hsz',NN,hNN,step⟩
    · refine thn (T.done Y rfl rfl rfl hc i _ s3 _ H3 _ I3 ff b3 stop) λr s4 ⟨hr,I4⟩=>?_
      subst hr;obtain ⟨m4,c8,_⟩:=I4.loc;obtain ⟨c9,b6,_⟩:=I4.pin (D,{ cls:=.type "list", data:=.seq f.toArray n })<|Qw _ W6;refine c7 D C s4 m4 ys H3 U a1 c8 ?_ b6 I4.free q;have hk:=I4.base;have c3:HOk X.prog X.w H3 s4.heap:=I4.hok;have Q:∀b u,H3 b=some u->b≠D:=λb u e z=>by rw[z,b6] at e; cases e
      refine I.call' (ch:=L) I4.os (λb o e n a hx=>hk.keep b o e n a hx,λb o e n a hx=>hk.slot b o e n a hx,λb o e n hx=>?_,λb o e hx=>hk.there b o e hx,λb xs e=>?_,λb o u e=>?_,λb ps e=>?_) ?_ I4.bare ?_
      · rw[Zaj (j b<|K e).2]; exact hk.free b o e n hx
      · have:=hk.tups b xs e
        rw[Zaj<|Q b _ this]; exact this
      · have:=hk.frzs b o u e
        rw[Zaj<|Q b _ this]; exact this
      · obtain ⟨b8,e'⟩:=hk.tbls b ps e
        exact (b8,by rw[Zaj<|Q b _ e']; exact e')
      · intro b u e
        by_cases a:b=D
        · subst a
          rw[Zai] at e
          cases e
          exact (c5,f,n,rv,c9)
        · rw[Zaj a] at e
          exact (c3 b u e).stay (λc v _ q=>q) (λc q=>by rw[Zaj<|Q c _ q]; exact q) λc xs q=>by rw[Zaj<|Q c _ q]; exact q
      · intro b a
        obtain ⟨_,f1,_,f3,f4,f5⟩:=hf b a;exact (f3,f1,f4,f5)
    · refine thn (T.item Y rfl rfl rfl hc i _ s3 _ H3 _ I3 ff b3 go) λr s4 ⟨u,hr,h4⟩=>?_
      subst hr;refine thn h4 λ_ s5 ⟨x,H5,I5,r5,y5,a8,e0⟩=>?_;have d4:=b7 (pins':=[(D,{ cls:=.type "list", data:=.seq f.toArray n })]) e0 (λp w b a=>by
        rw[Qf.mp w]; exact (Ne.symm (j b<|a3 b a).2))
      have d8:=I5.pinned d4<|T.obj _ _ a8;refine thn (hg s H C _ s5 _ H5 x u _ d8 r5<|step x H5 y5) λ_ s6 ⟨c4,H6,I6,wk,q6⟩=>?_;refine thn (he s H C _ s6 c4 H6 _ I6 q6) λy s7 ⟨v,H7,I7,r7,n7⟩=>?_;obtain ⟨m',hm,w7⟩:=hNN v H7 n7;obtain ⟨d9,c0,_,_,_⟩:=I7.pin (D,{ cls:=.type "list", data:=.seq f.toArray n })<|Qw _<|List.mem_append_left _ W6;refine append_at (n:=n) d9 (λh' c2 d7=>?_) (by rw[Qh,<-rv.length]; exact c5);have d6:tn (i+1) s7.heap:=T.keep _ _ _ a8 λb a o e=>(I7.pin (b,o)<|Qw _<|Qw _<|ZbZ a e).1;have d1:∀b∈L,H7 b=none:=λb a=>by
        obtain ⟨o,e,d⟩:=T.obj _ _ a8 b a;exact (I7.pin (b,o)<|Qw _<|Qw _<|ZbZ a e).2.1
      have I8:Inv Y [] c4 H7 s7:=I7.pins_of λp w=>(nomatch w);have I9:Inv Y [] (st0 own.length caps σ) H7 s7:=I8.weak (by rw[I0.len,I8.len]) wk;have d2:Inv Y [] (st0 own.length caps σ) H7 { s7 with heap:=h' }:=I9.turned (t':=s7.toks) (it:=D) (λb o a e=>c2.extBut b o a e) c0 a1 (.inr<|Wo hDD) (λx c e=>Qc<|a2 x c<|sub x c e)<|λp w=>absurd (show p∈([]:List (Addr×Obj)) from w) (by simp);refine (m',hm,i+1,ys++[v],f++[y],n+1,H7,a4 d2 c0 ?_,?_,d1,rv.append<|.cons r7 .nil,w7)
      · rw[d7,List.push_toArray]
      · exact T.keep _ _ _ d6 λb a o e=>c2.extBut b o (j b<|a3 b a).2 e
  have d5:tn 0 A:=T.keep _ _ _ st λb _ o e=>G b o e;exact codeAny_compStart_list (a5 _ rfl)<|T.self _ 0 _ _ _ d5<|a5 _ rfl
def Zef(own:List Str)(caps:List (Nat×Str))(hc:X.calm=true)(M:PI X tg iter wi)(hg:∀r a i C,PG (ZaN X scope (own++caps.map (·.2)) a i C r) tg g)(he:∀r a i C,PE (ZaN X scope (own++caps.map (·.2)) a i C r) elt te)
    (t:CapsOk X scope caps)
    (E:(scope.names.all λy=>!(y.2==NameKind.free)||(X.env.cells.lookup y.1).isSome)=true:=by rfl)
    (f:scope.kind = .function:=by rfl) (n:∀y∈scope.names,y.2 ≠ .cell:=by decide +kernel)
    (j:∀y∈scope.names,y.2 = .local->scope.names.lookup y.1=some .local:=by decide +kernel) (O:∀x,foldedSetIterable iter X.env x=pure x:=by intro _; rfl) :
    PE X (.ListComp elt [(tg,iter,[],0)] scope pos) (ZjX own.length caps wi g te):=by
  intro k s K H Q I h;have d:=Zgn E;have l:=Zee d;rw[eval_ListComp];refine wpAny_comprehension_free (use:=none) rfl O l f j<|thn (M k s K H _ I h) λv s1 P=>thn P λW s2 h2=>?_;obtain ⟨it,r,tn,J,H2,e,u,T,F,f2,hB⟩:=h2;subst e;refine ZhA (RR:=λB C=>compPost (model X.prog X.w) X.A X.xe none (EP X k K Q) B C) u hc T F f2 f n d t (hg r) (he r) hB ?_;intro D C s' m ys H' w G R Z U N q;refine (m,R,λh' A=>(.ref D,upd H' D<|.lst ys,?_,rfl,q D U));exact Z.turned (t':=s'.toks) (it:=C) (λb o Y e=>A.extBut b o Y e) (by rw[Zaj<|Ne.symm G]; exact N) (Ne.symm<|Qc<|Qa u.lt w) (.inr<|Q0 u.sz w)
    (λx c e z=>by
      obtain ⟨v,o,L,_⟩:=u.cell x c e;rw[z] at L;exact absurd (Qa (Heap.lt_size L) w)<|W0 _)
    (λp S z=>by
      have:=(u.pin p S).1;rw[z] at this;exact absurd (Qa (Heap.lt_size this) w)<|W0 _)
def Zf4{i:Nat}{x:Str}{d t:Pos}(own:List Str)(caps:List (Nat×Str))(hN:X.N.Nodup)(O:X.N[i]?=some x)(Y:X.env.scope.names.lookup x=some .local)(hc:X.calm=true)(hi:PI X tg iter wi)
    (hg:∀A f l C,PG (ZaN X scope (own++caps.map (·.2)) f l C A) tg g) (he:∀A f l C,PE (ZaN X scope (own++caps.map (·.2)) f l C A) elt te)
    (B:CapsOk X scope caps)
    (N:(scope.names.all λy=>!(y.2==NameKind.free)||(X.env.cells.lookup y.1).isSome)=true:=by rfl)
    (R:swapsWith (.ListComp elt [(tg,iter,[],0)] scope pos) (some<|.Name x d) t.line X.env=pure true:=by rfl)
    (k:scope.kind = .function:=by rfl) (u:∀y∈scope.names,y.2 ≠ .cell:=by decide +kernel)
    (r:∀y∈scope.names,y.2 = .local->scope.names.lookup y.1=some .local:=by decide +kernel) (hs:∀x,foldedSetIterable iter X.env x=pure x:=by intro _; rfl) :
    PS X (.Assign [.Name x d] (.ListComp elt [(tg,iter,[],0)] scope pos) t) (Zss (ZjX own.length caps wi g te)<|Zdv i):=by
  intro n s σ H Z I h;have j:=Zgn N;have w:=Zee j;rw[exec_Assign_Name_used _ _ _ _ R];refine wpAny_bind<|wpAny_standAt<|wpAny_bind ?_;show wpAny _ X.A (do let _ ← comprehension (.ListComp elt [(tg,iter,[],0)] scope pos) scope X.env _ (newList []) false (eval iter X.env) (some<|assign (.Name x d) X.env)) _ _ s;refine wpAny_bind<|wpAny_mono (wpAny_comprehension_free (use:=some<|assign (.Name x d) X.env) (Q:=λ_ K=>SP X n Z .next K) rfl hs w k r<|thn (hi n s σ H _ I h) λv s1 h1=>thn h1 λa0 s2 h2=>?_) (λ_ K hq=>wpAny_pure<|wpAny_pure hq) λ_ _ e=>e;obtain ⟨it,A,tn,J,H2,e,F,T,U,f2,hB⟩:=h2;subst e;refine ZhA (RR:=λM C=>compPost (model X.prog X.w) X.A X.xe (some<|assign (.Name x d) X.env) (λ_ K=>SP X n Z .next K) M C) F hc T U f2 k u j B (hg A) (he A) hB ?_;intro D C K m ys H' L W hn I3 nD nC q;show wpAny _ X.A (assign (.Name x d) X.env<|.ref D) _ _ _;have G:C≠X.env.locals:=Ne.symm<|Qc<|Qa F.lt L;have E:∀x c,X.env.cells.lookup x=some c->c≠C:=λx c e z=>by
    obtain ⟨v,o,ho,_⟩:=F.cell x c e;rw[z] at ho;exact absurd (Qa (Heap.lt_size ho) L)<|W0 _
  refine wpAny_assign_Name<|Zhj I3 hN O (.inl Y) (v:=.ref D) rfl (λs4 I4 ⟨a,sb,ha⟩=>?_)<|.inr Y;have P:C≠a:=by
    rcases ha with e | e
    · rw[e]; exact G
    · exact Ne.symm (E x a e)
  refine (m,hn.sameBut sb P,λh' S=>(_,_,?_,q D nD));exact I4.turned (t':=s4.toks) (it:=C) (λb o hb e=>S.extBut b o hb e) (by rw[Zaj<|Ne.symm W]; exact nC) G (.inr<|Q0 F.sz L) E
    (λp hp z=>by
      have:=(F.pin p hp).1;rw[z] at this;exact absurd (Qa (Heap.lt_size this) L)<|W0 _)
def ZmW{x:V}{a:List (Option V)}:∀(i:Nat) v,((none:Option V)::a)[i]?=some (some v)->((some x)::a)[i]?=some (some v)
 |0,v,h=>by simp at h
 |i+1,v,h=>by simpa using h
def ZkY{K:ZZfg}{xs:List V}{f:St}{QL:List V->Hp->Prop}(b:Nat->List V->Hp->Prop)(l:xs.length<=1000)(j:b 0 [] H)(r:∀i ys H,i<=xs.length->b i ys H->SqL K H a xs)
    (o:∀i x ys H,xs[i]?=some x->ys.length=i->b i ys H->te (some x::caps.map λp=>(f[p.1]?).join) H λv c=>b (i+1) (ys++[v]) c) (k:∀ys H,ys.length=xs.length->b xs.length ys H->QL ys H) :
    Zfa 1 caps (Zdv 0) te f (Itl K a) H QL:=by
  have t:xs.length<sizeLine:=Zba l;refine (λi m ys H=>m=xs.length-i/\i<=xs.length/\ys.length=i/\b i ys H,(_,rfl,Qg _,rfl,j),?_);rintro i m ys c ⟨rfl,n,d,p⟩;have q:=r i ys c n p;refine (⋯,?_)
  by_cases hlt:i<xs.length
  · refine .inr ((xs,xs[i],q,by simp[hlt]),⋯,λv h=>b (i+1) (ys++[v]) h,λv h s=>(xs.length-(i+1),⋯,rfl,hlt,by rw[Qi,d]; rfl,s),λx u y=>?_)
    obtain ⟨e,y⟩:=y;subst e;exact (ZmW,o i x ys _ (y xs q) d p)
  · have e:i=xs.length:=⋯
    subst e;exact .inl ((xs,q,Q4 _),k ys c d p)
def ZjY{lo:Int}{n:Nat}{d:St}{QL:List V->Hp->Prop}(a:Nat->List V->Hp->Prop)(k:n<=1000)(h:a 0 [] H)
    (l:∀i ys H,i<n->ys.length=i->a i ys H->te (some (.int<|lo+i)::caps.map λp=>(d[p.1]?).join) H λv b=>a (i+1) (ys++[v]) b) (j:∀ys H,ys.length=n->a n ys H->QL ys H) :
    Zfa 1 caps (Zdv 0) te d (Itr lo n) H QL:=by
  have q:n<sizeLine:=Zba k;refine (λi m ys H=>m=n-i/\i<=n/\ys.length=i/\a i ys H,(_,rfl,Qg _,rfl,h),?_);rintro i m ys b ⟨rfl,r,c,p⟩;refine (⋯,?_)
  by_cases hlt:i<n
  · refine .inr (hlt,⋯,λv f=>a (i+1) (ys++[v]) f,λv f o=>(n-(i+1),⋯,rfl,hlt,by rw[Qi,c]; rfl,o),λx s y=>?_)
    obtain ⟨e,y⟩:=y;subst e y;exact (ZmW,l i ys _ hlt c p)
  · have e:i=n:=⋯
    subst e;exact .inl (Q4 _,j ys b c p)
end
structure HasM (P:Program) (w:World) (K:ZZfg) (mg:ZZmg) (base:Heap) (C:Addr) (m:Str) (k:Nat) (ps:List Str) (dvs:List V) (sp:Sp):Prop where
 ex:∃(f:Addr) (fd:FuncData) (ds:List Value),FnOk P w K mg base CX0 k f fd ps sp/\Meth K C m f/\Binds K fd ps ds/\Vals dvs ds
def HasM.mono{K:ZZfg}{j k:Nat}(h:HasM P w K mg base C m j ps dvs sp)(e:j<=k):HasM P w K mg base C m k ps dvs sp :=
 let ⟨f,fd,ds,a,b,c,d⟩:=h.ex
 (f,fd,ds,a.mono e,b,c,d)
inductive ZkZ (P:Program) (w:World) (K:ZZfg) (mg:ZZmg) (base:Heap) (m:Str) (k:Nat) (x:V) (H1:Hp) (R:List V->Sp->Prop):Prop
 |mk (a C:Addr) (dx:_) (fs:_) (ps:List Str) (dvs:List V) (sp:Sp) (_:x = .ref a) (_:H1 a=some (.ins C dx fs)) (_:Cls K C) (_:HasM P w K mg base C m k ps dvs sp) (_:fs.lookup m=none) (_:R dvs sp):ZkZ P w K mg base m k x H1 R
def ZqM(P:Program)(w:World)(K:ZZfg)(mg:ZZmg)(base:Heap)(m:Str)(k:Nat)(d:TE)(t:TA):TE:=λb H Q=>d b H λx c=>ZkZ P w K mg base m k x c λa g=>t b c λe f=>g (x::(e++a)) f Q E0
section
variable{X:Cx}{k:Nat}{m x:Str}{p pos apos:Pos}{e o:Expr}{es:List Expr}{ta:TE}{t:TA}
def Zgo(L:PE X o ta)(hr:Room k X.A)(E:PA X (e::es) t)
    (d:starEach (e::es) X.env=(false,eval e X.env)::starEach es X.env:=by rfl) (g:(backTo pos<|starEach es X.env).any (·.1)=false:=by rfl)
    (K:eval (.Call (.Attribute o m apos) (e::es) [] pos) X.env=(do
      let ov ← eval o X.env
      standAt apos.atName
      let (f,first) ← holding [ov] (getMethod ov m pl)
      callWith pos f first (backTo pos<|starEach (e::es) X.env) (backToKw pos<|keywordEach [] X.env)):=by rfl) :
    PE X (.Call (.Attribute o m apos) (e::es) [] pos) (ZqM X.prog X.w X.K X.mg X.base m k ta t):=by
  intro b s i H Q I h;refine PySem.W.methodCall_KW (pl:=pl) (thn (L b s i H _ I h) λu N ⟨x,D,j,y,a,C,P,O,S,z,Y,M,w,c,B,l,q⟩=>?_) K;subst M;obtain rfl:u=Value.ref a:=y;obtain ⟨f,U,T,F,n,J,G⟩:=B.ex;refine Zf1 j w c n l ?_;refine PySem.W.callWith_K (first:=[.ref a]) (h₀:=X.base) I.ok.mod.kin n.kp (thn (E pos b N i D _ j q) λus R ⟨vs,W,v,r,A⟩=>(v.kIn,?_)) d g;exact Zn9 (us:=.ref a::us) (vs:=.ref a::vs) F hr J G Zpb v (.cons rfl r) A
structure HasI (P:Program) (w:World) (K:ZZfg) (mg:ZZmg) (base:Heap) (C:Addr) (k:Nat) (ps:List Str) (sp:Sp):Prop where
 ex:∃(f:Addr) (fd:FuncData),Mk K C f/\FnOk P w K mg base CX0 k f fd ps sp/\Binds K fd ps []
def Zjf(h:HasI X.prog X.w X.K X.mg X.base C k ps sp)(hr:Room (k+1) X.A)(d:Gl X x)(j:X.mg x=some (.ref C))(i:PA X (e::es) t)(a:(x==("__debug__" : Str))=false:=by decide)
    (g:starEach (e::es) X.env=(false,eval e X.env)::starEach es X.env:=by rfl) (c:(backTo pos<|starEach es X.env).any (·.1)=false:=by rfl):PE X (.Call (.Name x p) (e::es) [] pos) (ZqI C sp [] E0 t):=by
  obtain ⟨f,l,M,F,b⟩:=h.ex;exact Zo8 M F hr d j b .nil Zpb i a g c
structure HereM (K:ZZfg) (C:Addr) (m qual:Str) (st:Stmt):Prop where
 ex:∃(f:Addr) (fd:FuncData),Fun K m qual st f fd/\Meth K C m f
def HereM.hasM{K:ZZfg}{m a:Str}{k:Nat}(h:HereM K C m a d)
    (b:∀f c,Fun K m a d f c->Binds K c ps []) (g:∀f c,Fun K m a d f c->FnOk P w K mg base CX0 k f c ps sp):HasM P w K mg base C m k ps [] sp :=
  let ⟨f,c,F,M⟩:=h.ex
  (f,c,[],g f c F,M,b f c F,.nil)
def hereM_mk{K:ZZfg}{C:Addr}{m b:Str}{f:Addr}{q:Value}{u n:Option Addr}{h:Array (Option Value)}{kV j r d s:Value}(a:PySem.W.findIn K (.ref C) m=some (some<|.ref f))(i:PySem.W.isFn K (.ref f)=true)
    (l:K.lookup f=some (q,u,.func<|PySem.W.fnOf m b (Zbt g) (ZaW g) (Zab g) .none kV j r n d s,h))
    (c:PySem.W.codeIn K d b=true) (k:PySem.W.keepIn K (.ref f)=true):HereM K C m b g:=(f,_,ZkU l c k,a,i,k)
structure HereI (K:ZZfg) (C:Addr) (qual:Str) (st:Stmt):Prop where
 ex:∃(f:Addr) (fd:FuncData),Fun K "__init__" qual st f fd/\Mk K C f
def HereI.hasI{K:ZZfg}{k:Nat}(h:HereI K C a d)
    (b:∀f c,Fun K "__init__" a d f c->Binds K c ps []) (g:∀f c,Fun K "__init__" a d f c->FnOk P w K mg base CX0 k f c ps sp):HasI P w K mg base C k ps sp :=
  let ⟨f,c,F,M⟩:=h.ex
  (f,c,M,g f c F,b f c F)
def hereI_mk{K:ZZfg}{f:Addr}{r:Value}{v n:Option Addr}{h:Array (Option Value)}{kV j s d u:Value}(w:PySem.W.makesIn K C=true)(a:PySem.W.findIn K (.ref C) "__init__" = some (some<|.ref f)) (i:PySem.W.isFn K (.ref f)=true)
    (q:PySem.W.keepIn K (.ref C)=true) (l:K.lookup f=some (r,v,.func<|PySem.W.fnOf "__init__" b (Zbt g) (ZaW g) (Zab g) .none kV j s n d u,h))
    (c:PySem.W.codeIn K d b=true) (k:PySem.W.keepIn K (.ref f)=true):HereI K C b g:=(f,_,ZkU l c k,w,a,i,q)
structure Mk0 (K:ZZfg) (C:Addr):Prop where
 makes:PySem.W.makesIn K C=true
 init:PySem.W.findIn K (.ref C) "__init__"=some (some (.builtin "object.__init__"))
 kp:PySem.W.keepIn K (.ref C)=true
def Zpf(C:Addr):TE:=λ_ H Q=>∀x a,H x=none->H a=none->a≠x->Q (.ref x) (upd (upd H a<|.own x) x<|.ins C a [])
def ZjZ{Q:VK}(M:Mk0 X.K C)(I:Inv X c j H s)
    (h:∀x i,H x=none->H i=none->i≠x->Q (.ref x) (upd (upd H i<|.own x) x<|.ins C i [])):wpAny (model X.prog X.w) X.A (call (.ref C) []) (EP X c j Q) X.xe s:=by
  have n:=h (s.heap.objs.size+1) s.heap.objs.size (I.hok.fresh<|Nat.le_succ _) (I.hok.fresh<|Q4 _)<|Qc<|Uu _;have r:=Inv.made (C:=C) I;refine wpAny_call<|ZkL I.kIn M.makes M.init (λf=>PySem.W.Looks.of_pure<|PySem.W.oi_bind f) ?_;have Y:=PySem.W.makes_of (M:=model X.prog X.w) I.kIn M.makes;obtain ⟨a,g,d,t,u⟩:=s;have l:PySem.W.Looks (model X.prog X.w) ((a.push PySem.W.emptyDict).push<|PySem.W.instObj C a.objs.size) (typeOf<|.ref<|a.objs.size+1) (.ref C) :=
    (PySem.W.Looks.ld (o:=PySem.W.instObj C a.objs.size) (by have:=Heap.get?_push_size (a.push PySem.W.emptyDict) (o:=PySem.W.instObj C a.objs.size) rfl; rwa [Heap.size_push] at this)).andThen .now
  have q:PySem.W.Looks (model X.prog X.w) ((a.push PySem.W.emptyDict).push<|PySem.W.instObj C a.objs.size) (isInstance (.ref<|a.objs.size+1)<|.type "object") true:=l.andThen<|Y.top.keeps λb o e=>Heap.get?_push_of_some _<|Heap.get?_push_of_some _ e;refine codeAny_call_builtin PySem.W.oi_plain PySem.W.entry_oi<|@PySem.W.check_slot (model X.prog X.w) _ _ _ "object.__init__" "object" "__init__" (.ref<|a.objs.size+1) [] [] _ PySem.W.oi_kind PySem.W.oi_split q (PySem.W.oi_args<|.ref<|a.objs.size+1) ?_;rw[PySem.W.oi_run];refine wpAny_pure<|And.intro rfl ?_;exact (V.ref<|a.objs.size+1,_,r,rfl,n)
def Zk0(M:Mk0 X.K C)(c:Gl X x)(d:X.mg x=some (.ref C))(a:(x==("__debug__":Str))=false:=by decide):PE X (.Call (.Name x p) [] [] pos) (Zpf C):=by
 intro b s f H Q I h;refine wpAny_Call_Name_kw<|ZcV I c d ?_ a;exact PySem.W.callWith_K0 I.kIn M.kp<|ZjZ M I h
end
end L2
namespace M1
def fmod_gcd(a b:Int):Int.gcd b (a.fmod b)=Int.gcd a b:=by
 have h:a.fmod b=a-b*a.fdiv b:=Int.fmod_def a b;rw[h,Int.gcd_comm a b];have:a-b*a.fdiv b=a+b*(-(a.fdiv b)):=by rw[Uj];omega
 rw[this]
 simp
def ZqN(i:Int):(if i<0 then -i else i)=(i.natAbs:Int):=by split <;> omega
def gcd_zero'(a:Int):(Int.gcd a 0:Int)=(if a<0 then -a else a):=by
 rw[ZqN,Int.gcd_zero_right]
def Zfb(a:Int){b:Int}(h:b<0):a.fmod b<=0/\b<a.fmod b:=by
 have e:=Int.neg_fmod_neg a b;have c:=Int.fmod_nonneg_of_pos (-a) (b:=-b) ⋯;have d:=Int.fmod_lt_of_pos (-a) (b:=-b) ⋯;omega
def fmod_lt(a:Int){b:Int}(h:b≠0):(a.fmod b).natAbs<b.natAbs:=by
 rcases Int.lt_or_gt_of_ne h with h|h
 ·have c:=Zfb a h;omega
 ·have c:=Int.fmod_nonneg_of_pos a h;have d:=Int.fmod_lt_of_pos a h;omega
def ZhB(a:Int){b:Int}(h:b≠0):(0<=b/\0<=a.fmod b)\/(b<=0/\a.fmod b<=0):=by
 rcases Int.lt_or_gt_of_ne h with h|h
 ·exact .inr (⋯,(Zfb a h).1)
 ·exact .inl (⋯,Int.fmod_nonneg_of_pos a h)
structure Sh (x y a u1 v1 b u2 v2:Int):Prop where
 ea:a=u1*x+v1*y
 eb:b=u2*x+v2*y
 g:Int.gcd a b=Int.gcd x y
 st:(a=x/\u1=1/\v1=0/\b=y/\u2=0/\v2=1) ∨
  (a≠0/\((0<=a/\0<=b)\/(a<=0/\b<=0))/\a.natAbs<=y.natAbs/\b.natAbs<=y.natAbs/\u1.natAbs<=y.natAbs/\v1.natAbs<=x.natAbs+2*y.natAbs ∧
   u2.natAbs*a.natAbs+u1.natAbs*b.natAbs<=y.natAbs/\v2.natAbs*a.natAbs+v1.natAbs*b.natAbs<=x.natAbs+2*y.natAbs)
def Sh.start(x y:Int):Sh x y x 1 0 y 0 1:=(⋯,⋯,rfl,.inl (rfl,rfl,rfl,rfl,rfl,rfl))
def Zdn{a b c:Nat}(h:a*b<=c)(d:b≠0):a<=c:=Q0 (U8 a<|Nat.pos_of_ne_zero d) h
def ZsE{X Y:Nat}:X<=X+2*Y+1:=⋯
def Zk1{X Y:Nat}:Y<=X+2*Y+1:=⋯
def ZqO{X Y:Nat}:1<=X+2*Y+1:=⋯
def ZsF{X Y:Nat}(h:1<=Y):1<=X+2*Y:=⋯
def Sh.bound{x y a u1 e b u2 d:Int}(h:Sh x y a u1 e b u2 d) :
    a.natAbs<=x.natAbs+2*y.natAbs+1/\u1.natAbs<=x.natAbs+2*y.natAbs+1/\e.natAbs<=x.natAbs+2*y.natAbs+1 ∧
    b.natAbs<=x.natAbs+2*y.natAbs+1/\u2.natAbs<=x.natAbs+2*y.natAbs+1/\d.natAbs<=x.natAbs+2*y.natAbs+1:=by
  rcases h.st with ⟨rfl,rfl,rfl,rfl,rfl,rfl⟩ | ⟨ha,_,h1,h2,h3,h4,h5,h6⟩
  · exact (ZsE,ZqO,Qg _,Zk1,Qg _,ZqO)
  · have c:a.natAbs≠0:=Int.natAbs_ne_zero.mpr ha
    have f:u2.natAbs<=y.natAbs:=Zdn (b:=a.natAbs) (Q0 (Nat.le_add_right _ _) h5) c;have g:d.natAbs<=x.natAbs+2*y.natAbs:=Zdn (b:=a.natAbs) (Q0 (Nat.le_add_right _ _) h6) c;exact (Q0 h1 Zk1,Q0 h3 Zk1,Uw h4,Q0 h2 Zk1,Q0 f Zk1,Uw g)
def rest_eq(a b:Int):a-a.fdiv b*b=a.fmod b:=by rw[Int.fmod_def,W1]
def fdiv_small(a:Int){b:Int}(d:b≠0):(a.fdiv b).natAbs<=a.natAbs+1:=by
 have e:=Int.mul_fdiv_add_fmod a b;have l:=fmod_lt a d;have k:(b*a.fdiv b).natAbs=b.natAbs*(a.fdiv b).natAbs:=Ql ..;have z:b*a.fdiv b=a-a.fmod b:=⋯;have i:b.natAbs*(a.fdiv b).natAbs<=a.natAbs+(b.natAbs-1):=by
  rw[<-k,z];have:=Int.natAbs_sub_le a<|a.fmod b;omega
 generalize (a.fdiv b).natAbs=q at *;generalize b.natAbs=c at *;have f:1<=c:=⋯;rcases Nat.lt_or_ge (a.natAbs+1) q with h|h
 ·have:c*(a.natAbs+2)<=c*q:=Qb c h;have j:c*(a.natAbs+2)=c*a.natAbs+c*2:=Nat.mul_add ..;have g:a.natAbs<=c*a.natAbs:=Wt _ f;omega
 ·exact h
def Zpg{a b:Int}(h:(0<=a/\0<=b)\/(a<=0/\b<=0)):0<=a.fdiv b:=by
 rcases h with ⟨h1,h2⟩|⟨h1,h2⟩
 ·exact Int.fdiv_nonneg h1 h2
 ·rw[<-Int.neg_fdiv_neg];exact Int.fdiv_nonneg ⋯ ⋯
def Zk2{a b:Int}(c:b≠0)(h:(0<=a/\0<=b)\/(a<=0/\b<=0)):(a.fdiv b).natAbs*b.natAbs+(a.fmod b).natAbs=a.natAbs:=by
 have e:=Int.mul_fdiv_add_fmod a b;have q:=Zpg h;have s:=ZhB a c;rw[<-Ql,W1];have d:(0<=b/\0<=b*a.fdiv b)\/(b<=0/\b*a.fdiv b<=0):=by
  rcases h with ⟨h1,h2⟩|⟨h1,h2⟩
  ·exact .inl (h2,Ux h2 q)
  ·refine .inr (h2,?_);have:=Ux (show 0 <= -b by omega) q;rw[Int.neg_mul] at this;omega
 rcases d with ⟨b1,p1⟩|⟨b1,p1⟩
 ·rcases s with ⟨_,s1⟩|⟨b2,_⟩
  ·rw[<-Int.natAbs_add_of_nonneg p1 s1,e]
  ·exact absurd (Int.le_antisymm b2 b1) c
 ·rcases s with ⟨b2,_⟩|⟨_,s1⟩
  ·exact absurd (Int.le_antisymm b1 b2) c
  ·rw[<-Int.natAbs_add_of_nonpos p1 s1,e]
def Zf5(u q v:Int):(u-q*v).natAbs<=u.natAbs+q.natAbs*v.natAbs:=by
 have:=Int.natAbs_sub_le u<|q*v;rw[Ql] at this;exact this
def Zjg{u1 u2 q a b r u C:Nat}(c:u<=u1+q*u2)(d:q*b+r=a)(h:u2*a+u1*b<=C):u*b+u2*r<=C:=by
 have f:u*b<=(u1+q*u2)*b:=Qq b c;have e:(u1+q*u2)*b=u1*b+u2*(q*b):=by
  rw[Nat.add_mul,W3 q u2,Qm]
 have g:u2*a=u2*(q*b)+u2*r:=by rw[<-d,Nat.mul_add]
 omega
def ZmX{x y a b q u1 c u2 d:Int}(e:a=u1*x+c*y)(eb:b=u2*x+d*y):a-q*b=(u1-q*u2)*x+(c-q*d)*y:=by
 rw[e,eb,Int.sub_mul,Int.sub_mul,Int.mul_add,Qx,Qx];omega
def ZqP{M A R B:Nat}(h:M<=A+R)(l:R<B):M+R<=A+2*B:=⋯
def Sh.turn{x y a u1 i b u2 f:Int}(h:Sh x y a u1 i b u2 f)(c:b≠0) :
    Sh x y b u2 f (a-a.fdiv b*b) (u1-a.fdiv b*u2) (i-a.fdiv b*f):=by
  have j:=rest_eq a b;refine (h.eb,ZmX h.ea h.eb,?_,.inr ?_)
  · rw[j,fmod_gcd]; exact h.g
  · have g:=fmod_lt a c
    have q:=ZhB a c;rw[j];refine (c,q,?_);rcases h.st with ⟨rfl,rfl,rfl,rfl,rfl,rfl⟩ | ⟨ha,hs,h1,h2,h3,h4,h5,h6⟩
    · have m:(1:Int)-a.fdiv b*0=1:=⋯
      have o:(0:Int)-a.fdiv b*1 = -(a.fdiv b):=⋯;rw[m,o,Int.natAbs_neg];refine (Q4 _,Wl g,Qg _,ZsF<|Nat.pos_of_ne_zero<|Int.natAbs_ne_zero.mpr c,?_,?_)
      · show 1*b.natAbs+0*(a.fmod b).natAbs<=b.natAbs
        rw[Wv,Nat.zero_mul];exact Q4 _
      · show (a.fdiv b).natAbs*b.natAbs+1*(a.fmod b).natAbs<=a.natAbs+2*b.natAbs
        have e:=Int.mul_fdiv_add_fmod a b;have k:(b*a.fdiv b).natAbs=b.natAbs*(a.fdiv b).natAbs:=Ql ..;have z:b*a.fdiv b=a-a.fmod b:=⋯;rw[W3,<-k,z,Wv];exact ZqP (Int.natAbs_sub_le a<|a.fmod b) g
    · have l:=Zk2 c hs
      have d:a.natAbs≠0:=Int.natAbs_ne_zero.mpr ha;have p:u2.natAbs<=y.natAbs:=Zdn (b:=a.natAbs) (Q0 (Nat.le_add_right _ _) h5) d;have n:f.natAbs<=x.natAbs+2*y.natAbs:=Zdn (b:=a.natAbs) (Q0 (Nat.le_add_right _ _) h6) d;exact (h2,Q0 (Wl g) h2,p,n,Zjg (Zf5 ..) l h5,Zjg (Zf5 ..) l h6)
def Sh.done{x y a u1 b u2 c:Int}(h:Sh x y a u1 b 0 u2 c):(a.natAbs:Int)=Int.gcd x y/\a=x*u1+y*b:=by
 have g:=h.g;rw[Int.gcd_zero_right] at g;refine (by rw[g],?_);rw[W1 x,W1 y];exact h.ea
end M1
namespace M2
def Prm(n:Int):Prop:=2<=n/\∀d:Int,2<=d->d*d<=n->¬d ∣ n
def sq_mono{a b:Int}(c:0<=a)(h:a<=b):a*a<=b*b:=Int.mul_le_mul h h c ⋯
def Zph:Prm 2:=(⋯,λd b c=>by have:=sq_mono (a:=2) ⋯ b;omega)
def ZmY{n:Int}(h:2<=n)(a:n≠2)(e:n%2=0):¬Prm n:=λp=>p.2 2 ⋯ ⋯<|Int.dvd_of_emod_eq_zero e
def prm_even{n:Int}(h:2<=n)(e:n%2=0):Prm n↔n=2:=by
 constructor
 ·intro p;refine Decidable.byContradiction λz=>ZmY h z e p
 ·rintro rfl;exact Zph
def No(n t:Int):Prop:=∀d:Int,2<=d->d<t->¬d ∣ n
def No.odd{n:Int}(e:¬n%2=0):No n 3:=λd b c a=>by
 have:d=2:=⋯;subst this;exact e<|U9 a
def No.two:No n 2:=λd a b=>⋯
def No.one{n t:Int}(h:No n t)(a:¬t ∣ n):No n (t+1):=λd b c=>by
 rcases (by omega:d<t\/d=t) with z|z
 ·exact h d b z
 ·rw[z];exact a
def No.next{n t:Int}(h:No n t)(e:¬n%2=0)(g:t%2=1)(f:¬t ∣ n):No n (t+2):=λd c i a=>by
 rcases (by omega:d<t\/d=t\/d=t+1) with z|z|z
 ·exact h d c z a
 ·rw[z] at a;exact f a
 ·have b:(2:Int) ∣ d:=Int.dvd_of_emod_eq_zero ⋯;exact e<|U9<|Int.dvd_trans b a
def No.done{n t:Int}(h:No n t)(e:2<=n)(f:0<=t)(a:¬t*t<=n):Prm n:=(e,λd c b=>h d c (by
 refine Uy λz=>a ?_;exact Int.le_trans (sq_mono f z) b))
def found{n t:Int}(c:2<=t)(a:t*t<=n)(b:t ∣ n):¬Prm n:=λp=>p.2 t c a b
def le_of_sq{n t:Int}(a:2<=t)(b:t*t<=n):t+t<=n:=by
 have:t*2<=t*t:=Int.mul_le_mul_of_nonneg_left a ⋯;omega
def fmod_dvd{n t:Int}(a:0<t):n.fmod t=0↔t ∣ n:=by
 rw[Wm n ⋯];exact (Int.dvd_of_emod_eq_zero,U9)
def Zk3:∀d:Nat,d<1000->2<=d->999983%d≠0:=by decide +kernel
def prm_big:Prm 999983:=by
 refine (⋯,λd i g b=>?_);have h:d<1000:=by
  refine Uy λz=>?_;have:=sq_mono (a:=1000) ⋯ z;omega
 have e:=U9 b;refine Zk3 d.toNat ⋯ ⋯ ?_;have f:d=(d.toNat:Int):=⋯;rw[f] at e;have c:((999983%d.toNat:Nat):Int)=0:=by rw[Ww];exact e
 exact Int.natCast_eq_zero.mp c
def Zpi{p d:Int}(h:Prm p)(f:1<d)(c:d ∣ p):d=p:=by
 obtain ⟨k,a⟩:=c;have g:=h.1;refine Decidable.byContradiction λz=>?_;have b:0<k:=by
  refine Uy λq=>?_;have:=Ux (show 0<=d by omega) (show 0 <= -k by omega);rw[Uj] at this;omega
 have e:k≠1:=λq=>z (by rw[a,q,Ut]);rcases (by omega:d<=k\/k<=d) with q|q
 ·exact h.2 d ⋯ (by rw[a];exact Int.mul_le_mul_of_nonneg_left q ⋯) (k,a)
 ·exact h.2 k ⋯ (by rw[a];exact Int.mul_le_mul_of_nonneg_right q ⋯) (d,by rw[a,W1])
def prm_gcd{p b:Int}(h:Prm p)(f:¬p ∣ b):Int.gcd b p=1:=by
 have a:=Wf b p;have c:=U0 b p;have g:=h.1;have d:Int.gcd b p≠0:=λz=>by
  rw[z] at a;have:=Int.zero_dvd.mp a;omega
 refine Decidable.byContradiction λz=>f ?_;have e:=Zpi h (show (1:Int)<(Int.gcd b p:Int) by omega) a;rw[e] at c;exact c
end M2
namespace M3
def Zcd{a b c:Int}(e:Int.gcd a c=1)(d:Int.gcd b c=1):Int.gcd (a*b) c=1:=by
 rw[Int.gcd_eq_natAbs_gcd_natAbs] at *;rw[Ql];exact Nat.Coprime.mul_left e d
def Zdo{a b:Int}(h:Int.gcd a b=1):Int.gcd b a=1:=by rw[Int.gcd_comm];exact h
def ZbU{a b c:Int}(e:Int.gcd c a=1)(d:Int.gcd c b=1):Int.gcd c (a*b)=1:=Zdo<|Zcd (Zdo e)<|Zdo d
def ZmZ{a b c:Int}(h:Int.gcd (a*b) c=1):Int.gcd a c=1:=by
 rw[Int.gcd_eq_natAbs_gcd_natAbs] at *;rw[Ql] at h;exact Nat.Coprime.coprime_dvd_left (b.natAbs,rfl) h
def ZcY{a b c:Int}(h:Int.gcd (a*b) c=1):Int.gcd b c=1:=ZmZ (b:=a) (by rw[W1];exact h)
def Zdp{a b c:Int}(h:Int.gcd c (a*b)=1):Int.gcd c b=1:=Zdo<|ZcY<|Zdo h
def ZhC{a b:Int}(f:Int.gcd a b≠0):∃x y:Int,a=(Int.gcd a b:Int)*x/\b=(Int.gcd a b:Int)*y/\Int.gcd x y=1:=by
 obtain ⟨x,c⟩:=U0 a b;obtain ⟨y,d⟩:=Wf a b;refine (x,y,c,d,?_);have e:Int.gcd ((Int.gcd a b:Int)*x) ((Int.gcd a b:Int)*y)=Int.gcd a b*Int.gcd x y:=by
  rw[Int.gcd_mul_left]
  simp
 rw[<-c,<-d] at e;have g:Int.gcd a b*Int.gcd x y=Int.gcd a b*1:=⋯;exact Nat.eq_of_mul_eq_mul_left (Nat.pos_of_ne_zero f) g
def gcd_ne{a b:Int}(h:b≠0):Int.gcd a b≠0:=λz=>h (Int.gcd_eq_zero_iff.mp z).2
def Zbw{g x:Int}(a:g≠0):(g*x).fdiv g=x:=Int.mul_fdiv_cancel_left x a
def Zfc{g x:Int}(a:0<g)(h:0<g*x):0<x:=by
 refine Uy λz=>?_;have:=Ux (Int.le_of_lt a) (show 0 <= -x by omega);rw[Uj] at this;omega
def low{t b:Int}(h:0<b):Int.gcd (t.fdiv<|Int.gcd t b) (b.fdiv<|Int.gcd t b)=1/\0<b.fdiv (Int.gcd t b)/\t.fdiv (Int.gcd t b)*b=t*b.fdiv (Int.gcd t b) ∧
    (t.fdiv<|Int.gcd t b).natAbs<=t.natAbs/\(b.fdiv<|Int.gcd t b).natAbs<=b.natAbs:=by
  have e:=gcd_ne (a:=t) (b:=b) ⋯;obtain ⟨x,y,i,j,c⟩:=ZhC e;generalize Int.gcd t b=g at *;have d:(g:Int)≠0:=⋯;subst i j;rw[Zbw d,Zbw d];have f:=Zfc (show (0:Int)<g by omega) h;refine (c,f,by ac_rfl,?_,?_)
  · rw[Ql]; exact Wt _ ⋯
  · rw[Ql]; exact Wt _ ⋯
def Zj0(g x:Int)(a:g≠0):x.natAbs<=(g*x).natAbs:=by
 rw[Ql];exact Wt _ ⋯
def plus_ok{m d n c:Int}(B:0<d)(G:0<c)(c1:Int.gcd m d=1)(c2:Int.gcd n c=1){top:Int}
    (o:top=m*c.fdiv (Int.gcd d c)+n*d.fdiv (Int.gcd d c)) :
    Int.gcd top (Int.gcd d c)≠0/\0<d.fdiv (Int.gcd d c)*c.fdiv (Int.gcd top<|Int.gcd d c) ∧
    Int.gcd (top.fdiv<|Int.gcd top<|Int.gcd d c) (d.fdiv (Int.gcd d c)*c.fdiv (Int.gcd top<|Int.gcd d c))=1 ∧
    top.fdiv (Int.gcd top<|Int.gcd d c)*(d*c)=(m*c+n*d)*(d.fdiv (Int.gcd d c)*c.fdiv (Int.gcd top<|Int.gcd d c)):=by
  have H:=gcd_ne (a:=d) (b:=c) ⋯;obtain ⟨p,q,k,h,j⟩:=ZhC H;generalize hG:Int.gcd d c=g at *;have f:(g:Int)≠0:=⋯;have w:d.fdiv g=p:=by rw[k]; exact Zbw f
  have D:c.fdiv g=q:=by rw[h]; exact Zbw f
  rw[w,D] at o;rw[w];have u:=gcd_ne (a:=top) (b:=(g:Int)) f;obtain ⟨t,r,e,x,s⟩:=ZhC u;generalize hL:Int.gcd top g=l at *;have i:(l:Int)≠0:=⋯;have I:top.fdiv l=t:=by rw[e]; exact Zbw i
  have y:c=l*(r*q):=by rw[h,x]; ac_rfl
  have E:c.fdiv l=r*q:=by rw[y]; exact Zbw i
  rw[I,E];have A:0<p:=Zfc (show (0:Int)<g by omega) (by rw[<-k]; exact B);have J:0<r*q:=Zfc (show (0:Int)<l by omega) (by rw[<-y]; exact G);have v:Int.gcd top p=1:=by
    rw[o,Int.gcd_add_mul_right_left];exact Zcd (Zdp (a:=g) (by rw[<-k]; exact c1))<|Zdo j
  have z:Int.gcd top q=1:=by
    rw[o,Int.add_comm,Int.gcd_add_mul_right_left];exact Zcd (Zdp (a:=g) (by rw[<-h]; exact c2)) j
  rw[e] at v z;refine (u,Wa A J,ZbU (ZcY v)<|ZbU s<|ZcY z,?_);have F:m*c+n*d=g*(l*t):=by
    rw[<-e,o,Int.mul_add,k,h]
    congr 1 <;> ac_rfl
  rw[F,k,h];have C:(g:Int)*(l*t)*(p*(r*q))=g*t*p*q*(l*r):=by ac_rfl
  rw[C,<-x]
  ac_rfl
def times_ok{e d g c:Int}(B:0<d)(s:0<c)(c1:Int.gcd e d=1)(c2:Int.gcd g c=1) :
    0<d.fdiv (Int.gcd g d)*c.fdiv (Int.gcd e c) ∧
    Int.gcd (e.fdiv (Int.gcd e c)*g.fdiv (Int.gcd g d)) (d.fdiv (Int.gcd g d)*c.fdiv (Int.gcd e c))=1 ∧
    e.fdiv (Int.gcd e c)*g.fdiv (Int.gcd g d)*(d*c)=e*g*(d.fdiv (Int.gcd g d)*c.fdiv (Int.gcd e c)):=by
  have q:=gcd_ne (a:=e) (b:=c) ⋯;have t:=gcd_ne (a:=g) (b:=d) ⋯;obtain ⟨x,y,o,k,m⟩:=ZhC q;obtain ⟨z,w,n,j,l⟩:=ZhC t;generalize Int.gcd e c=f at *;generalize Int.gcd g d=r at *;have h:(f:Int)≠0:=⋯;have i:(r:Int)≠0:=⋯;have p:e.fdiv f=x:=by rw[o]; exact Zbw h
  have D:c.fdiv f=y:=by rw[k]; exact Zbw h
  have C:g.fdiv r=z:=by rw[n]; exact Zbw i
  have v:d.fdiv r=w:=by rw[j]; exact Zbw i
  rw[p,D,C,v];have u:=Zfc (show (0:Int)<f by omega) (by rw[<-k]; exact s);have A:=Zfc (show (0:Int)<r by omega) (by rw[<-j]; exact B);rw[o,j] at c1;rw[n,k] at c2;refine (Wa A u,Zcd (ZbU (Zdp<|ZcY c1) m)<|ZbU l<|Zdp<|ZcY c2,?_);rw[o,k,n,j]
  ac_rfl
def fdiv_le{a:Int}{g:Int}(h:g ∣ a)(b:g≠0):(a.fdiv g).natAbs<=a.natAbs:=by
 obtain ⟨x,rfl⟩:=h;rw[Zbw b];exact Zj0 g x b
end M3
namespace L2
open PySem PySem.Spec PyProof.Rows
structure XCls (K:ZZfg) (C:Addr):Prop where
 ga:PySem.W.findIn K (.ref C) "__getattribute__"=some (some (.builtin "BaseException.__getattribute__"))
 ha:PySem.W.findIn K (.ref C) "__getattr__"=some none
 cl:PySem.W.findIn K (.ref C) "__class__"=some (some (.builtin "object.__class__"))
 hn:PySem.W.specialIn K (.builtin "object.__class__") "__get__"=some (some (.builtin "getset_descriptor.__get__"))
 tk:PySem.W.takesIn K (.builtin "object.__class__")=some true
 ob:PySem.W.mroIn K C (.type "object")=some true
 be:PySem.W.mroIn K C (.type "BaseException")=some true
 hd:PySem.W.hasDictIn K C=true
section
variable{prog:Program}{w:World}{A:Around}{E:Value->Shared->Prop}{s:Shared}{K:ZZfg}{x C:Addr}{ox:Obj}{od:Option Obj}
def Zif{K:ZZfg}{C:Addr}{od:Option Obj}{a g:Value}(c:(PySem.W.clsIn K C).isSome=true)(e:PySem.W.findIn K (.ref C) b=some (some a))(d:PySem.W.specialIn K a "__get__" = some (some g)) (f:PySem.W.takesIn K a=some true) :
    PySem.W.findObj K C od b=some (.bind g a):=by
  obtain ⟨h,c⟩:=Option.isSome_iff_exists.mp c;unfold PySem.W.findObj;rw[c,Option.bind_some,e,Option.bind_some]
  simp[d,f]
def Zk4(c:XCls K C){f:Tok}{R:Result->Shared->Prop}(X:K.In s.heap)(I:PySem.W.InstAt s.heap x ox C od)(h:R (.ok<|.ret<|.ref C) s) :
    codeAny (model prog w) A (.call (.builtin "BaseException.__getattribute__") ([.ref x,.str "__class__" f],[])) R s:=by
  have g:PySem.W.findObj K C od "__class__" = some (.bind (.builtin "getset_descriptor.__get__")<|.builtin "object.__class__"):=Zif (by obtain ⟨q,k,_⟩:=PySem.W.any_some c.hd; rw[k]; rfl) c.cl c.hn c.tk;obtain ⟨e,j,d,t,l⟩:=s;have b:=I.type (M:=model prog w);have o:=PySem.W.looks_find (M:=model prog w) X I g;have i:PySem.W.Looks (model prog w) e (isInstance (.ref x)<|.type "BaseException") true:=b.andThen<|PySem.W.looks_mroIn X c.be;have p:=PySem.W.looks_mroIn (M:=model prog w) X c.be;refine codeAny_call_builtin F.excAttr_ValueError.ga.plain F.entry_bexc_ga ?_;have m:builtinKind "BaseException.__getattribute__" = some .slot:=by decide +kernel
  have a:splitId "BaseException.__getattribute__" = some ("BaseException", "__getattribute__"):=by decide +kernel
  have n:=F.args_bexc_ga (.ref x)<|.str "__class__" f
  simp only[checkBuiltinCall,m,a]
  refine wpAny_bind<|i.at ?_
  simp only[Bool.not_true,Bool.false_eq_true,if_false]
  refine wpAny_of_eq n ?_;refine wpAny_bind<|wpAny_pure<|wpAny_bind<|wpAny_pure<|wpAny_bind<|b.at<|wpAny_bind<|o.at ?_;show wpAny _ _ (holding [Value.builtin "object.__class__"] (call (.builtin "getset_descriptor.__get__") [.builtin "object.__class__", .ref x,.ref C]) >>= ret) _ _ _;exact wpAny_bind<|wpAny_holding<|wpAny_call<|PySem.W.class_get (s:=(e,j,d,t,l)) X I c.ob<|wpAny_pure h
def Zk5(c:XCls K C){Q:Option Value->Shared->Prop}(X:K.In s.heap)(I:PySem.W.InstAt s.heap x ox C od)(h:Q (some<|.ref C) { s with toks:=s.toks+1 }):wpAny (model prog w) A (getAttr? (.ref x) "__class__") Q E s:=by
 have e:=I.type (M:=model prog w);have f:=PySem.W.looks_findIn (M:=model prog w) X c.ga;have i:=PySem.W.looks_findIn (M:=model prog w) X c.ha;obtain ⟨b,g,d,t,a⟩:=s;unfold getAttr? getAttrBy? getAttrBy;refine wpAny_bind<|wpAny_mkText<|wpAny_bind<|wpAny_attempt<|wpAny_holding<|wpAny_bind<|e.at<|wpAny_bind<|f.at ?_;show wpAny _ _ (getAttrByItsOwn _ _ _ _ _ _) _ _ _;unfold getAttrByItsOwn;refine wpAny_bind<|i.at ?_;refine wpAny_bind<|wpAny_attempt<|wpAny_holding ?_;show wpAny _ _ (boundAndCalled _ _ _) _ _ _;unfold boundAndCalled;refine wpAny_bind<|wpAny_of_eq (F.excAttr_ValueError.ga.bind<|.ref x) ?_;refine wpAny_call<|Zk4 (s:=(b,g,d,t+1,a)) c X I ?_;exact PySem.W.handed_on rfl<|wpAny_pure h
def Zm0(c:XCls K C):PySem.W.KitX K (.ref x) (.ref C) (λh=>∃ox od,PySem.W.InstAt h x ox C od) where
 ty:=λ_ _ _ ⟨_,_,I⟩=>I.type
 it:=λ_ _ X _=>by
  obtain ⟨b,a,_⟩:=PySem.W.any_some c.hd;unfold PySem.W.clsIn at a
  split at a
  ·rename_i m l i d f
   intro r p y v k q;unfold isType loadHead;exact wpAny_bind<|wpAny_loadPart (k _ _<|X _ _ f)<|wpAny_pure q
  ·cases a
 ne:=λh o u j n t X g=>by
  obtain ⟨b,a,_⟩:=PySem.W.any_some c.hd;refine Bool.eq_false_iff.mpr λq=>?_;have e:C=o:=Value.ref.inj<|beq_iff_eq.mp q;subst e;unfold PySem.W.clsIn at a
  split at a
  ·rename_i m l i d f
   exact nomatch (X _ _ f).symm.trans g
  ·cases a
 ca:=λX ⟨_,_,I⟩ k=>Zk5 c X I k
end
def Tr(h B:Heap)(e:Addr)(c i:Value)(dd:Option Addr)(g:Value):Prop :=
 ∃a b T f d,h.get? e=some a/\a.cls=c/\a.dict=dd/\a.data = .fields b/\b[0]?=some i/\b[1]?=some (.ref T)/\B.get? T=none/\T≠e/\h.get? T=some f/\f.data = .fields d/\d[3]?=some g
def ZfN(o:Obj)(f):(o.mapFields f).dict=o.dict:=by
 obtain ⟨c,d,a,b⟩:=o
 cases a <;> rfl
def Zcv{h:Heap}{a:Addr}{o:Obj}{vs:Array Value}(f:Array Value->Array Value)(c:h.get? a=some o)(d:o.data = .fields vs):h.UpToSlots (h.update a<|Obj.mapFields f):=λb u e n =>
 (u.slots,by
  rw[Heap.get?_update_other _ _ λz=>by subst z;rw[c] at e;cases e;exact n vs d];exact e)
def Zd0{h h' B:Heap}(u:h.UpToSlots h')(f:h.FunFrames B l):h'.FunFrames B l:=f.of_keeps λb o e n=>let ⟨sl,q⟩:=u b o e n;(_,q,rfl)
section
variable{M:Model}{A:Around}{E:Value->Shared->Prop}{s:Shared}{B:Heap}{env:Env}{outer:List Env}{L e:Addr}{oe:Obj}{vs:Array Value}{cls a0:Value}{dd:Option Addr}{Q:Unit->Shared->Prop}
def ZhD(w:A.frames=some (env::outer))(r:s.heap.FunFrames B (env::outer))(I:env.frame=some L)(D:s.heap.get? e=some oe)(K:B.StaysIn s.heap)(J:B.get? e=none)(f:oe.data = .fields vs)
    (H:vs[0]?=some a0) (C:1<vs.size) (k:∀h',B.StaysIn h'->h'.FunFrames B (env::outer)->Tr h' B e oe.cls a0 oe.dict (rawInt L)->s.heap.UpToSlots h'->Q () { s with heap:=h' }) :
    wpAny M A (do let a ← frameOf env; let m ← entryPlaceOf L N; let b ← EntryCells.newEntry j a .none (rawInt L) .none m; setField (.ref e) 1 b) Q E s:=by
  have i:e∉(env::outer).filterMap (·.frame):=λv=>by
    obtain ⟨_,o,F,n⟩:=r.mem v;rw[D] at F; cases F; exact n vs f
  refine wpAny_bind<|wpAny_frameOf_fun w r I λd x=>wpAny_bind<|wpAny_entryPlaceOf λm u=>?_;have G:s.heap.UpToSlots d:=λb o q _=>x.2.2 b o q;have l:B.StaysIn d:=λb o q=>(x.2.1 b λv=>by rw[(r.mem v).1] at q; cases q).trans<|K b o q;have g:d.get? e=some oe:=(x.2.1 e i).trans D;unfold EntryCells.newEntry newFields;refine wpAny_bind<|wpAny_newObj_type ?_<|u.sizeOk5 _ _ _ _ _;generalize ht:([j,Value.ref L,.none,rawInt L,.none]++(if m.isEmpty then List.replicate 6 Value.none else m)).toArray=p;have t:p[3]?=some (rawInt L):=by rw[<-ht]; simp
  have c:=Heap.get?_push_of_some (h:=d) { cls:=.type "traceback", dict:=none,data:=.fields p } g;refine wpAny_setField c f C<|k _ ?_ ?_ ?_ ?_
  · intro b o q
    rw[Heap.get?_update_other _ _ λz=>by subst z; rw[J] at q; cases q];exact Heap.get?_push_of_some _<|l b o q
  · exact Zd0 ((G.trans<|.of_keeps λb o q=>Heap.get?_push_of_some _ q).trans<|Zcv _ c f) r
  · have y:d.objs.size≠e:=Us<|Heap.lt_size g
    refine (_,_,d.objs.size,{ cls:=.type "traceback", dict:=none,data:=.fields p },p,Heap.get?_update_self _ c<|Obj.isFreed_of_fields<|Obj.data_mapFields f _,Obj.cls_mapFields _ _,ZfN _ _,Obj.data_mapFields f _,?_,?_,l.fresh,y,?_,rfl,t)
    · rw[Array.getElem?_setIfInBounds_ne ∅]; exact H
    · simp[C]
    · rw[Heap.get?_update_other _ _<|Ne.symm y]
      exact Heap.get?_push_size d rfl
  · exact (G.trans<|.of_keeps λb o q=>Heap.get?_push_of_some _ q).trans (Zcv _ c f)
def Zj1(a:A.frames=some (env::outer))(h:s.heap.FunFrames B (env::outer))(c:env.frame=some L)(b:s.heap.get? e=some oe)(i:B.StaysIn s.heap)(j:B.get? e=none)(d:oe.data = .fields vs)
    (g:vs[0]?=some a0) (f:vs[1]?=some .none) (k:∀h',B.StaysIn h'->h'.FunFrames B (env::outer)->Tr h' B e oe.cls a0 oe.dict (rawInt L)->s.heap.UpToSlots h'->Q () { s with heap:=h' }) :
    wpAny M A (noteFrame (.ref e) env) Q E s:=by
  unfold noteFrame
  simp only[c]
  refine wpAny_bind<|wpAny_field b d f ?_;rw[if_neg ∅];exact ZhD a h c b i j d g (Array.getElem?_eq_some_iff.mp f).1 k
def Zk6(h:A.frames=some (env::outer))(x:s.heap.FunFrames B (env::outer))(j:env.frame=some L)(v:Tr s.heap B e cls a0 dd .none)(y:B.StaysIn s.heap)(w:B.get? e=none)
    (k:∀h',B.StaysIn h'->h'.FunFrames B (env::outer)->Tr h' B e cls a0 dd (rawInt L)->s.heap.UpToSlots h'->Q () { s with heap:=h' }):wpAny M A (noteFrame (.ref e) env) Q E s:=by
  obtain ⟨oe,vs,T,D,C,m,rfl,rfl,l,r,n,t,i,g,f,p⟩:=v;unfold noteFrame
  simp only[j]
  refine wpAny_bind<|wpAny_field m l n ?_;rw[if_pos (show (Value.ref T != Value.none)=true from by simp)];refine wpAny_bind<|wpAny_field g f p ?_;rw[if_neg (show ¬((Value.none==rawInt L)=true) from by simp[rawInt])];have u:=Zcv (·.setIfInBounds 3 Value.none) g f;refine wpAny_bind<|wpAny_setField g f (Array.getElem?_eq_some_iff.mp p).1<|ZhD (s:={ s with heap:=s.heap.update T (Obj.mapFields (·.setIfInBounds 3 Value.none)) }) h (Zd0 u x) j (by rw[Heap.get?_update_other _ _ i]; exact m) (λb o q=>?_) w l r (Array.getElem?_eq_some_iff.mp n).1 λh' a b c d=>k h' a b c<|u.trans d;rw[Heap.get?_update_other _ _ λz=>by subst z; rw[t] at q; cases q];exact y b o q
def Zm1(v:s.heap.FunFrames B l)(r:Tr s.heap B e cls a0 dd h)(w:B.StaysIn s.heap)
    (k:∀h',B.StaysIn h'->h'.FunFrames B l->Tr h' B e cls a0 dd .none->s.heap.UpToSlots h'->Q () { s with heap:=h' }):wpAny M A (setFlight (.ref e) none) Q E s:=by
  obtain ⟨oe,vs,T,y,t,m,rfl,rfl,i,p,n,j,d,g,a,x⟩:=r;have c:3<t.size:=(Array.getElem?_eq_some_iff.mp x).1;have u:=Zcv (·.setIfInBounds 3 ((none:Option Addr).elim Value.none λf=>rawInt f)) g a;unfold setFlight;refine wpAny_bind<|wpAny_field m i n ?_;rw[if_pos (show (Value.ref T != Value.none)=true from by simp)];refine wpAny_setField g a c<|k _ (λb o q=>?_) (Zd0 u v) (oe,vs,T,_,_,?_,rfl,rfl,i,p,n,j,d,Heap.get?_update_self _ g<|Obj.isFreed_of_fields<|Obj.data_mapFields a _,Obj.data_mapFields a _,by simp[c]) u
  · rw[Heap.get?_update_other _ _ λz=>by subst z; rw[j] at q; cases q]
    exact w b o q
  · rw[Heap.get?_update_other _ _ d]; exact m
end
structure Air (P:Program) (w:World) (B:Heap) (l:List Env) (H:Hp) (h:Heap) (e t:Addr) (cls:Value) (dd:Option Addr) (fl:Value):Prop where
 hok:HOk P w H h
 st:B.StaysIn h
 nb:B.get? e=none
 fr:h.FunFrames B l
 tr:Tr h B e cls (.ref t) dd fl
 tk:∀b u,H b=some u->∃o,B.get? b=some o
def Air.free{e t:Addr}(a:Air P w B l H h e t b dd c):H e=none:=by
 cases q:H e with
 |none=>rfl
 |some u=>obtain ⟨o,z⟩:=a.tk e u q;rw[a.nb] at z;cases z
def Zk7{B:Heap}(x:HOk P w H h)(i:B.StaysIn h)(c:B.StaysIn h')(g:∀b u,H b=some u->∃o,B.get? b=some o):HOk P w H h':=λa o e =>
 (x a o e).stay (λb u hb q=>by
  have:∃v,H b=some v:=by
   rcases hb with rfl|hb
   ·exact (o,e)
   ·exact (_,hb)
  obtain ⟨v,f⟩:=this;obtain ⟨d,z⟩:=g b v f;have j:=(i b d z).symm.trans q
  cases j
  exact c b _ z) (λ_ q=>q) λ_ _ q=>q
def CXx(P:Program)(w:World):CXT:=λa H s E h d =>
 ∃(e t:Addr) (c:Value) (g:Option Addr) (f:Hp) (B:Heap),h = .ref e/\d.os=s.os/\AllBare d.gens/\Un (frs a) [] H f s.heap d.heap/\Air P w B a f d.heap e t c g .none ∧
  (∀b o,s.heap.get? b=some o->H b=none->b∉frs a->B.get? b=some o)/\(∀b o,s.heap.get? b=some o->b∉frs a->∃i,B.get? b=some i)/\E c g f
section
variable{M:Model}{A:Around}{E:Value->Shared->Prop}{s:Shared}{P:Program}{w:World}{B:Heap}{env:Env}{outer:List Env}{H:Hp}{L e t:Addr}{cls:Value}{dd:Option Addr}{fl:Value}{Q:Unit->Shared->Prop}{B0:Heap}
def Air.note(a:Air P w B (env::outer) H s.heap e t cls dd .none)(b:A.frames=some (env::outer))(d:env.frame=some L)(k:∀h',Air P w B (env::outer) H h' e t cls dd (rawInt L)->s.heap.UpToSlots h'->Q () { s with heap:=h' }) :
    wpAny M A (noteFrame (.ref e) env) Q E s :=
  Zk6 b a.fr d a.tr a.st a.nb λh' c h f g=>k h' (Zk7 a.hok a.st c a.tk,c,a.nb,h,f,a.tk) g
def Air.off(a:Air P w B l H s.heap e t cls dd fl)(k:∀h',Air P w B l H h' e t cls dd .none->s.heap.UpToSlots h'->Q () { s with heap:=h' }):wpAny M A (setFlight (.ref e) none) Q E s :=
 Zm1 a.fr a.tr a.st λh' b f c d=>k h' (Zk7 a.hok a.st b a.tk,b,a.nb,f,c,a.tk) d
def Air.leave(a:Air P w B (env::outer) H s.heap e t cls dd .none)(c:A.frames=some (env::outer))(d:env.frame=some L)(k:∀h',Air P w B outer H h' e t cls dd .none->s.heap.UpToSlots h'->Q () { s with heap:=h' }) :
    wpAny M A (leaving env<|.ref e) Q E s:=by
  unfold leaving;refine wpAny_bind<|a.note c d λg f h=>?_;refine Air.off (s:={ s with heap:=g }) f λi b l=>?_;obtain ⟨_,_,j⟩:=b.fr;exact k i (b.hok,b.st,b.nb,j,b.tr,b.tk)<|h.trans l
def Zpj{c:Heap}(d:HOk P w H c)(j:c.FunFrames B0 (env::outer))(g:Heap.MadeExcOf c s.heap e cls vs)(J:∀b∈frs (env::outer),H b=none)(i:A.frames=some (env::outer))(D:env.frame=some L)
    (k:∀h' t,Air P w (PySem.W.hideAll c<|frs (env::outer)) (env::outer) H h' e t cls none (rawInt L)->c.UpToSlots h'->Q () { s with heap:=h' }):wpAny M A (noteFrame (.ref e) env) Q E s:=by
  obtain ⟨t,T,_,_⟩:=g.there;have st0:(PySem.W.hideAll c<|frs (env::outer)).StaysIn c:=λb o q=>PySem.W.of_hideAll _ q;have I:(PySem.W.hideAll c<|frs (env::outer)).StaysIn s.heap:=λb o q=>g.keeps b o<|st0 b o q;have r:∀b u,H b=some u->∃o,(PySem.W.hideAll c<|frs (env::outer)).get? b=some o:=λb u q=>by
    have W:=d.lt q;obtain ⟨o,ho⟩:∃o,c.get? b=some o:=by
      have x:=d b u q
      cases u with
      | lst U=>obtain ⟨_,_,_,_,z⟩:=x; exact (_,z)
      | tup U=>obtain ⟨_,_,_,o,z,_⟩:=x; exact (_,z)
      | dK l=>obtain ⟨_,_,_,_,o,_,_,z,_⟩:=x; exact (_,z)
      | dT l=>obtain ⟨_,_,_,_,o,_,_,z,_⟩:=x; exact (_,z)
      | set S n=>obtain ⟨o,_,_,_,z,_⟩:=x; exact (_,z)
      | ins C X F=>obtain ⟨_,_,_,z,_⟩:=x; exact (_,z)
      | own y=>obtain ⟨_,z⟩:=x; exact (_,z)
      | xd F=>obtain ⟨_,⟨_,_,_,z,_⟩,_⟩:=x; exact (_,z)
      | rng lo Y=>obtain ⟨_,_,_,z⟩:=x; exact (_,z)
      | frz ob v=>obtain ⟨z,_⟩:=x; exact (_,z)
      | tbl Z=>exact Or.elim x (λz=>(_,z)) λ⟨_,_,_,_,_,_,_,_,_,z,_⟩=>(_,z)
      | met f y=>exact (_,(show c.get? b=some _ from x))
      | ext φ=>obtain ⟨_,⟨_,z⟩,_⟩:=x; exact (_,z)
    exact (o,PySem.W.hideAll_get _ ho λg=>by rw[J b g] at q; cases q)
  have p:(PySem.W.hideAll c<|frs (env::outer)).get? e=none:=by
    cases q:(PySem.W.hideAll c<|frs (env::outer)).get? e with
    | none=>rfl
    | some o=>have:=st0 e o q; rw[g.new] at this; cases this
  have m:c.FunFrames (PySem.W.hideAll c<|frs (env::outer)) (env::outer):=PySem.W.funFrames_hide j λx G a N=>List.mem_filterMap.mpr (x,G,N);refine Zj1 i (Zd0 (.of_keeps g.keeps) m) D T I p rfl rfl rfl λh' h R O K=>?_;exact k h' t (Zk7 d st0 h r,h,p,R,O,r)<|(Heap.UpToSlots.of_keeps g.keeps).trans K
end
def Zk8{env:Env}{a:List Env}{L b:Addr}(c:env.frame=some L):b∈frs (env::a)↔b=L\/b∈frs a:=by
 unfold frs;rw[Ur,c,Qe]
section
variable{X:Cx}{pins:List (Addr×Obj)}{σ:St}{H1 H2:Hp}{s1:Shared}{B h2 h3:Heap}
def Zig(U:Un (frs X.stack) [] H1 H2 s1.heap h2)(l:h2.FunFrames B X.stack)(p:h2.UpToSlots h3)(m:B.StaysIn h3)(i:∀b o,s1.heap.get? b=some o->H1 b=none->b∉frs X.stack->B.get? b=some o)
    (h:∀b o,s1.heap.get? b=some o->b∉frs X.stack->∃c,B.get? b=some c):Un (frs X.stack) [] H1 H2 s1.heap h3 where
  keep:=λb o q n a _=>m b o<|i b o q n a
  slot:=λb o q n a k=>by
    obtain ⟨r,e⟩:=U.slot b o q n a k;obtain ⟨_,c,d,g⟩:=l.mem a;rw[e] at d
    cases d
    obtain ⟨f,j⟩:=p b _ e g;exact (f,j)
  free:=U.free
  there:=λb o q k=>by
    by_cases a:b∈frs X.stack
    · obtain ⟨_,c,d,g⟩:=l.mem a
      obtain ⟨r,j⟩:=p b _ d g;exact (_,j)
    · obtain ⟨c,z⟩:=h b o q a
      exact (c,m b c z)
  tups:=U.tups
  frzs:=U.frzs
  tbls:=U.tbls
def Zk9(I:Inv X pins σ H1 s1)(a:X.ex=[])(l:X.stack=X.env::X.outer)(k:X.env.frame=some X.env.locals)(U:Un (frs X.stack) [] H1 H2 s1.heap h2)(s:h2.FunFrames B X.stack)(x:h2.UpToSlots h3)(w:B.StaysIn h3)
    (h:∀b o,s1.heap.get? b=some o->H1 b=none->b∉frs X.stack->B.get? b=some o) (g:∀b o,s1.heap.get? b=some o->b∉frs X.stack->∃f,B.get? b=some f) :
    Un X.fs [] X.H₀ H2 X.s₀.heap h3/\(∀b o,X.s₀.heap.get? b=some o->X.H₀ b=none->b∉X.fs->B.get? b=some o)/\∀b o,X.s₀.heap.get? b=some o->b∉X.fs->∃f,B.get? b=some f:=by
  have V:=Zig U s x w h g;have d:Un X.fs [] X.H₀ H1 X.s₀.heap s1.heap:=by have:=I.base; rw[a] at this; exact this
  have t:∀b o,X.s₀.heap.get? b=some o->b≠X.env.locals:=λb o q z=>by
    subst z;exact absurd (Qa (Heap.lt_size q) I.ok.above)<|W0 _
  have i:∀b o,X.s₀.heap.get? b=some o->b∉X.fs->b∉frs X.stack:=λb o q c z=>by
    rw[l] at z;rcases (Zk8 k).mp z with e | e
    · exact t b o q e
    · exact c e
  have sub:∀b,b∈X.fs->b∈frs X.stack:=λb c=>by rw[l]; exact (Zk8 k).mpr<|.inr c
  refine ((λb o q n c a=>?_,λb o q n c a=>?_,λb o q n a=>?_,λb o q a=>?_,λb m q=>V.tups b m<|d.tups b m q,λb o u q=>V.frzs b o u<|d.frzs b o u q,λb C q=>?_),λb o q n c=>?_,λb o q c=>?_)
  · exact V.keep b o (d.keep b o q n c a) (d.free b o q n a) (i b o q c) a
  · obtain ⟨D,e⟩:=d.slot b o q n c a
    obtain ⟨j,r⟩:=V.slot b _ e (d.free b o q n a) (sub b c) a;exact (j,r)
  · obtain ⟨f,e⟩:=d.there b o q a
    exact V.free b f e (d.free b o q n a) a
  · obtain ⟨f,e⟩:=d.there b o q a
    exact V.there b f e a
  · obtain ⟨A,p⟩:=d.tbls b C q
    obtain ⟨v,y⟩:=V.tbls b _ p;exact (A++v,by rw[y,Array.append_assoc])
  · exact h b o (d.keep b o q n c (by simp)) (d.free b o q n (by simp)) (i b o q c)
  · obtain ⟨f,e⟩:=d.there b o q (by simp)
    exact g b f e<|i b o q c
end
section
variable{P:Program}{w:World}{K:ZZfg}{mg:ZZmg}{base:Heap}{N:List Str}{qual:Str}{scope:Scope}{f:Addr}{cd:Value}{A:Around}{outer:List Env}{s:Shared}{H:Hp}{E:XK}
abbrev cxX(P:Program)(w:World)(K:ZZfg)(mg:ZZmg)(base:Heap)(N:List Str)(qual:Str)(scope:Scope)(f:Addr)(cd:Value)(A:Around)(outer:List Env)(s:Shared)(H:Hp)(E:XK):Cx :=
 Zo9 (CXx P w) P w K mg base N qual scope f cd A outer s H E
def Zih(X:Cx)(E:St->XK):Prop:=∀(a:List (Addr×Obj)) (b:St) (H:Hp) (s:Shared) (e:Value) (c:Shared),Inv X a b H s->CXx X.prog X.w X.stack H s (E b) e c->X.xe e c
def Zpk:Zih (cxX P w K mg base N qual scope f cd A outer s H E) λ_=>E:=by
 intro j x z y D v I h;obtain ⟨e,t,g,m,p,B,rfl,l,b,U,a,i,d,q⟩:=h;show wpAny (model P w) (A.deeper<|envOfC qual scope s.heap.objs.size f cd) (leaving (envOfC qual scope s.heap.objs.size f cd)<|.ref e) _ _ v;have c:=I.ok.frames;refine Air.leave (L:=s.heap.objs.size) a c rfl λC k r=>?_;obtain ⟨u,n,o⟩:=Zk9 I rfl rfl rfl U a.fr r k.st i d;exact (e,t,g,m,p,B,rfl,l.trans I.os,b,u,k,n,o,q)
def Zla:Zih X λ_=>E0:=λ_ _ _ _ _ _ _ ⟨_,_,_,_,_,_,_,_,_,_,_,_,_,q⟩=>q.elim
def Zlb(X:Cx)(E:XK):Prop:=∀(a:List (Addr×Obj)) (d:St) (H:Hp) (s:Shared) (c:Heap) (e:Addr) (b:Value) (g:List Value),Inv X a d H s->Heap.MadeExcOf s.heap c e b g->E b none H->X.xe (.ref e) { s with heap:=c }
def ZhE:Zlb (cxX P w K mg base N qual scope f cd A outer s H E) E:=by
 intro k J B d z e i L I r q;show wpAny (model P w) (A.deeper<|envOfC qual scope s.heap.objs.size f cd) (leaving (envOfC qual scope s.heap.objs.size f cd)<|.ref e) _ _ _;have h:=I.ok.frames;unfold leaving;refine wpAny_bind<|Zpj (s:={ d with heap:=z }) I.hok I.stack r I.stkFree h rfl λn t l D=>?_;refine Air.off (s:={ d with heap:=n }) l λG c F=>?_;obtain ⟨_,_,p⟩:=c.fr;have j:d.heap.FunFrames (PySem.W.hideAll d.heap<|frs (cxX P w K mg base N qual scope f cd A outer s H E).stack) (cxX P w K mg base N qual scope f cd A outer s H E).stack:=PySem.W.funFrames_hide I.stack λx m a C=>List.mem_filterMap.mpr (x,m,C);obtain ⟨u,v,y⟩:=Zk9 I rfl rfl rfl .refl j (D.trans F) c.st (λb o e _ g=>PySem.W.hideAll_get _ e g)<|λb o e g=>(o,PySem.W.hideAll_get _ e g);exact (e,t,i,none,B,_,rfl,I.os,I.bare,u,(c.hok,c.st,c.nb,p,c.tr,c.tk),v,y,q)
def FnOk.toX{f:Addr}(F:FnOk P w K mg base CX0 k f b ps sp):FnOk P w K mg base (CXx P w) k f b ps sp :=
 (F.len,λA outer s H a d l Q E g i c j h=>codeAny_mono (F.run A outer s H a d l Q E g i c j h) λr n q=>by
  cases r with
  |error e=>exact False.elim q
  |ok m=>cases m <;> exact q)
def Fun.okx{x qual:Str}{f:Addr}{N ps:List Str}{sp:Sp}(F:Fun K x qual c f h)(S:FnScope N ps (Zab c))(e:∀vs H Q E,sp vs H Q E->vs.length=ps.length)
    (b:∀(a:Value) (A:Around) (outer:List Env) (s:Shared) (H:Hp) (vs:List V) (Q:VK) (E:XK),Room k (A.deeper<|envOfC qual (Zab c) s.heap.objs.size f a)->sp vs H Q E →
      ∃t,PSs (cxX P w K mg base N qual (Zab c) f a A outer s H E) (ZaW c) t/\t { nx:=λ_ m=>Q .non m,rt:=Q } (start N vs) H):FnOk P w K mg base (CXx P w) (k+1) f h ps sp:=by
  obtain ⟨r,q,kV,n,u,o,a,p,l,rfl,i,g⟩:=F.ex;exact fn_of i g S e λA outer s H vs Q E j d=>b a A outer s H vs Q E j d
end
structure HasX (P:Program) (w:World) (K:ZZfg) (mg:ZZmg) (base:Heap) (x:Str) (k:Nat) (ps:List Str) (sp:Sp):Prop where
 ex:∃(f:Addr) (fd:FuncData),FnOk P w K mg base (CXx P w) k f fd ps sp/\mg x=some (.ref f)/\PySem.W.keepIn K (.ref f)=true/\Binds K fd ps []
structure HasMX (P:Program) (w:World) (K:ZZfg) (mg:ZZmg) (base:Heap) (C:Addr) (m:Str) (k:Nat) (ps:List Str) (dvs:List V) (sp:Sp):Prop where
 ex:∃(f:Addr) (fd:FuncData) (ds:List Value),FnOk P w K mg base (CXx P w) k f fd ps sp/\Meth K C m f/\Binds K fd ps ds/\Vals dvs ds
section
variable{P:Program}{w:World}{K:ZZfg}{mg:ZZmg}{base:Heap}{x m qual:Str}{C:Addr}{st:Stmt}{j k:Nat}{ps:List Str}{dvs:List V}{sp:Sp}
def Has.toX(h:Has P w K mg base x k ps sp):HasX P w K mg base x k ps sp:=let ⟨f,fd,a,b,c,d⟩:=h.ex;(f,fd,a.toX,b,c,d)
def HasM.toX(h:HasM P w K mg base C m k ps dvs sp):HasMX P w K mg base C m k ps dvs sp:=let ⟨f,fd,ds,a,b,c,d⟩:=h.ex;(f,fd,ds,a.toX,b,c,d)
def HasX.mono(h:HasX P w K mg base x j ps sp)(e:j<=k):HasX P w K mg base x k ps sp:=let ⟨f,fd,a,b,c,d⟩:=h.ex;(f,fd,a.mono e,b,c,d)
def HasMX.mono(h:HasMX P w K mg base C m j ps dvs sp)(e:j<=k):HasMX P w K mg base C m k ps dvs sp:=let ⟨f,fd,ds,a,b,c,d⟩:=h.ex;(f,fd,ds,a.mono e,b,c,d)
def Here.hasX(h:Here K mg x st)(b:∀f a,Fun K x x st f a->Binds K a ps [])(c:∀f a,Fun K x x st f a->FnOk P w K mg base (CXx P w) k f a ps sp):HasX P w K mg base x k ps sp :=
 let ⟨f,a,F,m⟩:=h.ex
 (f,a,c f a F,m,F.kp,b f a F)
def HereM.hasMX(h:HereM K C m qual st)(b:∀f a,Fun K m qual st f a->Binds K a ps [])(c:∀f a,Fun K m qual st f a->FnOk P w K mg base (CXx P w) k f a ps sp):HasMX P w K mg base C m k ps [] sp :=
 let ⟨f,a,F,M⟩:=h.ex
 (f,a,[],c f a F,M,b f a F,.nil)
end
section
variable{X:Cx}{k:Nat}{f C:Addr}{fd:FuncData}{ps:List Str}{sp:Sp}{dvs:List V}{ds:List Value}{E:St->XK}{x m:Str}{p pos apos:Pos}{e o:Expr}{es:List Expr}{ta:TE}{t:TA}
def Zlc(F:FnOk X.prog X.w X.K X.mg X.base (CXx X.prog X.w) k f fd ps sp)(hr:Room k X.A)(n:Binds X.K fd ps ds)(l:Vals dvs ds)(g:Zih X E)
    (I:Inv X a b H s) (r:Vals vs us) (h:sp (vs++dvs) H Q (E b)):wpAny (model X.prog X.w) X.A (call (.ref f) us) (EP X a b Q) X.xe s:=by
  have d:Vals (vs++dvs) (us++ds):=r.append l;have i:(us++ds).length=ps.length:=by rw[<-d.length]; exact F.len _ _ _ _ h
  refine wpAny_call<|codeAny_mono (F.run X.A X.stack s H (us,[]) (us++ds) (vs++dvs) Q (E b) hr I.env0 (n s us I.kIn i) d h) λr q c=>?_
  cases r with
  | error e=>exact g a b H s e q I c
  | ok j =>
    cases j with
    | ret u=>exact I.after c
    | next=>exact False.elim c
    | brk=>exact False.elim c
    | cont=>exact False.elim c
def Zeg(h:HasX X.prog X.w X.K X.mg X.base x k ps sp)(l:Zih X E)(hr:Room k X.A)(u:Gl X x)(y:PA X (e::es) t)(c:(x==("__debug__" : Str))=false:=by decide)
    (v:starEach (e::es) X.env=(false,eval e X.env)::starEach es X.env:=by rfl) (d:(backTo pos<|starEach es X.env).any (·.1)=false:=by rfl) :
    PE X (.Call (.Name x p) (e::es) [] pos) (λb H Q=>t b H λvs i=>sp vs i Q<|E b):=by
  obtain ⟨f,fd,F,n,w,j⟩:=h.ex;intro a s b H Q I h;refine wpAny_Call_Name_kw<|ZcV I u n ?_ c;refine PySem.W.callWith_K (h₀:=X.base) I.ok.mod.kin w (thn (y pos a s b H _ I h) λz A ⟨vs,i,g,r,q⟩=>(g.kIn,?_)) v d;exact Zlc (dvs:=[]) F hr j .nil l g r (by rw[Wp]; exact q)
inductive Zld (P:Program) (w:World) (K:ZZfg) (mg:ZZmg) (base:Heap) (m:Str) (k:Nat) (x:V) (H1:Hp) (R:List V->Sp->Prop):Prop
 |mk (a C:Addr) (dx:_) (fs:_) (ps:List Str) (dvs:List V) (sp:Sp) (_:x = .ref a) (_:H1 a=some (.ins C dx fs)) (_:Cls K C) (_:HasMX P w K mg base C m k ps dvs sp) (_:fs.lookup m=none) (_:R dvs sp):Zld P w K mg base m k x H1 R
def ZqQ(P:Program)(w:World)(K:ZZfg)(mg:ZZmg)(base:Heap)(m:Str)(k:Nat)(E:St->XK)(ta:TE)(t:TA):TE:=λa H Q=>ta a H λx b=>Zld P w K mg base m k x b λdvs sp=>t a b λc d=>sp (x::(c++dvs)) d Q<|E a
def Zgp(M:PE X o ta)(w:Zih X E)(hr:Room k X.A)(G:PA X (e::es) t)
    (d:starEach (e::es) X.env=(false,eval e X.env)::starEach es X.env:=by rfl) (g:(backTo pos<|starEach es X.env).any (·.1)=false:=by rfl)
    (L:eval (.Call (.Attribute o m apos) (e::es) [] pos) X.env=(do
      let ov ← eval o X.env
      standAt apos.atName
      let (f,first) ← holding [ov] (getMethod ov m pl)
      callWith pos f first (backTo pos<|starEach (e::es) X.env) (backToKw pos<|keywordEach [] X.env)):=by rfl) :
    PE X (.Call (.Attribute o m apos) (e::es) [] pos) (ZqQ X.prog X.w X.K X.mg X.base m k E ta t):=by
  intro b s i H Q I h;refine PySem.W.methodCall_KW (pl:=pl) (thn (M b s i H _ I h) λu O ⟨x,D,j,z,a,C,R,P,ps,dvs,sp,N,y,c,B,l,q⟩=>?_) L;subst N;obtain rfl:u=Value.ref a:=z;obtain ⟨f,fd,ds,F,n,K,J⟩:=B.ex;refine Zf1 j y c n l ?_;refine PySem.W.callWith_K (first:=[.ref a]) (h₀:=X.base) I.ok.mod.kin n.kp (thn (G pos b O i D _ j q) λus S ⟨vs,T,v,r,A⟩=>(v.kIn,?_)) d g;exact Zlc (us:=.ref a::us) (vs:=.ref a::vs) F hr K J w v (.cons rfl r) A
end
abbrev bmV:List Value:=[.type "ValueError", .type "Exception", .type "BaseException", .type "object"]
structure ExcC (K:ZZfg) (mg:ZZmg) (x:Str) (C:Addr):Prop where
 cls:XCls K C
 mgx:mg x=some (.ref C)
 ein:PySem.W.excIn K C bmV "ValueError.__new__"=true
def ExcC.obj{K:ZZfg}(c:ExcC K mg x C){h:Heap}(X:K.In h):OwnCls x C bmV "ValueError.__new__" mg h:=by
 refine (c.mgx,?_);have q:=c.ein;unfold PySem.W.excIn at q
 split at q
 ·rename_i w t s G
  split at q
  ·rename_i I A g k j f n i m u
   simp only[Bool.and_eq_true,beq_iff_eq,Bool.not_eq_true'] at q
   obtain ⟨⟨⟨⟨⟨rfl,rfl⟩,a⟩,F⟩,b⟩,d⟩:=q;obtain ⟨p,r,D,H,o,B,y,sub,E,e,z⟩:=t
   dsimp only at m a b d
   subst m a;obtain ⟨l⟩:=s;have v:l=[g,k,j,f,some<|.builtin "ValueError.__new__",i]:=u;subst v;exact (A,H,p,o,r,B,y,sub,E,e,w,g,k,j,f,i,_,X _ _ G,.of_isNs<|PySem.W.isNs_of_in X b,PySem.W.nsMap_none_of_in X b d,PySem.W.tail_of_in X F)
  ·cases q
 ·cases q
section
variable{X:Cx}{k:Nat}{C:Addr}{ps:List Str}{sp:Sp}{x m:Str}{p pos np cpos:Pos}{e:Expr}{es:List Expr}{t:TA}
def Zd1(c:ExcC X.K X.mg x C)(G:Zlb X E)(b:X.calm=true)(K:Gl X x)(B:PA X (e::es) t)(P:(e::es).length<=1000:=by decide)
    (l:starEach (e::es) X.env=(false,eval e X.env)::starEach es X.env:=by rfl) (j:(backTo cpos<|starEach es X.env).any (·.1)=false:=by rfl) (g:(x==("__debug__" : Str))=false:=by decide) :
    PS X (.Raise (some<|.Call (.Name x np) (e::es) [] cpos) none pos) (λ_ d H=>t d H λvs A=>vs.length<=1000/\E (.ref C) none A):=by
  intro a s d H D I h;obtain ⟨bm,N,nm,q,bs,hdct,sn,sub,ab,col,dd,k0,k1,k2,k3,k5,mN,u,n,i,T⟩:=(c.obj I.mod.kin).obj;refine wpAny_Raise_call_subT (C:=C) (nm:=nm) (q:=q) (N:=N) (bs:=bs) (bm:=bm) (hdct:=hdct) (sn:=sn) (sub:=sub) (ab:=ab) (col:=col) (dd:=dd) (k0:=k0) (k1:=k1) (k2:=k2) (k3:=k3) (k5:=k5) PySem.F.excBase_ValueError
    (mN:=mN) (T.hasType PySem.F.excBase_ValueError.hasBase) (I.ok.hd b) (by rw[l]; show (false||(backTo cpos<|starEach es X.env).any (·.1))=false; rw[j]; rfl) i (ZcV I K c.mgx (rfl,?_) g)
  have z:=B cpos a s d H _ I h;rw[l] at z ⊢;refine Calls.evalArgs_plain<|wpAny_mono z (λO F ⟨vs,M,f,r,L,v⟩=>(rfl,?_,f.bk _ _ u,n.keeps f.bk,T.keeps f.bk,λw o J=>G a d M F w o _ _ f J v)) λ_ _ y=>y;rw[<-r.length];exact Wl<|Zba L
end
def Zpl(e C:Addr)(dd:Option Addr):HO:=.ext λh=>∃a b,h.get? e=some a/\a.cls = .ref C/\a.dict=dd/\a.data = .fields b
section
variable{X:Cx}{pins:List (Addr×Obj)}{σ σ1:St}{H H1:Hp}{s s1:Shared}{e C:Addr}{dd:Option Addr}
def Inv.track(I:Inv X pins σ H s)(l:Inv X pins σ1 H1 s1)(A:s1.heap.get? e=none)(B:H e=none){h:Obj}{vs:Array Value}(w:s.heap.get? e=some h)(J:h.cls = .ref C)(F:h.dict=dd)(L:h.data = .fields vs):Inv X pins σ (upd H e<|Zpl e C dd) s:=by
 have i:∀b u,H b=some u->b≠e:=λb u q z=>by subst z;rw[B] at q;cases q
 have j:∀b o,s1.heap.get? b=some o->b≠e:=λb o q z=>by subst z;rw[A] at q;cases q
 have g:=I.base;refine (I.ok,I.os,I.bare,(g.keep,g.slot,λb o q n r=>?_,g.there,λb y q=>?_,λb o u q=>?_,λb E q=>?_),I.loc,I.cell,?_,λx c q=>?_,λp t=>?_,λb u q=>?_,I.len)
 ·obtain ⟨D,z⟩:=l.base.there b o q r;rw[Zaj<|j b D z];exact g.free b o q n r
 ·have z:=g.tups b y q;rw[Zaj<|i b _ z];exact z
 ·have z:=g.frzs b o u q;rw[Zaj<|i b _ z];exact z
 ·obtain ⟨m,z⟩:=g.tbls b E q;exact (m,by rw[Zaj<|i b _ z];exact z)
 ·obtain ⟨m,⟨o,M,P,z,_⟩,_⟩:=l.loc;rw[Zaj<|j _ o z];exact I.free
 ·obtain ⟨v,o,z,_⟩:=l.cell x c q;rw[Zaj<|j _ o z];exact I.freeC x c q
 ·obtain ⟨a,b,c,d,f⟩:=I.pin p t;exact (a,by rw[Zaj<|j _ _ (l.pin p t).1];exact b,c,d,f)
 ·by_cases hb:b=e
  ·subst hb;rw[Zai] at q
   cases q
   refine ((h,vs,w,J,F,L),(h,w),λN O=>?_);rintro ⟨K,G,a,b,c,d⟩ k;exact (K,G,k _ a,b,c,d)
  ·rw[Zaj hb] at q;exact (I.hok b u q).stay (λc v _ z=>z) (λc z=>by rw[Zaj<|i c _ z];exact z) λc y z=>by rw[Zaj<|i c _ z];exact z
def Cx.suite(X:Cx)(e:Addr):Cx:={ X with A:=X.A.mark<|some<|.ref e,calm:=false,xe:=λ_ _=>False }
def Inv.suite(I:Inv X pins σ H s)(e:Addr):Inv (X.suite e) pins σ H s :=
 ((I.ok.mod,I.ok.kind,I.ok.glob,I.ok.blt,I.ok.above,I.ok.inj,I.ok.has,I.ok.cab,(λz=>nomatch z),I.ok.frames,I.ok.stk,I.ok.exf,I.ok.bs,I.ok.bsz,I.ok.noex,I.ok.exfs,I.ok.funs,I.ok.frf),I.os,I.bare,I.base,I.loc,I.cell,I.free,I.freeC,I.pin,I.hok,I.len)
def Inv.unsuite(a:X.Ok)(I:Inv (X.suite e) pins σ H s):Inv X pins σ H s:=(a,I.os,I.bare,I.base,I.loc,I.cell,I.free,I.freeC,I.pin,I.hok,I.len)
abbrev Cx.tryB(X:Cx)(pn:List (Addr×Obj))(xe:Value->Shared->Prop):Cx:={ X with pn:=pn,xe:=xe }
def Inv.tryB(I:Inv X pins σ H s)(b:Value->Shared->Prop):Inv (X.tryB (X.pn++pins) b) [] σ H s :=
 ((I.ok.mod,I.ok.kind,I.ok.glob,I.ok.blt,I.ok.above,I.ok.inj,I.ok.has,I.ok.cab,I.ok.hd,I.ok.frames,I.ok.stk,I.ok.exf,I.ok.bs,I.ok.bsz,I.ok.noex,I.ok.exfs,I.ok.funs,I.ok.frf),I.os,I.bare,I.base,I.loc,I.cell,I.free,I.freeC,λp a=>I.pin p (by rw[Wp] at a;exact a),I.hok,I.len)
def Inv.untryB{pins':List (Addr×Obj)}(c:X.Ok)(I:Inv (X.tryB (X.pn++pins) a) pins' σ H s):Inv X pins σ H s :=
 (c,I.os,I.bare,I.base,I.loc,I.cell,I.free,I.freeC,λp b=>I.pin p<|List.mem_append_left _ b,I.hok,I.len)
def Inv.drop{i:Nat}{n:Str}{h':Heap}{t':Nat}(I:Inv X pins σ H s)(J:X.N.Nodup)(E:X.N[i]?=some n)(S:s.heap.Ns X.env.locals m)
    (L:∀(j:Nat) (x:Str) (u:V),X.N[j]?=some x->σ[j]?=some (some u)->Vis X.env.scope x->∃z,RelV u z/\ZtA X.env s.heap m x z)
    (M:h'.Ns X.env.locals (λx=>if x=n then v else m x)) (R:Heap.SameBut X.env.locals s.heap h'):Inv X pins (σ.set i none) H { s with heap:=h',toks:=t' }:=by
  have g:∀b o,b≠X.env.locals->s.heap.get? b=some o->h'.get? b=some o:=λb o Q q=>R.extBut b o Q q;have k:∀b o,X.s₀.heap.get? b=some o->b≠X.env.locals:=λb o q z=>by
    subst z;exact absurd (Qa (Heap.lt_size q) I.ok.above)<|W0 _
  have G:∀b u,H b=some u->b≠X.env.locals:=λb u q z=>by subst z; rw[I.free] at q; cases q
  have h:=I.base;have D:i<σ.length:=by rw[I.len]; exact (Qp.mp E).1
  refine (I.ok,I.os,I.bare,(λb o q a c d=>g b o (k b o q)<|h.keep b o q a c d,λb o q a c d=>?_,h.free,λb o q d=>?_,h.tups,h.frzs,h.tbls),(_,M,λj x u a b c=>?_),λx c q=>?_,I.free,I.freeC,λp N=>?_,λb u q=>?_,?_)
  · obtain ⟨K,z⟩:=h.slot b o q a c d
    exact (K,g b _ (k b o q) z)
  · obtain ⟨F,z⟩:=h.there b o q d
    exact (F,g b F (k b o q) z)
  · have l:j≠i:=λz=>by
      subst z;rw[List.getElem?_set_self D] at b
      cases b
    rw[List.getElem?_set_ne<|Ne.symm l] at b;obtain ⟨z,r,P⟩:=L j x u a b c;have A:x≠n:=λz=>by
      subst z;exact l<|(List.getElem?_inj (Qp.mp a).1 J).mp<|a.trans E.symm
    refine (z,r,?_);rcases P with ⟨k1,k2⟩ | ⟨k1,cc,k2,B,t,y⟩
    · exact .inl (k1,by show (if x=n then v else m x)=some z; rw[if_neg A]; exact k2)
    · exact .inr (k1,cc,k2,B,g _ _ (I.cne x cc k2) t,y)
  · obtain ⟨O,B,t,y⟩:=I.cell x c q
    exact (O,B,g _ _ (I.cne x c q) t,y)
  · obtain ⟨a,b,c,d,f⟩:=I.pin p N
    exact (g _ _ c a,b,c,d,f)
  · exact (I.hok b u q).stay (λc w hc z=>g c w (by rcases hc with rfl | hc; exact G _ _ q; exact G _ _ hc) z) (λ_ z=>z) λ_ _ z=>z
  · rw[Wc]; exact I.len
def Zii{K:ZZfg}{CE:Addr}{Q:Bool->Shared->Prop}{i:Obj}(KX:K.In s.heap)(y:PySem.W.typeIn K (.ref CE)=some (.type "type")) (u:PySem.W.mroIn K CE (.type "BaseException")=some true)
    (c:(PySem.W.clsIn K CE).isSome=true) (B:PySem.W.mroIn K C (.ref CE)=some true) (D:s.heap.get? e=some i) (x:i.cls = .ref C) (h:Q true s):wpAny (model prog w) A (excMatches (.ref e)<|.ref CE) Q E s:=by
  obtain ⟨b,g,d,J,P⟩:=s;have v:=PySem.W.looks_typeIn (M:=model prog w) KX y;have o:=PySem.W.looks_mroIn (M:=model prog w) KX u;have n:=PySem.W.looks_mroIn (M:=model prog w) KX B;have l:PySem.W.Looks (model prog w) b (typeOf<|.ref e) (.ref C):=x ▸ (PySem.W.Looks.ld D).andThen .now;have f:=tc_notTuple;have r:PySem.W.Looks (model prog w) b (isInstance (.ref CE)<|.type "tuple") false:=v.andThen<|PySem.W.Looks.of_pure f;have j:PySem.W.Looks (model prog w) b (isType<|.ref CE) true:=by
    obtain ⟨I,z⟩:=Option.isSome_iff_exists.mp c;unfold PySem.W.clsIn at z
    split at z
    · rename_i O N t p F
      intro G L S R k q;unfold isType loadHead;exact wpAny_bind<|wpAny_loadPart (k _ _<|KX _ _ F)<|wpAny_pure q
    · cases z
  unfold excMatches;refine wpAny_bind (m:=isInstance (.ref CE)<|.type "tuple")<|r.at ?_;refine wpAny_bind (m:=(pure [Value.ref CE]:Sem (List Value)))<|wpAny_pure ?_;refine wpAny_bind ?_;rw[List.forIn_cons];refine wpAny_bind<|wpAny_bind (m:=isExcClass<|.ref CE) ?_;unfold isExcClass;refine wpAny_bind<|j.at<|o.at ?_;refine wpAny_pure<|wpAny_pure (a:=PUnit.unit) ?_;refine wpAny_bind<|l.at<|wpAny_bind ?_;rw[List.forIn_cons];refine wpAny_bind<|wpAny_bind<|n.at ?_;refine wpAny_pure<|wpAny_pure<|wpAny_pure h
def Zoa(K:ZZfg)(CE:Addr)(i:Nat)(c:Addr->TS)(D:Ends):St->XK:=λσ1 a dd H1=>∃C,a = .ref C/\PySem.W.mroIn K C (.ref CE)=some true ∧
 ∀e,H1 e=none->c e { nx:=λb d=>D.nx (b.set i none) d,rt:=λ_ _=>False } (σ1.set i<|some<|.ref e) (upd H1 e<|Zpl e C dd)
def Zt9(K:ZZfg)(CE:Addr)(i:Nat)(d:(St->XK)->List (Addr×Obj)->(Value->Shared->Prop)->TS)(a:Addr->TS):TS:=λD σ H=>∀b c,d (Zoa K CE i a D) b c D σ H
structure CatC (K:ZZfg) (mg:ZZmg) (x:Str) (CE:Addr):Prop where
 mgx:mg x=some (.ref CE)
 ty:PySem.W.typeIn K (.ref CE)=some (.type "type")
 be:PySem.W.mroIn K CE (.type "BaseException")=some true
 cl:(PySem.W.clsIn K CE).isSome=true
def ZqR{j:Stmt}{g:List Stmt}{W n:Str}{np M b0:Pos}{i:Nat}{CE:Addr}{tb:(St->XK)->List (Addr×Obj)->(Value->Shared->Prop)->TS}{Y:Addr->TS}(R:CatC X.K X.mg W CE)(hN:X.N.Nodup)(hi:X.N[i]?=some n)(hl:X.env.scope.names.lookup n=some .local)(hg:Gl X W)
    (O:∀(E:St->XK) (pn:List (Addr×Obj)) (xe:Value->Shared->Prop),Zih (X.tryB pn xe) E->PSs (X.tryB pn xe) body (tb E pn xe)) (hs:∀e,PSs (X.suite e) (j::g)<|Y e)
    (d:X.stack=X.env::X.outer:=by rfl) (hf:X.env.frame=some X.env.locals:=by rfl) (a2:(W==("__debug__" : Str))=false:=by decide) :
    PS X (.Try body [.ExceptHandler (some<|.Name W np) (some n) (j::g) M] [] [] b0) (Zt9 X.K CE i tb Y):=by
  intro pins s σ H D I h
  let EE:=Zoa X.K CE i Y D
  let XE:Value->Shared->Prop:=λev A=>∃σ1 H1 s1,Inv X pins σ1 H1 s1/\CXx X.prog X.w X.stack H1 s1 (EE σ1) ev A
  have P:Zih (X.tryB (X.pn++pins) XE) EE:=λa0 σ1 H1 s1 ev A I' h'=>(σ1,H1,s1,I'.untryB I.ok,h');have L:∀f A,SP (X.tryB (X.pn++pins) XE) [] D f A->SP X pins D f A:=λf A q=>by
    cases f with
    | next=>obtain ⟨c,w,J,q⟩:=q; exact (c,w,J.untryB I.ok,q)
    | brk=>obtain ⟨c,w,J,q⟩:=q; exact (c,w,J.untryB I.ok,q)
    | cont=>obtain ⟨c,w,J,q⟩:=q; exact (c,w,J.untryB I.ok,q)
    | ret u=>obtain ⟨v,c,w,J,r,q⟩:=q; exact (v,c,w,J.untryB I.ok,r,q)
  refine wpAny_Try_except<|wpAny_mono (O EE _ XE P [] s σ H D (I.tryB XE)<|h _ _) (λf s1 q=>?_) λev y hx=>?_
  · have S:=L f s1 q
    cases f with
    | next=>exact wpAny_execs_nil S
    | brk=>exact S
    | cont=>exact S
    | ret u=>exact S
  obtain ⟨σ1,H1,s1,I1,e,t,b2,dd,H2,B,rfl,os,l,U,a,N,p,C,rfl,hm,k⟩:=hx;have K:=I.ok.frames;rw[d] at K;have a':Air X.prog X.w B (X.env::X.outer) H2 y.heap e t (.ref C) dd .none:=by rw[<-d]; exact a
  refine a'.note K hf λh4 a4 u4=>?_;refine Air.off (s:={ y with heap:=h4 }) a4 λh5 Q u5=>?_;have U5:=Zig U a.fr (u4.trans u5) Q.st N p;have I5:Inv X pins σ1 H2 { y with heap:=h5 }:=I1.call' (ch:=[]) os U5 Q.hok l λb z=>absurd z (by simp);refine wpAny_handleBy_cons (codeAny_handlers_test<|ZcV (X:=X.suite e) (I5.suite e) hg R.mgx ?_ a2) (by intro q; cases q);obtain ⟨oe,vs,T,oT,b7,a9,a7,_⟩:=id Q.tr;refine Zii (s:={ y with heap:=h5 }) I5.kIn R.ty R.be R.cl hm a9 a7 ?_;refine codeAny_handlers_suite_as<|Air.off (s:={ y with heap:=h5 }) Q λh6 x u6=>?_;have U6:=Zig U a.fr ((u4.trans u5).trans u6) x.st N p;have I6:Inv X pins σ1 H2 { y with heap:=h6 }:=I1.call' (ch:=[]) os U6 x.hok l λb z=>absurd z (by simp);obtain ⟨b5,b4,T6,b6,b1,G,Z,a1,F,_⟩:=id x.tr;have a8:s1.heap.get? e=none:=by
    cases q:s1.heap.get? e with
    | none=>rfl
    | some o =>
      by_cases O:e∈frs X.stack
      · obtain ⟨_,o',z,nf⟩:=x.fr.mem (by rw[d] at O; exact O)
        rw[G] at z; cases z; exact absurd F<|nf _
      · obtain ⟨o',z⟩:=p e o q O
        rw[a.nb] at z; cases z
  have I7:=I6.track I1 a8 x.free G Z a1 F;refine Zdm (X:=X) (v:=.ref e) I7 hN hi (.inl hl) rfl (λs8 I8=>?_)<|.inr hl;refine wpAny_mono (hs e pins s8 _ _ _ (I8.suite e)<|k e x.free) (λf s9 q=>?_) λ_ _ z=>False.elim z
  cases f with
  | brk=>obtain ⟨_,_,_,z⟩:=q; exact False.elim z
  | cont=>obtain ⟨_,_,_,z⟩:=q; exact False.elim z
  | ret u=>obtain ⟨_,_,_,_,_,z⟩:=q; exact False.elim z
  | next =>
    obtain ⟨b3,H9,J,q⟩:=q;have I9:=J.unsuite I.ok;obtain ⟨m,hn,lk⟩:=id I9.loc;refine wpAny_nameGoes_keeps hl hn (by rw[I.ok.kind]; rfl) λh' v a3 sb=>?_;exact (_,_,I9.drop hN hi hn lk a3 sb,q)
end
inductive TyX (K:ZZfg) (H:Hp):V->Value->Prop where
 |of {x:V} {t:Value} (h:Zjc K H x t):TyX K H x t
 |exc {e C:Addr} (h:H e=some (Zpl e C none)) (c:XCls K C):TyX K H (.ref e) (.ref C)
inductive Zse (K:ZZfg) (H:Hp) (t:Value):V->Bool->Prop where
 |ty {T:String} {b:Bool} (h:PySem.W.kitOne K t (.type T)=some b):Zse K H t (.ty T) b
 |ref {C:Addr} {b:Bool} (h:PySem.W.kitOne K t (.ref C)=some b):Zse K H t (.ref C) b
 |tup {tp:Addr} {cs:ZZla} {b:Bool} (h:H tp=some (.tup (cs.map V.ref))) (q:PySem.W.kitAny K t (cs.map Value.ref)=some b):Zse K H t (.ref tp) b
def ZhF:∀ {a:ZZla} {us:List Value},Vals (a.map V.ref) us->us=a.map Value.ref
 | [],_,.nil=>rfl
 |_::_,_,.cons r t=>by cases (show _=Value.ref _ from r);rw[ZhF t];rfl
section
variable{X:Cx}
def Zam:ZeP X (.builtin "isinstance") (λxs H Q=>∃x c t b,xs=[x,c]/\TyX X.K H x t/\Zse X.K H t c b/\Q (.bl b) H):=by
 intro m s E H xs us Q I r h;obtain ⟨x,c,t,b,rfl,ty,w,q⟩:=h;obtain ⟨u,A,rfl,d,v⟩:=ZkH r;have l:∀B,EP X m E Q (.bool b) { s with toks:=B }:=λB=>(.bl b,H,I.tok _,rfl,q);obtain ⟨G,Z,g,hb⟩:∃G:Heap->Prop,PySem.W.KitX X.K u t G/\G s.heap/\u ≠ .builtin "__main__.__loader__#opaque":= by
  cases ty with
  |exc Y c =>
   rename_i e C
   cases (show u=Value.ref e from d)
   obtain ⟨⟨R,vs,F,S,K,M⟩,_,_⟩:=(show ObjOk X.prog X.w H s.heap e (Zpl e C none) from I.hok e _ Y);refine (_,Zm0 c,(R,none,F,S,?_,?_),λz=>nomatch z)
   ·unfold PySem.W.notCls;rw[M]
   ·rw[K];trivial
  |of ty =>
   cases ty with
   |non=>cases (show u=Value.none from d);exact (_,PySem.W.kitx_none,True.intro,λz=>nomatch z)
   |bl y=>cases (show u=Value.bool y from d);exact (_,PySem.W.kitx_bool,True.intro,λz=>nomatch z)
   |int i=>obtain ⟨t,q⟩:=(show ∃t,u=Value.int i t from d);cases q;exact (_,PySem.W.kitx_int,True.intro,λz=>nomatch z)
   |str y=>obtain ⟨t,q⟩:=(show ∃t,u=Value.str y t from d);cases q;exact (_,PySem.W.kitx_str,True.intro,λz=>nomatch z)
   |flt y=>obtain ⟨t,q⟩:=(show ∃t,u=Value.float y t from d);cases q;exact (_,PySem.W.kitx_float,True.intro,λz=>nomatch z)
   | @lst a xs ea =>
    cases (show u=Value.ref a from d)
    obtain ⟨_,_,n,_,f⟩:=(show ObjOk X.prog X.w H s.heap a (.lst xs) from I.hok a _ ea);exact (_,PySem.W.kitx_list,(_,f,rfl),λz=>nomatch z)
   | @frz a ob xs ea =>
    cases (show u=Value.ref a from d)
    obtain ⟨_,_,_,n,_,f⟩:=(show ObjOk X.prog X.w H s.heap a (.frz ob<|.lst xs) from I.hok a _ ea);exact (_,PySem.W.kitx_list,(_,f,rfl),λz=>nomatch z)
   | @tup a xs ea =>
    cases (show u=Value.ref a from d)
    obtain ⟨_,_,_,p⟩:=(show ObjOk X.prog X.w H s.heap a (.tup xs) from I.hok a _ ea);obtain ⟨o,f,j,_⟩:=p;exact (_,PySem.W.kitx_tuple,(o,f,j),λz=>nomatch z)
   | @dK a kvs ea =>
    cases (show u=Value.ref a from d)
    obtain ⟨_,_,vs,_,p⟩:=(show ObjOk X.prog X.w H s.heap a (.dK kvs) from I.hok a _ ea);obtain ⟨o,L,W,f,j,_⟩:=p;exact (_,PySem.W.kitx_dict,(o,f,j.1),λz=>nomatch z)
   | @dT a kvs ea =>
    cases (show u=Value.ref a from d)
    obtain ⟨_,_,xs,_,o,L,W,f,j,_⟩:=(show ObjOk X.prog X.w H s.heap a (.dT kvs) from I.hok a _ ea);exact (_,PySem.W.kitx_dict,(o,f,j.1),λz=>nomatch z)
   | @ins a C dx fs ea cl ha hn htk hm =>
    cases (show u=Value.ref a from d)
    obtain ⟨mA,O,_⟩:=Ze6 I.hok ea;obtain ⟨N,J,_⟩:=O.look;exact (_,PySem.W.kitx_own (cl.get _) cl.hd ha hn htk hm,J,λz=>nomatch z)
 cases w with
 |ty k=>cases (show A=Value.type _ from v);exact PySem.W.kia_one Z I.kIn g k hb l
 |ref k=>cases (show A=Value.ref _ from v);exact PySem.W.kia_one Z I.kIn g k hb l
 | @tup tp cs b ht k =>
  cases (show A=Value.ref tp from v)
  obtain ⟨_,T,U,o,f,j,n,D⟩:=(show ObjOk X.prog X.w H s.heap tp (.tup<|cs.map V.ref) from I.hok tp _ ht);obtain ⟨oc,N,P,a0⟩:=o
  dsimp only at j D
  subst j D;exact PySem.W.kia_tup Z I.kIn g f (by rw[ZhF U];exact k) hb l
end
def Zpm{K:ZZfg}{b:Bool}(c:(PySem.W.clsIn K D).isSome=true)(d:PySem.W.typeIn K (.ref D)=some (.type "type")) (e:PySem.W.mroIn K C (.ref D)=some b) (a:C≠D):PySem.W.kitOne K (.ref C) (.ref D)=some b:=by
 unfold PySem.W.kitOne PySem.W.kitCls;rw[if_neg<|λz=>a<|Value.ref.inj<|beq_iff_eq.mp z];show (if ((PySem.W.clsIn K D).isSome&&PySem.W.typeIn K (.ref D)==some (.type "type"))=true then PySem.W.subIn K (.ref C) (.ref D) else none)=some b;rw[c,d];exact e
def Zm2{K:ZZfg}{C:Addr}:PySem.W.kitOne K (.ref C) (.ref C)=some true:=by
 unfold PySem.W.kitOne;rw[if_pos<|beq_iff_eq.mpr rfl]
def Zpn{K:ZZfg}{b:Bool}(a:PySem.W.kitMeta T=true)(c:PySem.W.mroIn K C (.type T)=some b):PySem.W.kitOne K (.ref C) (.type T)=some b:=by
 unfold PySem.W.kitOne PySem.W.kitCls;rw[if_neg<|λz=>nomatch (beq_iff_eq.mp z:Value.ref C=Value.type T)];show (if PySem.W.kitMeta T=true then PySem.W.subIn K (.ref C) (.type T) else none)=some b;rw[if_pos a];exact c
def ZsG(K:ZZfg){C:Addr}(a:PySem.W.mroIn K C (.type "ValueError")=some true):PySem.W.kitOne K (.ref C) (.type "ValueError")=some true:=Zpn ‹4› a
structure FunD (K:ZZfg) (x qual:Str) (st:Stmt) (f:Addr) (fd:FuncData) (T:Addr) (items:Array Value):Prop where
 ex:∃(oc:Value) (od:Option Addr) (kV doc pm:Value) (an:Option Addr) (cdv ct:Value) (osl:Array (Option Value)),
  fd=PySem.W.fnOf x qual (Zbt st) (ZaW st) (Zab st) (.ref T) kV doc pm an cdv ct/\K.lookup f=some ⟨oc,od,.func fd,osl⟩/\PySem.W.codeIn K cdv qual=true
 tp:∃(tc:Value) (td:Option Addr) (n:Nat) (tsl:Array (Option Value)),K.lookup T=some ⟨tc,td,.seq items n,tsl⟩
 kp:PySem.W.keepIn K (.ref f)=true
section
variable{P:Program}{w:World}{K:ZZfg}{mg:ZZmg}{base:Heap}{x qual m:Str}{st:Stmt}{f C T:Addr}{fd:FuncData}{items:Array Value}{N ps:List Str}{k:Nat}{sp:Sp}{ds:List Value}{dvs:List V}
def FunD.okx(F:FunD K x qual st f fd T items)(S:FnScope N ps (Zab st))(d:∀vs H Q E,sp vs H Q E->vs.length=ps.length)
    (c:∀(b:Value) (A:Around) (a:List Env) (s:Shared) (H:Hp) (vs:List V) (Q:VK) (E:XK),Room k (A.deeper<|envOfC qual (Zab st) s.heap.objs.size f b)->sp vs H Q E →
      ∃t,PSs (cxX P w K mg base N qual (Zab st) f b A a s H E) (ZaW st) t/\t { nx:=λ_ l=>Q .non l,rt:=Q } (start N vs) H):FnOk P w K mg base (CXx P w) (k+1) f fd ps sp:=by
  obtain ⟨o,u,kV,n,q,p,b,r,j,rfl,h,g⟩:=F.ex;exact fn_of h g S d λA a s H vs Q E i e=>c b A a s H vs Q E i e
def FunD.binds(F:FunD K x qual st f fd T items)(h:∀ (kV b d:Value) (c:Option Addr) (a e:Value) (us:List Value),(us ++ ds).length = ps.length →
      ∃g:Option (Array Value)->Sem (List<|Str×Value),bindArgs (PySem.W.fnOf x qual (Zbt st) (ZaW st) (Zab st) (.ref T) kV b d c a e) (us,[])=seqItems? (.ref T) >>= g/\g (some items)=pure (ps.zip<|us++ds)):Binds K fd ps ds:=by
  obtain ⟨t,z,kV,b,d,c,a,e,p,rfl,u,r⟩:=F.ex;obtain ⟨y,v,n,j,i⟩:=F.tp;intro s us KX o;obtain ⟨g,q,l⟩:=h kV b d c a e us o;exact .of_defaults rfl (KX _ _ i) rfl q l
structure HereD (K:ZZfg) (C:Addr) (m qual:Str) (st:Stmt) (items:Array Value):Prop where
 ex:∃(f:Addr) (fd:FuncData) (T:Addr),FunD K m qual st f fd T items/\Meth K C m f
def HereD.hasM(h:HereD K C m qual st items)(a:Vals dvs ds)(b:∀f fd T,FunD K m qual st f fd T items->Binds K fd ps ds)(c:∀f fd T,FunD K m qual st f fd T items->FnOk P w K mg base CX0 k f fd ps sp):HasM P w K mg base C m k ps dvs sp :=
 let ⟨f,fd,T,F,M⟩:=h.ex
 (f,fd,ds,c f fd T F,M,b f fd T F,a)
def HereD.hasMX(h:HereD K C m qual st items)(a:Vals dvs ds)(b:∀f fd T,FunD K m qual st f fd T items->Binds K fd ps ds)(c:∀f fd T,FunD K m qual st f fd T items->FnOk P w K mg base (CXx P w) k f fd ps sp):HasMX P w K mg base C m k ps dvs sp :=
 let ⟨f,fd,T,F,M⟩:=h.ex
 (f,fd,ds,c f fd T F,M,b f fd T F,a)
def hereD_mk{j:Value}{r h:Option Addr}{e:Array (Option Value)}{kV g o b p tc:Value}{q:Option Addr}{n:Nat}{d:Array (Option Value)}(a:PySem.W.findIn K (.ref C) m=some (some<|.ref f))(i:PySem.W.isFn K (.ref f)=true)
    (l:K.lookup f=some (j,r,.func<|PySem.W.fnOf m qual (Zbt st) (ZaW st) (Zab st) (.ref T) kV g o h b p,e)) (s:K.lookup T=some (tc,q,.seq items n,d))
    (c:PySem.W.codeIn K b qual=true) (k:PySem.W.keepIn K (.ref f)=true):HereD K C m qual st items:=(f,_,T,((j,r,kV,g,o,h,b,p,e,rfl,l,c),(tc,q,n,d,s),k),a,i,k)
end
def Zij{us:List Value}(h:us.length=1):∃a,us=[a]:=match us,h with| [a],_=>(a,rfl)
def len2{us:List Value}(h:us.length=2):∃a b,us=[a,b]:=match us,h with| [a,b],_=>(a,b,rfl)
def ZcZ{us:List Value}(h:us.length=3):∃a b c,us=[a,b,c]:=match us,h with| [a,b,c],_=>(a,b,c,rfl)
def ZmL{us:List Value}(h:us.length=4):∃a b c d,us=[a,b,c,d]:=match us,h with| [a,b,c,d],_=>(a,b,c,d,rfl)
section
variable{K:ZZfg}{x qual:Str}{st:Stmt}{f:Addr}{fd:FuncData}{p q r s:Str}
def Fun.b1(F:Fun K x qual st f fd)(h:∀(kV c g:Value) (d:Option Addr) (b i a:Value),bindArgs (PySem.W.fnOf x qual (Zbt st) (ZaW st) (Zab st) .none kV c g d b i) ([a],[])=pure ([p].zip [a])):Binds K fd [p] []:=F.binds λ_ _ _ _ _ _ j e=>by obtain ⟨_,rfl⟩:=Zij e;exact h _ _ _ _ _ _ _
def Fun.b2(F:Fun K x qual st f fd)(h:∀(kV d i:Value) (e:Option Addr) (c j a b:Value),bindArgs (PySem.W.fnOf x qual (Zbt st) (ZaW st) (Zab st) .none kV d i e c j) ([a,b],[])=pure ([p,q].zip [a,b])):Binds K fd [p,q] []:=F.binds λ_ _ _ _ _ _ k g=>by obtain ⟨_,_,rfl⟩:=len2 g;exact h _ _ _ _ _ _ _ _
def Fun.b3(F:Fun K x qual st f fd)(h:∀(kV e i:Value) (g:Option Addr) (d j a b c:Value),bindArgs (PySem.W.fnOf x qual (Zbt st) (ZaW st) (Zab st) .none kV e i g d j) ([a,b,c],[])=pure ([p,q,r].zip [a,b,c])):Binds K fd [p,q,r] []:=F.binds λ_ _ _ _ _ _ l k=>by obtain ⟨_,_,_,rfl⟩:=ZcZ k;exact h _ _ _ _ _ _ _ _ _
def Fun.b4(F:Fun K x qual st f fd)(h:∀(kV g j:Value) (i:Option Addr) (e k a b c d:Value),bindArgs (PySem.W.fnOf x qual (Zbt st) (ZaW st) (Zab st) .none kV g j i e k) ([a,b,c,d],[])=pure ([p,q,r,s].zip [a,b,c,d])):Binds K fd [p,q,r,s] []:=F.binds λ_ _ _ _ _ _ m l=>by obtain ⟨_,_,_,_,rfl⟩:=ZmL l;exact h _ _ _ _ _ _ _ _ _ _
end
section
variable{X:Cx}{pins:List (Addr×Obj)}{σ:St}{H:Hp}{s:Shared}{h':Heap}{fp:ZZla}{t':Nat}
def Inv.multi(I:Inv X pins σ H s)(f:∀b∈fp,Zi7 X pins H b)(k:∀c o,c∉fp->s.heap.get? c=some o->h'.get? c=some o):Inv X pins σ H { s with heap:=h',toks:=t' }:=by
 refine I.call (ch:=fp) (λb o q n g e=>k b o e q,λb o q n g e=>(o.slots,k b o e q),λb o q n e=>n,λb o q e=>(o,k b o e q),λ_ _ q=>q,λ_ _ _ q=>q,λb h q=>(#[],by rw[q];simp)) (λb u q=>?_) I.bare λb g=>?_
 ·refine (I.hok b u q).stay (λc v hc z=>k c v (λm=>?_) z) (λ_ z=>z) λ_ _ z=>z;rcases hc with rfl|hc
  ·rw[(f c m).1] at q;cases q
  ·rw[(f c m).1] at hc;cases hc
 ·obtain ⟨_,a,_,b,c,d⟩:=f b g;exact (b,a,c,d)
def Inv.multiT{T:Addr}{xs:List V}{its:List Value}(I:Inv X pins σ H s)(h:∀b∈fp,Zi7 X pins H b)(k:∀c o,c∉fp->s.heap.get? c=some o->h'.get? c=some o)(i:s.heap.objs.size<=T)(p:IsTup h' T its.toArray)(r:Vals xs its)(l:xs.length<=sizeLine) :
    Inv X pins σ (upd H T<|.tup xs) { s with heap:=h',toks:=t' }:=by
  have j:=I.hok.fresh i;have g:∀b u,H b=some u->b≠T:=λb u q z=>by subst z; rw[j] at q; cases q
  refine I.call (ch:=fp) (λb o q n e f=>k b o f q,λb o q n e f=>(o.slots,k b o f q),λb o q n f=>?_,λb o q f=>(o,k b o f q),λb _ q=>by rw[Zaj<|g b _ q]; exact q,λb _ _ q=>by rw[Zaj<|g b _ q]; exact q,λb t q=>(#[],by rw[Zaj<|g b _ q,q]; simp)) (λb u q=>?_) I.bare λb e=>?_
  · rw[Zaj<|Qc<|Qa (Heap.lt_size q) i]; exact n
  · by_cases e:b=T
    · subst e
      rw[Zai] at q
      cases q
      exact (l,its,r,p)
    · rw[Zaj e] at q
      refine (I.hok b u q).stay (λc v hc z=>k c v (λm=>?_) z) (λc z=>by rw[Zaj<|g c _ z]; exact z) λc _ z=>by rw[Zaj<|g c _ z]; exact z
      rcases hc with rfl | hc
      · rw[(h c m).1] at q; cases q
      · rw[(h c m).1] at hc; cases hc
  · obtain ⟨_,a,_,b,c,d⟩:=h b e
    exact (b,a,c,d)
end
def Itz(K:ZZfg)(a b:Addr):It :=
  (λi H=>∃c d x y,SqL K H a c/\SqL K H b d/\c[i]?=some x/\d[i]?=some y,
   λi H v e=>∃T,H T=none/\v = .ref T/\∃x y,(∀c,SqL K H a c->c[i]?=some x)/\(∀d,SqL K H b d->d[i]?=some y)/\e=upd H T (.tup [x,y]),
   λi H=>∃c d,SqL K H a c/\SqL K H b d/\(c.length<=i\/d.length<=i))
def Zm3{K:ZZfg}{J:List Expr}{k0}{a8:Pos}{a b z TI TO i1 i2:Addr}(D:ZipApart z TI TO i1 i2 a b) :
    Turn P w K (.Tuple J k0 a8) (Itz K a b) [z,TI,TO,i1,i2] z (λi h=>IsZip h z TI TO .none/\IsPair h TI (.ref i1) (.ref i2)/\(∃p q,IsPair h TO p q)/\h.IsListIter i1 a i/\h.IsListIter i2 b i) where
  mem:=by simp
  obj:=λi h ⟨j,d,⟨p,q,f⟩,⟨o1,U,_,d1⟩,⟨o2,T,_,d2⟩⟩ c g=>by
    simp only[Qe,Wg,or_false] at g
    rcases g with rfl | rfl | rfl | rfl | rfl
    · exact (_,j,λv e=>nomatch (show Data.fields _=Data.cell v from e))
    · exact (_,d,λv e=>nomatch (show Data.seq _ _=Data.cell v from e))
    · exact (_,f,λv e=>nomatch (show Data.seq _ _=Data.cell v from e))
    · exact (o1,U,λv e=>by rw[d1] at e; cases e)
    · exact (o2,T,λv e=>by rw[d2] at e; cases e)
  keep:=λi h h' ⟨j,d,⟨p,q,f⟩,C,F⟩ k =>
    (k z (by simp) _ j,k TI (by simp) _ d,(p,q,k TO (by simp) _ f),C.at λo e=>k i1 (by simp) o e,F.at λo e=>k i2 (by simp) o e)
  item:=by
    intro X hP Q Z g i n s σ H E I M ⟨j,d,⟨p,q,f⟩,C,F⟩ W;subst hP Q Z;obtain ⟨xs,ys,x,y,m,l,hx,hy⟩:=W;obtain ⟨its,rv,O,_⟩:=I.list m;obtain ⟨S,r,A,_⟩:=I.list l;obtain ⟨u,hu,ru⟩:=rv.get hx;obtain ⟨v,hv,N⟩:=r.get hy;refine wpAny_pyNext_zip_item D j d f C F O.isList A.isList (x:=u) (y:=v) (by simpa using hu) (by simpa using hv) λh' a1 a2 a3 a4 a5 a6 a7=>?_;refine (_,rfl,wpAny_letOwnedTupleGo_zip (s:={ s with heap:=h' }) a1 λG b1 B=>?_);have kz:∀c o,c∉[z,TI,TO,i1,i2]->s.heap.get? c=some o->G.get? c=some o:=λc o g e=>by
      simp only[Qe,Wg,or_false,not_or] at g
      obtain ⟨L,n2,Y,n4,R⟩:=g;exact B.extBut _ _ L<|a7 c o L Y n4 R e
    have a0:s.heap.objs.size≠z:=Us<|Heap.lt_size j;have t:=I.hok.fresh<|Q4 s.heap.objs.size;have I2:Inv X n σ (upd H s.heap.objs.size<|.tup [x,y]) { s with heap:=G }:=I.multiT (t':=s.toks) (its:=[u,v]) M kz (Q4 _) (_,B.extBut _ _ a0 a5,rfl,_,rfl) (.cons ru<|.cons N .nil) (by show 2<=sizeLine; decide);refine (.ref s.heap.objs.size,_,I2,rfl,(_,t,rfl,x,y,λb0 e=>by rw[I.list_inj e m]; exact hx,λa9 e=>by rw[I.list_inj e l]; exact hy,rfl),(b1,?_,(u,v,?_),a3.extBut B.extBut D.i1z,a4.extBut B.extBut D.i2z),λc g=>?_)
    · exact B.extBut _ _ D.TIz (a7 _ _ D.TIz D.TITO D.TIi1 D.TIi2 d)
    · exact B.extBut _ _ D.TOz a2
    · have lt:c<s.heap.objs.size:=by
        simp only[Qe,Wg,or_false] at g
        obtain ⟨_,U,_⟩:=id C;obtain ⟨_,T,_⟩:=id F;rcases g with rfl | rfl | rfl | rfl | rfl
        · exact Heap.lt_size j
        · exact Heap.lt_size d
        · exact Heap.lt_size f
        · exact Heap.lt_size U
        · exact Heap.lt_size T
      rw[Zaj<|Qc lt];exact (M c g).1
  done:=by
    intro X hP Q Z g i n s σ H E I M ⟨j,d,⟨p,q,f⟩,C,F⟩ W;subst hP Q Z;obtain ⟨xs,ys,m,l,hx⟩:=W;obtain ⟨its,rv,O,_⟩:=I.list m;obtain ⟨S,r,A,_⟩:=I.list l;have l1:=rv.length;have l2:=r.length;refine wpAny_pyNext_zip_end (I.ok.hd g) D j d f C F O.isList A.isList ?_ λh' k=>(rfl,I.multi (t':=s.toks) M λc o g e=>?_)
    · rcases hx with hx | hx
      · left; simp; omega
      · right; simp; omega
    · simp only[Qe,Wg,or_false,not_or] at g
      obtain ⟨L,n2,Y,n4,R⟩:=g;exact k c o L Y n4 R e
  self:=λ_ _ _ _ _ ⟨j,_⟩ h=>wpAny_pyIter_zip j h
section
variable{X:Cx}
inductive ZqS (K:ZZfg) (vs:List V) (H1:Hp) (R:It->Hp->Prop):Prop
 |mk (a b:Addr) (_:vs=[.ref a,.ref b]) (_:∃xs,SqL K H1 a xs) (_:∃ys,SqL K H1 b ys) (_:R (Itz K a b) H1):ZqS K vs H1 R
def Zua(K:ZZfg)(a:TA):TI:=λb H R=>a b H λd c=>ZqS K d c R
def Zle{e1 e2:Expr}{n:List Expr}{k0}{f:Pos}{p m:Pos}(W:Gl X "zip") (U:X.mg "zip" = none) (N:PA X [e1,e2] B) (G:starEach [e1,e2] X.env=[(false,eval e1 X.env),(false,eval e2 X.env)]:=by rfl) (g:starEach [e2] X.env=[(false,eval e2 X.env)]:=by rfl) :
    PI X (.Tuple n k0 f) (.Call (.Name "zip" p) [e1,e2] [] m) (Zua X.K B):=by
  intro l s D H R I h;refine wpAny_Call_Name_kw<|Zdy I W U PyProof.Rows.Boot.«zip»<|PyProof.Rows.callWith_type1 (thn (N m l s D H _ I h) λZ d ⟨vs,M,i,E,P⟩=>?_) (by rw[G,g]) (by rw[g]; rfl);obtain ⟨a,b,e,⟨xs,t⟩,⟨ys,x⟩,q⟩:=P;subst e;obtain ⟨u,v,rfl,O,T⟩:=ZkH E
  cases (show u=Value.ref a from O)
  cases (show v=Value.ref b from T)
  obtain ⟨Q,_,A,_⟩:=i.list t;obtain ⟨J,_,j,_⟩:=i.list x;have F:a<d.heap.objs.size:=by obtain ⟨o,e,_⟩:=A.isList; exact Heap.lt_size e
  have lb:b<d.heap.objs.size:=by obtain ⟨o,e,_⟩:=j.isList; exact Heap.lt_size e
  refine call_zip_2 A.isList j.isList λL z y w K S Y k=>?_;refine wpAny_pyIter_zip (s:={ d with heap:=L }) z ?_;refine (_,[d.heap.objs.size+4,d.heap.objs.size+2,d.heap.objs.size+3,d.heap.objs.size,d.heap.objs.size+1],_,_,M,rfl,i.kept (t':=d.toks) k,Zm3<|zipApart_new F lb,(z,y,(_,_,w),K,S),λc C=>?_,q);have r:d.heap.objs.size<=c:=by
    simp only[Qe,Wg,or_false] at C
    rcases C with rfl | rfl | rfl | rfl | rfl <;> omega
  exact i.fpOk r<|i.hok.fresh r
end
def Zpo{K:ZZfg}{xs ys:List V}{g:TG}{o:TS}{D:Ends}(d:Nat->St->Hp->Prop)(z:d 0 c H)(t:∀i c H,d i c H->SqL K H a xs/\SqL K H b ys)
    (s:∀i x y T c H,xs[i]?=some x->ys[i]?=some y->H T=none->d i c H->g (.ref T) c (upd H T<|.tup [x,y]) λh l=>o { D with nx:=d<|i+1,ct:=d<|i+1,bk:=D.nx } h l) (B:∀i c H,i=min xs.length ys.length->d i c H->D.nx c H) :
    ∃W:Nat->Nat->St->Hp->Prop,(∃m,W 0 m c H)/\∀i m c H,W i m c H →
      ((Itz K a b).stop i H/\D.nx c H)\/((Itz K a b).go i H/\∃N:St->Hp->Prop,(∀e f,N e f->∃n,n<m/\W (i+1) n e f)/\∀x f,(Itz K a b).yld i H x f->g x c f λh l=>o { D with nx:=N,ct:=N,bk:=D.nx } h l):=by
  refine (λi m c H=>m=min xs.length ys.length-i/\i<=min xs.length ys.length/\d i c H,(_,rfl,Qg _,z),?_);rintro i m c H ⟨rfl,F,p⟩;obtain ⟨k,j⟩:=t i c H p
  by_cases hlt:i<min xs.length ys.length
  · have r:i<xs.length:=⋯
    have C:i<ys.length:=⋯;refine .inr ((xs,ys,xs[i],ys[i],k,j,by simp[r],by simp[C]),d<|i+1,λe f E=>(min xs.length ys.length-(i+1),⋯,rfl,hlt,E),λx f y=>?_);obtain ⟨T,q,rfl,u,v,A,w,rfl⟩:=y;exact s i u v T c H (A xs k) (w ys j) q p
  · exact .inl ((xs,ys,k,j,⋯),B i c H ⋯ p)
section
variable{caps:List (Nat×Str)}{te:TE}
def Zpp{x y:V}{a:List (Option V)}:∀(i:Nat) v,((none:Option V)::none::a)[i]?=some (some v)->((some x)::(some y)::a)[i]?=some (some v)
 |0,v,h=>by simp at h
 |1,v,h=>by simp at h
 |i+2,v,h=>by simpa using h
end
def ZdA(n:Nat):(List.range n).all (λ_=>true)=true:=by simp
def Bits(n:Nat)(i:Int):Prop:=Builtin.Int.intBits i<=n
def Zik(i:Int):(PySem.W.WData.int i).weight=Builtin.Int.intBits i:=by
 simp only[PySem.W.WData.weight,Builtin.Int.intBits]
def Zf6:∀(a:List Int) (n:Nat),PySem.W.WData.weightAll (a.map PySem.W.WData.int)<=n->∀i∈a,Bits n i
 | [],_,_,_,h=>nomatch h
 |j::a,n,hw,i,h=>by
  simp only[Ui,PySem.W.WData.weightAll] at hw
  rcases Qe.mp h with rfl|h
  ·show Builtin.Int.intBits i<=n;rw[<-Zik];omega
  ·exact Zf6 a n ⋯ i h
def ZhG{l:PySem.W.OpenLaw}{n:Nat}{F:World->Heap->Prop}{d:DefRec}
    (J:l.most=some n) (z:d.params.defaults=[])
    (m:∀(w:World) (e b:Shared) (mg B:Str->Option Value) (v:Addr) (a:Addr) (vs:List Value) (c:List Int),
      PySem.W.Ground q g [] E w e mg B b.heap->F w b.heap->mg d.name=some (.ref v) →
      b.heap.get? a=some { cls:=.type "list", data:=.seq vs.toArray }->IntsAre vs c->c.length<=n->(∀i∈c,Bits 1048576 i)->b.gens=#[] →
      codeAny (model l.prog w) callerA (.call (.ref v) ([.ref a],[])) (λr x=>r = .ok (.ret<|.bool true)/\OldK b.heap x.heap/\x.os=b.os/\AllBare x.gens) b) :
    PySem.W.WalkO q g E F l.row.toRowW d [] (λf vs=>PySem.call f vs):=by
  refine λw e b mg B G Y v o X U R K kV ho W S D C P t s Z p j I y M=>?_;have L:∀(a:Addr) (vs:List Value) (c:List Int),s=[Value.ref a]->t=[PySem.W.WData.list<|c.map PySem.W.WData.int]->∀i∈c,Bits 1048576 i:=by
    rintro a vs c-rfl;refine Zf6 c _ ?_;have A:(PySem.W.WData.list<|c.map PySem.W.WData.int).layable=true:=(PySem.W.layW_cons j).1;unfold PySem.W.WData.layable at A
    simp only[Bool.and_eq_true,decide_eq_true_eq] at A
    have:=A.2
    simp only[PySem.W.WData.weight] at this
    exact this
  obtain rfl:K = .none:=PySem.W.Dflts.none D z;obtain rfl:kV = .none:=PySem.W.Dflts.noKw D;obtain ⟨a,vs,c,rfl,rfl,u,h,k⟩:=Att.script_of J p y;refine PySem.W.enter_call<|codeAny_mono (m w e b mg B v a vs c G Y C u h k (L a vs c rfl rfl) P) λr x H=>?_;obtain ⟨rfl,N,T,Q⟩:=H;exact (.inl (.bool true,.bool true,[],rfl,λ_=>rfl,.bool true,Att.post_true l _,λ_=>(List.Pairwise.nil,λ_ O=>(nomatch O))),N,T,Q)
def Bits.lt{i:Int}(h:Bits n i):i.natAbs<2^n:=by
 unfold Bits Builtin.Int.intBits at h
 by_cases h0:i=0
 ·subst h0;exact Nat.pos_of_ne_zero (by simp)
 ·have:i.natAbs.log2+1<=n:=by simpa [h0] using h
  exact (Nat.log2_lt ⋯).mp ⋯
def Bits.of{n:Nat}{i:Int}(h:i.natAbs<2^n):Bits n i:=ZdG h
def Bits.mul(h:Bits 2097152 i)(h':Bits 2097152 j):IntMulOk i j:=by
 have b:Builtin.Int.intBits i<=2097152:=h;have c:Builtin.Int.intBits j<=2097152:=h';have a:Builtin.Int.intTooBig (Builtin.Int.intBits i+Builtin.Int.intBits j)=false:=by
  unfold Builtin.Int.intTooBig;rw[bitsLine_eq];exact decide_eq_false ⋯
 unfold IntMulOk;rw[a]
 simp
def Zpq{X:Cx}{c:Pos}(K:ZZfg)(h:X.K=K){a:List Expr}{k:Nat}{t:TGs}{n:Nat}(e:X.calm=true)(d:PGs X a t)
    (f:(assignEach a X.env).length=n:=by rfl) (b:(assignEach a X.env).findIdx? (·.1)=none:=by rfl):PG X (.Tuple a k c) (Zo1 K n t):=by subst h; exact Zho e d f b
def Zlf{caps:List (Nat×Str)}{te:TE}{K:ZZfg}{xs ys:List V}{k:St}{QL:List V->Hp->Prop}(d:Nat->List V->Hp->Prop)(o:xs.length<=1000)(z:d 0 [] H)(s:∀i c H,d i c H->SqL K H a xs/\SqL K H b ys)
    (r:∀i x y T c H,xs[i]?=some x->ys[i]?=some y->c.length=i->H T=none->d i c H->te (some x::some y::caps.map λp=>(k[p.1]?).join) (upd H T<|.tup [x,y]) λv f=>d (i+1) (c++[v]) f)
    (B:∀c H,c.length=min xs.length ys.length->d (min xs.length ys.length) c H->QL c H) :
    Zfa 2 caps (Zo1 K 2<|ZfM (Zdv 0)<|ZfM (Zdv 1) Zqx) te k (Itz K a b) H QL:=by
  have t:xs.length<sizeLine:=Zba o;refine (λi m c H=>m=min xs.length ys.length-i/\i<=min xs.length ys.length/\c.length=i/\d i c H,(_,rfl,Qg _,rfl,z),?_);rintro i m c f ⟨rfl,E,j,p⟩;obtain ⟨h,g⟩:=s i c f p;refine (⋯,?_)
  by_cases hlt:i<min xs.length ys.length
  · have q:i<xs.length:=⋯
    have C:i<ys.length:=⋯;refine .inr ((xs,ys,xs[i],ys[i],h,g,by simp[q],by simp[C]),⋯,λv l=>d (i+1) (c++[v]) l,λv l D=>(min xs.length ys.length-(i+1),⋯,rfl,hlt,by rw[Qi,j]; rfl,D),λx F y=>?_);obtain ⟨T,n,rfl,u,v,A,w,rfl⟩:=y;exact (T,[u,v],rfl,SqT.of Zai,rfl,u,_,rfl,v,_,rfl,rfl,Zpp,r i u v T c f (A xs h) (w ys g) j n p)
  · have e:i=min xs.length ys.length:=⋯
    subst e;exact .inl ((xs,ys,h,g,⋯),B c f j p)
def Zpr:10^1000<2^4000:=by decide +kernel
def ZtF{i j:Int}(h:i.natAbs<=10^1000)(h':j.natAbs<=10^1000):IntMulOk i j :=
 .of_bits (Q0 (ZdG (n:=4000)<|Q7 h Zpr) ∅) (Q0 (ZdG (n:=4000)<|Q7 h' Zpr) ∅)
def Zm4{j:Int}(h:j.natAbs<=10^1000):j.natAbs.log2<9000:=by
 rcases Nat.eq_zero_or_pos j.natAbs with z|z
 ·rw[z];decide
 ·exact Nat.lt_trans ((Nat.log2_lt<|Us z).mpr<|Q7 h Zpr) ∅
section
variable{X:Cx}
def ZeU:OpR X (binaryOp .FloorDiv) (rI (λ_ j=>j≠0/\j.natAbs<=10^1000) λi j => .int<|i.fdiv j):=opI λ_ _ _ _ _ _ _ a q=>floordiv_int a.1 q<|.inl<|PyProof.noPylong_of_log2<|Zm4 a.2
def ZeK:∀ {a:List Int} {us:List Value},Vals (a.map V.int) us->IntsAre us a
 | [],_,.nil => .nil
 |_::_,_,.cons r t=>by obtain ⟨k,rfl⟩:=r;exact .cons _ _<|ZeK t
def Zm5(j:X.calm=true):ZeP X (.builtin "sum") (λxs H Q=>∃(p:Addr) (b:List Int),xs=[.ref p]/\SqL X.K H p (b.map V.int)/\Q (.int b.sum) H):=by
 intro c s t H xs v Q I r h;obtain ⟨p,b,rfl,g,q⟩:=h;obtain ⟨u,rfl,k⟩:=Zhp r
 cases k
 obtain ⟨a,n,i,w⟩:=I.list g;have d:=ZeK n;obtain ⟨xs,e⟩:=d.allInts.items;have f:(numsOf a).sum=b.sum:=by rw[d.numsOf]
 have o:a=(intItems xs).toList:=by rw[<-e]
 rw[o,nums_intItems] at f;refine sum_intListG (xs:=xs) (I.ok.hd j) (by rw[<-e];exact i.isList) λy x l m=>?_;rw[preSum_eq,U1 (by simp)];rw[f];exact (.int b.sum,H,I.kept m,(l,rfl),q)
end
def Zgq{a:Scope}{x:Str}(b:(relabel a env).names.lookup x=some .cell\/(relabel a env).names.lookup x=some .free):(x,NameKind.free)∈a.names\/(x,NameKind.cell)∈a.names:=by
 unfold relabel at b;have b:(a.names.map λ(n,k)=>if (k==NameKind.free&&env.scope.kind == .function&&env.kindOf n==some .cell) then (n,NameKind.cell) else (n,k)).lookup x=some .cell\/(a.names.map λ(n,k)=>if (k==NameKind.free&&env.scope.kind == .function&&env.kindOf n==some .cell) then (n,NameKind.cell) else (n,k)).lookup x=some .free:=b;generalize a.names=g at b
 induction g with
 |nil=>simp at b
 |cons p r f =>
  obtain ⟨n,k⟩:=p;rw[Ui] at b
  by_cases hn:x=n
  ·subst hn
   by_cases hk:k=NameKind.free
   ·subst hk;exact .inl W6
   ·have d:(k==NameKind.free)=false:=by simpa using hk
    simp only[d,Bool.false_and,Bool.false_eq_true,if_false,W9,beq_self_eq_true,Option.some.injEq] at b
    rcases b with e|e
    ·rw[e];exact .inr W6
    ·exact absurd e hk
  ·have d:(x==n)=false:=beq_eq_false_iff_ne.mpr hn;have c:List.lookup x ((if (k==NameKind.free&&env.scope.kind == .function&&env.kindOf n==some .cell)=true then (n,NameKind.cell) else (n,k))::List.map (λ(p:Str×NameKind)=>match p with|(n,k)=>if (k==NameKind.free&&env.scope.kind == .function&&env.kindOf n==some .cell)=true then (n,NameKind.cell) else (n,k)) r)=some .cell\/List.lookup x ((if (k==NameKind.free&&env.scope.kind == .function&&env.kindOf n==some .cell)=true then (n,NameKind.cell) else (n,k))::List.map (λ(p:Str×NameKind)=>match p with|(n,k)=>if (k==NameKind.free&&env.scope.kind == .function&&env.kindOf n==some .cell)=true then (n,NameKind.cell) else (n,k)) r)=some .free:=b;have:=f (by split at c <;> (simp only[W9,d] at c;exact c));rcases this with h|h
   ·exact .inl (W7 _ h)
   ·exact .inr (W7 _ h)
def Zb2(X:Cx)(b:Str)(a:Scope)(N:List Str)(s₀:Shared)(H₀:Hp)(C:Addr)(c:ZZla):Cx where
 prog:=X.prog
 w:=X.w
 K:=X.K
 mg:=X.mg
 base:=X.base
 A:=X.A
 N:=N
 s₀:=s₀
 H₀:=H₀
 env:=compEnvC a ((b,C+1)::Zhi X.env.cells a.names []) C X.env
 outer:=X.stack
 stack:=X.stack
 ex:=c
 fn:=λx=>x==b
 calm:=X.calm
 pn:=[]
 xe:=λ_ _=>False
def Zil{a x:Str}{n c:Addr}{cl:List (Str×Addr)}(h:((a,n)::cl).lookup x=some c):(x=a/\c=n)\/(x≠a/\cl.lookup x=some c):=by
 by_cases hx:x=a
 ·subst hx
  simp only[W9,beq_self_eq_true,Option.some.injEq] at h
  exact .inl (rfl,h.symm)
 ·have b:(x==a)=false:=beq_eq_false_iff_ne.mpr hx
  simp only[W9,b] at h
  exact .inr (hx,h)
structure OneCell (scope:Scope) (x0:Str):Prop where
 one:∀y∈scope.names,y.2 = .cell->y.1=x0
 lk:scope.names.lookup x0=some .cell
 cf:∀n acc,cellsFrom n scope.names acc=(x0,n)::acc
 pc:∀h,pushCells h scope.names=h.push { cls:=.type "cell", data:=.cell none }
def Zps{s:Shared}{globals:Addr}{a:List (Str×Addr)}{qual:Str}{env:Env}{Q:Env->Shared->Prop}(O:OneCell scope c)
    (e:Q { scope,locals:=s.heap.objs.size,globals,cells:=(c,s.heap.objs.size+1)::a,qual,func:=none,code:=env.code,frame:=env.frame,builtins:=env.builtins } { s with heap:=(s.heap.push { cls:=.type "dict", data:=.dict #[] }).push { cls:=.type "cell", data:=.cell none } }) :
    wpAny (model prog w) A (newFunctionEnv scope globals a [] qual none .none<|some env) Q E s:=by
  simp only[newFunctionEnv,Option.isSome_some,if_true]
  refine wpAny_bind<|wpAny_alloc ?_;refine wpAny_bind<|wpAny_layCells _ (λd b cells=>by cases hkc:b==NameKind.cell <;> simp[hkc]) _ _ _ _ ?_;rw[O.cf,O.pc,Heap.size_push];refine wpAny_bind ?_;rw[List.forIn_nil];exact wpAny_pure<|wpAny_pure e
section
variable{X:Cx}{tg iter elt:Expr}{scope:Scope}{pos:Pos}{wi:TI}{g:TG}{te:TE}{own:List Str}{caps:List (Nat×Str)}{x0:Str}
def Zj2{s:Shared}{u:ZZla}{C:Addr}(I:Inv X i A H s)(k:scope.kind = .function)(O:OneCell scope x0)
    (j:∀y,(y,NameKind.free)∈scope.names->∃c,X.env.cells.lookup y=some c) (l:s.heap.objs.size<=C) (q:∀b∈u,Zi7 X i H b) (n:∀b∈u,b<s.heap.objs.size):(Zb2 X x0 scope N s H C u).Ok:=by
  have sub:∀x c,(Zhi X.env.cells scope.names []).lookup x=some c->X.env.cells.lookup x=some c:=λx c e=>ZdY scope.names [] (λp D=>(nomatch D)) (x,c)<|PySem.mem_of_lookup e;have m:∀x c,X.env.cells.lookup x=some c->c<s.heap.objs.size:=λx c e=>by
    obtain ⟨v,o,J,_⟩:=I.cell x c e;exact Heap.lt_size J
  refine (I.ok.mod,k,I.ok.glob,I.ok.blt,l,λx y c B G=>?_,λx r=>?_,λx c r h=>?_,I.ok.hd,I.ok.frames,.inl rfl,λb f=>(?_,λx c e=>?_),I.bs,Q0 I.ok.bsz I.sz,λb o e f=>?_,λb f z=>?_,I.stack,I.stkFree)
  · rcases Zil B with ⟨a1,a2⟩ | ⟨_,a⟩ <;> rcases Zil G with ⟨b1,b2⟩ | ⟨_,b⟩
    · rw[a1,b1]
    · have:=m y c<|sub y c b; rw[a2] at this; exact absurd this<|Uv.mpr<|Uw l
    · have:=m x c<|sub x c a; rw[b2] at this; exact absurd this<|Uv.mpr<|Uw l
    · exact I.ok.inj x y c (sub x c a) (sub y c b)
  · by_cases h0:x=x0
    · exact (C+1,by subst h0; show List.lookup x ((x,C+1)::_)=_; simp[W9])
    · rcases Zgq r with h | h
      · obtain ⟨c,F⟩:=ZdZ scope.names [] h<|j x h
        obtain ⟨d,E⟩:=Zbv F;have f:(x==x0)=false:=beq_eq_false_iff_ne.mpr h0;exact (d,by show List.lookup x ((x0,C+1)::_)=_; simp only[W9,f]; exact E)
      · exact absurd (O.one _ h rfl) h0
  · have t:x=x0:=by simpa [Zb2] using r
    rcases Zil h with ⟨_,a⟩ | ⟨a,_⟩
    · show s.heap.objs.size<=c; rw[a]; exact Uw l
    · exact absurd t a
  · exact Qc (Qa (n b f) l)
  · rcases Zil e with ⟨_,a⟩ | ⟨_,a⟩
    · rw[a]; exact λz=>by
        have w:=n b f;rw[<-z] at w;exact absurd w<|Uv.mpr<|Uw l
    · exact (q b f).2.2.2.2.1 x c (sub x c a)
  · rcases (q b f).2.2.2.1 with z | z
    · exact I.ok.noex b o e z
    · exact absurd (Qa (Heap.lt_size e)<|Q0 I.ok.bsz z) (W0 _)
  · rcases Qe.mp (I.stkSub b z) with e | e
    · exact (q b f).2.1 e
    · exact (q b f).2.2.1 e
def Zj3{K:List (Addr×Obj)}{s:Shared}{E:Value->Shared->Prop}{RR:Value->Addr->Result->Shared->Prop}{QL:List V->Hp->Prop}
    (I:Inv X K σ H s) (hc:X.calm=true) (T:Turn X.prog X.w X.K tg J B it tn) (st:tn 0 s.heap) (hf:∀b∈B,Zi7 X K H b)
    (a9:scope.kind = .function) (O:OneCell scope x0) (a8:∀y,(y,NameKind.free)∈scope.names->∃c,X.env.cells.lookup y=some c) (b6:CapsOk X scope caps)
    (hg:∀F Q C,PG (Zb2 X x0 scope (own++caps.map (·.2)) F Q C B) tg g) (he:∀F Q C,PE (Zb2 X x0 scope (own++caps.map (·.2)) F Q C B) elt te)
    (hB:Zfa own.length caps g te σ J H QL)
    (c8:∀D C S m ys t,s.heap.objs.size<=C->D≠C->S.heap.Ns C m->Inv X K σ (upd t D<|.lst ys) S->t D=none->t C=none->QL ys t->RR (.ref D) C (.ok .next) S) :
    wpAny (model X.prog X.w) X.A (newList []) (λb2 w=>wpAny (model X.prog X.w) X.A (newFunctionEnv scope X.env.globals (Zhi X.env.cells scope.names []) [] X.env.qual none .none<|some X.env) (λa5 b5 =>
      codeAny (model X.prog X.w) X.A (.compStart (.ListComp elt [(tg,iter,[],0)] scope pos) 0 (.ref it) b2 { a5 with scope:=relabel scope X.env }) (RR b2 a5.locals) b5) E w) E s:=by
  refine wpAny_newObj_type<|Zps O ?_;generalize hH2:s.heap.push { cls:=.type "list", dict:=none,data:=.seq ([]:List Value).toArray }=P;have hC:P.objs.size=s.heap.objs.size+1:=by rw[<-hH2,Heap.size_push]
  generalize hCC:P.objs.size=C at *;have R:s.heap.objs.size<=C:=by rw[hC]; exact Nat.le_succ _
  generalize hDD:s.heap.objs.size=D at *;have b0:D≠C:=by rw[hC]; exact Qc<|Uu _
  have h:∀b,b<D->b≠C/\b≠D:=λb a=>(by rw[hC]; exact Qc<|Nat.lt_succ_of_lt a,Qc a);have N:∀ {b o},s.heap.get? b=some o->b<D:=fun {b o} e=>by rw[<-hDD]; exact Heap.lt_size e
  have s1:(P.push { cls:=.type "dict", data:=.dict #[] }).objs.size=C+1:=by rw[Heap.size_push,hCC]
  have a4:∀b o,P.get? b=some o->((P.push { cls:=.type "dict", data:=.dict #[] }).push { cls:=.type "cell", data:=.cell none }).get? b=some o:=λb o e=>Heap.get?_push_of_some _<|Heap.get?_push_of_some _ e;have A:∀b o,s.heap.get? b=some o->((P.push { cls:=.type "dict", data:=.dict #[] }).push { cls:=.type "cell", data:=.cell none }).get? b=some o:=λb o e=>a4 b o<|hH2 ▸ Heap.get?_push_of_some _ e;have c2:((P.push { cls:=.type "dict", data:=.dict #[] }).push { cls:=.type "cell", data:=.cell none }).get? D=some { cls:=.type "list", data:=.seq ([]:List Value).toArray 0 }:=a4 _ _<|hH2 ▸ (hDD ▸ Heap.get?_push_size _ rfl);have a0:((P.push { cls:=.type "dict", data:=.dict #[] }).push { cls:=.type "cell", data:=.cell none }).Ns C (λ_=>none):=by rw[<-hCC]; exact (Heap.Ns.new P _).push _
  have d8:((P.push { cls:=.type "dict", data:=.dict #[] }).push { cls:=.type "cell", data:=.cell none }).get? (C+1)=some { cls:=.type "cell", data:=.cell none }:=by rw[<-s1]; exact Heap.get?_push_size _ rfl
  generalize (P.push { cls:=.type "dict", data:=.dict #[] }).push { cls:=.type "cell", data:=.cell none }=L at *;have a1:∀b∈B,b<D:=λb a=>let ⟨o,e,_⟩:=T.obj 0 _ st b a; N e;have c7:∀b,D<=b->s.heap.get? b=none:=λb a=>by
    cases e:s.heap.get? b with
    | none=>rfl
    | some o=>exact absurd (N e)<|Uv.mpr a
  have nH:∀b,D<=b->H b=none:=λb a=>I.hok.fresh (by rw[hDD]; exact a)
  let Y:Cx:=Zb2 X x0 scope (own++caps.map (·.2)) s H C B
  have U:Y.Ok:=Zj2 I a9 O a8 (by rw[hDD]; exact R) hf (by rw[hDD]; exact a1);have sub:∀x c,(Zhi X.env.cells scope.names []).lookup x=some c->X.env.cells.lookup x=some c:=λx c e=>ZdY scope.names [] (λp j=>(nomatch j)) (x,c)<|PySem.mem_of_lookup e;have Z:∀x c,X.env.cells.lookup x=some c->c<D:=λx c e=>by
    obtain ⟨v,o,ho,_⟩:=I.cell x c e;exact N ho
  have a6:∀b∈frs X.stack,b<D:=λb a=>by
    rcases Qe.mp (I.stkSub b a) with e | e
    · rw[e,<-hDD]; exact I.lt
    · obtain ⟨_,o,ho,_⟩:=I.funs.mem e
      exact N ho
  have I0:Inv Y [] (st0 own.length caps σ) H { s with heap:=L }:=by
    refine (U,rfl,I.bare,Un.kept A,(_,a0,λi x v h1 h2 h3=>?_),λx c e=>?_,nH C R,λx c e=>?_,λp j=>?_,I.hok.kept A,?_)
    · obtain ⟨hk,p,j,hv⟩:=ZkX h2
      have c0:caps[i-own.length]?.map (·.2)=some x:=by
        have:(own++caps.map (·.2))[i]?=some x:=h1;rw[Wz hk,Q3] at this;exact this
      rw[j] at c0
      cases c0
      obtain ⟨q1,q2,q3⟩:=b6.mem p<|Qd j;obtain ⟨m,hn,hl⟩:=I.loc;obtain ⟨u,r,l⟩:=hl p.1 p.2 v q1 hv (by rcases q3 with z | z; exact .inr<|.inl z; exact .inr<|.inr z);refine (u,r,.inr (ZeI q2,?_));rcases l with ⟨z,_⟩ | ⟨_,c,hc',z⟩
      · rcases q3 with y | y <;> (rw[y] at z; cases z)
      · have hm:(p.2,NameKind.free)∈scope.names:=PySem.mem_of_lookup q2
        obtain ⟨d,hd⟩:=ZdZ scope.names [] hm (c,hc');obtain ⟨d',b3⟩:=Zbv hd;have e:=sub _ _ b3;rw[hc'] at e
        cases e
        obtain ⟨oc,ho,d5⟩:=z;have d3:(p.2==x0)=false:=beq_eq_false_iff_ne.mpr λz=>by rw[z,O.lk] at q2; cases q2
        exact (c,by show List.lookup p.2 ((x0,C+1)::_)=_; simp only[W9,d3]; exact b3,oc,A _ _ ho,d5)
    · rcases Zil e with ⟨_,z⟩ | ⟨_,z⟩
      · exact (none,_,by rw[z]; exact d8,rfl)
      · obtain ⟨v,o,ho,hd⟩:=I.cell x c<|sub x c z
        exact (v,o,A _ _ ho,hd)
    · rcases Zil e with ⟨_,z⟩ | ⟨_,z⟩
      · rw[z]; exact nH _ ⋯
      · exact I.freeC x c (sub x c z)
    · exact absurd (show p∈([]:List (Addr×Obj)) from j) (by simp)
    · rw[ZkW]
      show _=(own++caps.map (·.2)).length;rw[Qi,Q1]
  have a2:∀ {f:List Value} {n:Nat} {b1:St} {t:Hp} {S:Shared},Inv Y [] b1 t S->t D=none->S.heap.get? D=some { cls:=.type "list", data:=.seq f.toArray n }->Inv Y [(D,{ cls:=.type "list", data:=.seq f.toArray n })] b1 t S:=fun {f n b1 t S} J hn e =>
    J.pins_of λp j=>by
      have ep:p=(D,{ cls:=.type "list", data:=.seq f.toArray n }):=Qf.mp j;subst ep;refine (e,hn,b0,λz=>?_,λv z=>by cases z);exact absurd (a6 D z)<|W0 _
  obtain ⟨W,⟨m0,w0⟩,G⟩:=hB;have b8:∀ {t:Hp} {pins':List (Addr×Obj)},(∀b∈B,t b=none)->(∀p∈pins',∀b∈B,p.1≠b)->∀b∈B,Zi7 Y pins' t b:=fun {t pins'} hn j b a =>
    (hn b a,(U.exf b a).1,U.exfs b a,.inl a,(U.exf b a).2,λp q=>j p (by simpa [Y,Zb2] using q) b a)
  have a3:∀w:Shared,w={ s with heap:=L } →
      codeAny (model X.prog X.w) X.A (.compLoop (.ListComp elt [(tg,iter,[],0)] scope pos) 0 (.ref it) (.ref D)<|compEnvC scope ((x0,C+1)::Zhi X.env.cells scope.names []) C X.env) (RR (.ref D) C) w:=by
    rintro w rfl;refine ZeH (λk S=>∃(i:Nat) (ys:List V) (f:List Value) (n:Nat) (t:Hp),Inv Y [(D,{ cls:=.type "list", data:=.seq f.toArray n })] (st0 own.length caps σ) t S/\tn i S.heap/\(∀b∈B,t b=none)/\Vals ys f/\W i k ys t) ?_ m0
      (0,[],[],0,H,a2 I0 (nH D<|Q4 _) c2,T.keep _ _ _ st λb _ o e=>A b o e,λb a=>(hf b a).1,.nil,w0)
    rintro k s3 ⟨i,ys,f,n,H3,I3,b4,d1,rv,w3⟩;obtain ⟨pD,nD,_⟩:=I3.pin (D,{ cls:=.type "list", data:=.seq f.toArray n })<|Qw _ W6;have ff:=b8 (pins':=[(D,{ cls:=.type "list", data:=.seq f.toArray n })]) d1 (λp j b a=>by
      rw[Qf.mp j]; exact (Ne.symm (h b<|a1 b a).2))
    obtain ⟨c6,G⟩:=G i k ys H3 w3;rcases G with ⟨stop,q⟩ | ⟨go,hsz',NN,hNN,step⟩
    · refine thn (T.done Y rfl rfl rfl hc i _ s3 _ H3 _ I3 ff b4 stop) λr s4 ⟨hr,I4⟩=>?_
      subst hr;obtain ⟨m4,c9,_⟩:=I4.loc;obtain ⟨d0,b7,_⟩:=I4.pin (D,{ cls:=.type "list", data:=.seq f.toArray n })<|Qw _ W6;refine c8 D C s4 m4 ys H3 R b0 c9 ?_ b7 I4.free q;have hk:=I4.base;have c4:HOk X.prog X.w H3 s4.heap:=I4.hok;have M:∀b u,H3 b=some u->b≠D:=λb u e z=>by rw[z,b7] at e; cases e
      refine I.call' (ch:=B) I4.os (λb o e n a hx=>hk.keep b o e n a hx,λb o e n a hx=>hk.slot b o e n a hx,λb o e n hx=>?_,λb o e hx=>hk.there b o e hx,λb xs e=>?_,λb o u e=>?_,λb ps e=>?_) ?_ I4.bare ?_
      · rw[Zaj (h b<|N e).2]; exact hk.free b o e n hx
      · have:=hk.tups b xs e
        rw[Zaj<|M b _ this]; exact this
      · have:=hk.frzs b o u e
        rw[Zaj<|M b _ this]; exact this
      · obtain ⟨b9,e'⟩:=hk.tbls b ps e
        exact (b9,by rw[Zaj<|M b _ e']; exact e')
      · intro b u e
        by_cases a:b=D
        · subst a
          rw[Zai] at e
          cases e
          exact (c6,f,n,rv,d0)
        · rw[Zaj a] at e
          exact (c4 b u e).stay (λc v _ q=>q) (λc q=>by rw[Zaj<|M c _ q]; exact q) λc xs q=>by rw[Zaj<|M c _ q]; exact q
      · intro b a
        obtain ⟨_,f1,_,f3,f4,f5⟩:=hf b a;exact (f3,f1,f4,f5)
    · refine thn (T.item Y rfl rfl rfl hc i _ s3 _ H3 _ I3 ff b4 go) λr s4 ⟨u,hr,h4⟩=>?_
      subst hr;refine thn h4 λ_ s5 ⟨x,H5,I5,r5,y5,a7,e3⟩=>?_;have d6:=b8 (pins':=[(D,{ cls:=.type "list", data:=.seq f.toArray n })]) e3 (λp j b a=>by
        rw[Qf.mp j]; exact (Ne.symm (h b<|a1 b a).2))
      have e1:=I5.pinned d6<|T.obj _ _ a7;refine thn (hg s H C _ s5 _ H5 x u _ e1 r5<|step x H5 y5) λ_ s6 ⟨c5,H6,I6,wk,q6⟩=>?_;refine thn (he s H C _ s6 c5 H6 _ I6 q6) λy s7 ⟨v,H7,I7,r7,n7⟩=>?_;obtain ⟨m',hm,w7⟩:=hNN v H7 n7;obtain ⟨e2,c1,_,_,_⟩:=I7.pin (D,{ cls:=.type "list", data:=.seq f.toArray n })<|Qw _<|List.mem_append_left _ W6;refine append_at (n:=n) e2 (λh' c3 e0=>?_) (by rw[Qh,<-rv.length]; exact c6);have d9:tn (i+1) s7.heap:=T.keep _ _ _ a7 λb a o e=>(I7.pin (b,o)<|Qw _<|Qw _<|ZbZ a e).1;have d2:∀b∈B,H7 b=none:=λb a=>by
        obtain ⟨o,e,d⟩:=T.obj _ _ a7 b a;exact (I7.pin (b,o)<|Qw _<|Qw _<|ZbZ a e).2.1
      have I8:Inv Y [] c5 H7 s7:=I7.pins_of λp j=>(nomatch j);have I9:Inv Y [] (st0 own.length caps σ) H7 s7:=I8.weak (by rw[I0.len,I8.len]) wk;have d4:Inv Y [] (st0 own.length caps σ) H7 { s7 with heap:=h' }:=I9.turned (t':=s7.toks) (it:=D) (λb o a e=>c3.extBut b o a e) c1 b0 (.inr<|Wo hDD) (λx c e=>by
        rcases Zil e with ⟨_,z⟩ | ⟨_,z⟩
        · rw[z,hC]; exact Us<|Nat.lt_succ_of_lt<|Uu _
        · exact Qc (Z x c<|sub x c z))<|λp j=>absurd (show p∈([]:List (Addr×Obj)) from j) (by simp)
      refine (m',hm,i+1,ys++[v],f++[y],n+1,H7,a2 d4 c1 ?_,?_,d2,rv.append<|.cons r7 .nil,w7)
      · rw[e0,List.push_toArray]
      · exact T.keep _ _ _ d9 λb a o e=>c3.extBut b o (h b<|a1 b a).2 e
  have d7:tn 0 L:=T.keep _ _ _ st λb _ o e=>A b o e;exact codeAny_compStart_list (a3 _ rfl)<|T.self _ 0 _ _ _ d7<|a3 _ rfl
def Zm6(x0:Str)(own:List Str)(caps:List (Nat×Str))(R:X.calm=true)(Y:PI X tg iter wi)(S:∀n a i C,PG (Zb2 X x0 scope (own++caps.map (·.2)) a i C n) tg g)(he:∀n a i C,PE (Zb2 X x0 scope (own++caps.map (·.2)) a i C n) elt te)
    (r:CapsOk X scope caps) (O:OneCell scope x0)
    (A:(scope.names.all λy=>!(y.2==NameKind.free)||(X.env.cells.lookup y.1).isSome)=true:=by rfl)
    (f:scope.kind = .function:=by rfl)
    (j:∀y∈scope.names,y.2 = .local->scope.names.lookup y.1=some .local:=by decide +kernel) (Z:∀x,foldedSetIterable iter X.env x=pure x:=by intro _; rfl) :
    PE X (.ListComp elt [(tg,iter,[],0)] scope pos) (ZjX own.length caps wi g te):=by
  intro k s G H Q I h;have d:=Zgn A;have l:=Zee d;rw[eval_ListComp];refine wpAny_comprehension_free (use:=none) rfl Z l f j<|thn (Y k s G H _ I h) λv s1 M=>thn M λa0 s2 h2=>?_;obtain ⟨it,n,tn,J,H2,e,t,T,E,W,hB⟩:=h2;subst e;refine Zj3 (RR:=λw C=>compPost (model X.prog X.w) X.A X.xe none (EP X k G Q) w C) t R T E W f O d r (S n) (he n) hB ?_;intro D C s' m P U u F hn I3 N L q;refine (m,hn,λh' B=>(.ref D,upd U D<|.lst P,?_,rfl,q D N));exact I3.turned (t':=s'.toks) (it:=C) (λb o hb e=>B.extBut b o hb e) (by rw[Zaj<|Ne.symm F]; exact L) (Ne.symm<|Qc<|Qa t.lt u) (.inr<|Q0 t.sz u)
    (λx c e z=>by
      obtain ⟨v,o,K,_⟩:=t.cell x c e;rw[z] at K;exact absurd (Qa (Heap.lt_size K) u)<|W0 _)
    (λp hp z=>by
      have:=(t.pin p hp).1;rw[z] at this;exact absurd (Qa (Heap.lt_size this) u)<|W0 _)
end
@[irreducible] def PEI (X:Cx) (e:Expr) (t:TE):Prop:=PE X e t
@[irreducible] def PSI (X:Cx) (st:Stmt) (t:TS):Prop:=PS X st t
@[irreducible] def PSsI (X:Cx) (st:List Stmt) (t:TS):Prop:=PSs X st t
def Fl(H:Hp)(x:V)(d:PyData):Prop:=(x = .non/\d = .none)\/(∃b,x = .bl b/\d = .bool b)\/(∃i,x = .int i/\d = .int i)\/(∃y,x = .str y/\d = .str y)\/(∃a,x = .ref a/\d = .dict []/\H a=some (.dK []))
def Rp(H:Hp):Nat->V->PyData->Prop
  | 0,x,d=>Fl H x d
  | n+1,x,d=>Fl H x d\/(∃a b c,x = .ref a/\d = .list c/\H a=some (.lst b)/\b.length=c.length/\∀(i:Nat) u e,b[i]?=some u->c[i]?=some e->Rp H n u e) ∨
      (∃a b c,x = .ref a/\d = .tuple c/\H a=some (.tup b)/\b.length=c.length/\∀(i:Nat) u e,b[i]?=some u->c[i]?=some e->Rp H n u e)
def Fl.same(h:Fl H x d)(S:Same H b):Fl b x d:=by
 rcases h with h|h|h|h|⟨a,e1,e2,h⟩
 ·exact .inl h
 ·exact .inr (.inl h)
 ·exact .inr (.inr<|.inl h)
 ·exact .inr (.inr<|.inr<|.inl h)
 ·exact .inr (.inr<|.inr<|.inr (a,e1,e2,S _ _ h))
def Rp.same(S:Same H c):∀ {n:Nat} {x:V} {d:PyData},Rp H n x d->Rp c n x d
 |0,_,_,h=>Fl.same h S
 |n+1,x,d,h=>by
  rcases h with h|⟨a,xs,ds,e1,e2,h,l,r⟩|⟨a,xs,ds,e1,e2,h,l,r⟩
  ·exact .inl (Fl.same h S)
  ·exact .inr (.inl (a,xs,ds,e1,e2,S _ _ h,l,λi u e a b=>Rp.same S<|r i u e a b))
  ·exact .inr (.inr (a,xs,ds,e1,e2,S _ _ h,l,λi u e a b=>Rp.same S<|r i u e a b))
def Rp.up:∀ {n:Nat} {x:V} {d:PyData},Rp H n x d->Rp H (n+1) x d
 |0,_,_,h => .inl h
 |n+1,x,d,h=>by
  rcases h with h|⟨a,xs,ds,e1,e2,h,l,r⟩|⟨a,xs,ds,e1,e2,h,l,r⟩
  ·exact .inl h
  ·exact .inr (.inl (a,xs,ds,e1,e2,h,l,λi u e a b=>Rp.up<|r i u e a b))
  ·exact .inr (.inr (a,xs,ds,e1,e2,h,l,λi u e a b=>Rp.up<|r i u e a b))
def Rp.mono{n m:Nat}(h:Rp H n x d)(l:n<=m):Rp H m x d:=by
  induction m with
  | zero => obtain rfl:n = 0:=⋯
            exact h
  | succ m a =>
    by_cases e:n=m+1
    · subst e; exact h
    · exact (a ⋯).up
section
variable{X:Cx}{pins:List (Addr×Obj)}{σ:St}{H:Hp}{s:Shared}
def ZqT(I:Inv X pins σ H s){a:Addr}(h:H a=some (.dK [])):(a==sysModules)=false/\s.heap.DictOf (ZdE X.prog X.w) a []:=by
 obtain ⟨_,z,c,b,p⟩:=(show ObjOk X.prog X.w H s.heap a (.dK []) from I.hok a _ h)
 cases b
 exact (z,p)
def ZeV{h:Heap}(d:h.DictOf (ZdE P w) a []):h.DictOf (ZdE g l) a []:=by
  obtain ⟨o,c,k,m,i,n,p,b,j⟩:=d;refine (o,c,k,m,i,n,?_,?_,j)
  · have:c.toList=[]:=by cases q:c.toList with
      | nil=>rfl
      | cons x r=>rw[q] at b; cases b
    intro e f;rw[Array.mem_def,this] at f
    cases f
  · cases q:c.toList with
    | nil=>exact .nil
    | cons x r=>rw[q] at b; cases b
def Fl.rc{A:Around}(I:Inv X pins σ H s)(n:A.units<cLine)(p:Fl H x d)(t:Fl H y d)(j:RelV x v)(h:RelV y u):SeqAt.RcAt A s v u true/\SeqAt.RcNeAt A s v u false:=by
 rcases p with ⟨rfl,rfl⟩|⟨b,rfl,rfl⟩|⟨i,rfl,rfl⟩|⟨z,rfl,rfl⟩|⟨a,rfl,rfl,ha⟩ <;> rcases t with ⟨rfl,e⟩|⟨b',rfl,e⟩|⟨i',rfl,e⟩|⟨z',rfl,e⟩|⟨a',rfl,e,ha'⟩ <;> cases e
 ·cases j;cases h;exact (SeqAt.RcAt.none_none,SeqAt.RcNeAt.none_none)
 ·cases j;cases h
  exact (by have:=SeqAt.RcAt.bool_bool (A:=A) (s:=s) b b;simpa using this,by have:=SeqAt.RcNeAt.bool_bool (A:=A) (s:=s) b b;simpa using this)
 ·obtain ⟨f,rfl⟩:=j;obtain ⟨g,rfl⟩:=h;exact (by have:=SeqAt.RcAt.int_int (A:=A) (s:=s) i f i g;simpa using this,by have:=SeqAt.RcNeAt.int_int (A:=A) (s:=s) i f i g;simpa using this)
 ·obtain ⟨f,rfl⟩:=j;obtain ⟨g,rfl⟩:=h;exact (by have:=SeqAt.RcAt.str_str (A:=A) (s:=s) z f z g;simpa using this,by have:=SeqAt.RcNeAt.str_str (A:=A) (s:=s) z f z g;simpa using this)
 ·cases j;cases h
  obtain ⟨o,k⟩:=ZqT I ha;obtain ⟨m,l⟩:=ZqT I ha';refine (λc w E Q q=>?_,λc w E Q q=>?_)
  ·exact PySem.W.keq_eq (knd:=ZdE c w) (r:=true) o m (ZeV k) (ZeV l) n (λ_ => .nil) q
  ·exact PySem.W.keq_ne (knd:=ZdE c w) (r:=true) o m (ZeV k) (ZeV l) n (λ_ => .nil) q
def Fl.at{A:Around}(I:Inv X pins σ H s)(l:A.units<cLine)(j:Fl H x d)(k:Fl H y d)(f:RelV x v)(c:RelV y u):SeqAt.EqAt A s v u true:=by
 have m:=(Fl.rc I l j k f c).1;rcases j with ⟨rfl,rfl⟩|⟨b,rfl,rfl⟩|⟨i,rfl,rfl⟩|⟨z,rfl,rfl⟩|⟨a,rfl,rfl,ha⟩ <;> rcases k with ⟨rfl,e⟩|⟨b',rfl,e⟩|⟨i',rfl,e⟩|⟨z',rfl,e⟩|⟨a',rfl,e,ha'⟩ <;> cases e
 ·cases f;cases c;exact SeqAt.EqAt.same _
 ·cases f;cases c;exact SeqAt.EqAt.same _
 ·obtain ⟨g,rfl⟩:=f;obtain ⟨h,rfl⟩:=c;have:=SeqAt.EqAt.int_int (A:=A) (s:=s) i g i h
  simpa using this
 ·obtain ⟨g,rfl⟩:=f;obtain ⟨h,rfl⟩:=c;have:=SeqAt.EqAt.str_str (A:=A) (s:=s) z g z h
  simpa using this
 ·cases f;cases c
  by_cases hab:a=a'
  ·subst hab;exact SeqAt.EqAt.same _
  ·exact SeqAt.EqAt.of_refs hab m
def Vals.at2{its:List Value}(r:Vals xs its){j:Nat}(h:j<its.toArray.size):∃x,xs[j]?=some x/\RelV x its.toArray[j]:=by
 have l:=r.length;have b:j<xs.length:=by simp at h;omega
 obtain ⟨c,a,e⟩:=r.get (i:=j) (x:=xs[j]) (by simp[b]);have d:its.toArray[j]=c:=by
  have:its[j]?=some its.toArray[j]:=by simp at h;simp[h]
  rw[this] at a;exact Option.some.inj a
 exact (xs[j],by simp[b],by rw[d];exact e)
def Zfd{α a:Type}{xs:List α}{ds:List a}{j:Nat}{x:α}(h:xs[j]?=some x)(l:xs.length=ds.length):∃d,ds[j]?=some d:=by
 have:=(Qp.mp h).1;exact (ds[j]'⋯,Q6 ⋯)
def Rp.both(I:Inv X pins σ H s):∀(n:Nat) (A:Around) (x y:V) (v u:Value) (d:PyData),A.units+n<cLine->Rp H n x d->Rp H n y d->RelV x v->RelV y u->SeqAt.EqAt A s v u true/\SeqAt.RcAt A s v u true/\SeqAt.RcNeAt A s v u false
  | 0,A,x,y,v,u,d,hu,hx,hy,rx,ry=>(Fl.at I hu hx hy rx ry,Fl.rc I hu hx hy rx ry)
  | n+1,A,x,y,v,u,d,hu,hx,hy,rx,ry=>by
    have h:A.units<cLine:=⋯;rcases hx with hx | ⟨a,xs,ds,rfl,rfl,ha,hl,hi⟩ | ⟨a,xs,ds,rfl,rfl,ha,hl,hi⟩
    · have p:Fl H y d:=by
        rcases hy with hy | ⟨b,c,k,rfl,rfl,hb,hm,hj⟩ | ⟨b,c,k,rfl,rfl,hb,hm,hj⟩
        · exact hy
        · rcases hx with ⟨_,e⟩ | ⟨_,_,e⟩ | ⟨_,_,e⟩ | ⟨_,_,e⟩ | ⟨_,_,e,_⟩ <;> cases e
        · rcases hx with ⟨_,e⟩ | ⟨_,_,e⟩ | ⟨_,_,e⟩ | ⟨_,_,e⟩ | ⟨_,_,e,_⟩ <;> cases e
      exact (Fl.at I h hx p rx ry,Fl.rc I h hx p rx ry)
    · obtain ⟨b,c,rfl,hb,hm,hj⟩:∃b c,y = .ref b/\H b=some (.lst c)/\c.length=ds.length/\∀(i:Nat) u e,c[i]?=some u->ds[i]?=some e->Rp H n u e:=by
        rcases hy with hy | ⟨b,c,k,e1,e2,hb,hm,hj⟩ | ⟨b,c,k,e1,e2,hb,hm,hj⟩
        · rcases hy with ⟨_,e⟩ | ⟨_,_,e⟩ | ⟨_,_,e⟩ | ⟨_,_,e⟩ | ⟨_,_,e,_⟩ <;> cases e
        · cases e2; exact (b,c,e1,hb,hm,hj)
        · cases e2
      cases rx
      cases ry
      obtain ⟨g,q,D,_⟩:=I.list<|SqL.of ha;obtain ⟨f,t,z,_⟩:=I.list<|SqL.of hb;have J:=q.length;have L:=t.length;have r:∀(j:Nat) (w:j<g.toArray.size) (B:j<f.toArray.size),SeqAt.EqAt A.in1 s g.toArray[j] f.toArray[j] true:=λj w B=>by
        obtain ⟨M,m,G⟩:=q.at2 w;obtain ⟨K,F,E⟩:=t.at2 B;obtain ⟨d,o⟩:=Zfd m hl;exact (Rp.both I n A.in1 _ _ _ _ d (by show A.units+1+n<cLine; omega) (hi j _ _ m o) (hj j _ _ F o) G E).1
      have l:=SeqAt.RcAt.lists (A:=A) (e:=λ_=>true) D.isList z.isList (by simp; omega) h r;have C:=SeqAt.RcNeAt.lists (A:=A) (e:=λ_=>true) D.isList z.isList (by simp; omega) h r;rw[ZdA] at l C;refine (?_,l,C)
      by_cases hab:a=b
      · subst hab; exact SeqAt.EqAt.same _
      · exact SeqAt.EqAt.of_refs hab l
    · obtain ⟨b,c,rfl,hb,hm,hj⟩:∃b c,y = .ref b/\H b=some (.tup c)/\c.length=ds.length/\∀(i:Nat) u e,c[i]?=some u->ds[i]?=some e->Rp H n u e:=by
        rcases hy with hy | ⟨b,c,k,e1,e2,hb,hm,hj⟩ | ⟨b,c,k,e1,e2,hb,hm,hj⟩
        · rcases hy with ⟨_,e⟩ | ⟨_,_,e⟩ | ⟨_,_,e⟩ | ⟨_,_,e⟩ | ⟨_,_,e,_⟩ <;> cases e
        · cases e2
        · cases e2; exact (b,c,e1,hb,hm,hj)
      cases rx
      cases ry
      obtain ⟨g,q,D,_⟩:=I.tuple<|SqT.of ha;obtain ⟨f,t,z,_⟩:=I.tuple<|SqT.of hb;have J:=q.length;have L:=t.length;have r:∀(j:Nat) (w:j<g.toArray.size) (B:j<f.toArray.size),SeqAt.EqAt A.in1 s g.toArray[j] f.toArray[j] true:=λj w B=>by
        obtain ⟨M,m,G⟩:=q.at2 w;obtain ⟨K,F,E⟩:=t.at2 B;obtain ⟨d,o⟩:=Zfd m hl;exact (Rp.both I n A.in1 _ _ _ _ d (by show A.units+1+n<cLine; omega) (hi j _ _ m o) (hj j _ _ F o) G E).1
      have k:(g.toArray.size==f.toArray.size)=true:=by simp; omega
      have l:=SeqAt.RcAt.tuples (A:=A) (e:=λ_=>true) D z h r;have C:=SeqAt.RcNeAt.tuples (A:=A) (e:=λ_=>true) D z h r;rw[ZdA,k] at l C;refine (?_,l,C)
      by_cases hab:a=b
      · subst hab; exact SeqAt.EqAt.same _
      · exact SeqAt.EqAt.of_refs hab l
end
section
variable{X:Cx}{k:Nat}
def ZtG:R2:=λx y H Q=>∃d,Rp H 8 x d/\Rp H 8 y d/\Q (.bl true) H
def ZtH:R2:=λx y H Q=>∃d,Rp H 8 x d/\Rp H 8 y d/\Q (.bl false) H
def ZqU(hr:Room k X.A):OpR X (compareOp .Eq) ZtG:=by
 intro a s g H x y v u Q I e c h;obtain ⟨d,b,f,q⟩:=h;have i:=hr.units;exact (Rp.both I 8 X.A x y v u d ⋯ b f e c).2.1 _ _ _ _ (.bl true,H,I,rfl,q)
def ZqV(hr:Room k X.A):OpR X (compareOp .NotEq) ZtH:=by
 intro a s g H x y v u Q I e c h;obtain ⟨d,b,f,q⟩:=h;have i:=hr.units;exact (Rp.both I 8 X.A x y v u d ⋯ b f e c).2.2 _ _ _ _ (.bl false,H,I,rfl,q)
end
def All2(R:V->PyData->Prop)(xs:List V)(ds:List PyData):Prop:=xs.length=ds.length/\∀(i:Nat) v d,xs[i]?=some v->ds[i]?=some d->R v d
section
variable{R R':V->PyData->Prop}{xs ys:List V}{ds es:List PyData}{x:V}{d:PyData}
def All2.nil:All2 R [] []:=(rfl,λi v d h=>by simp at h)
def All2.cons(h:R x d)(t:All2 R xs ds):All2 R (x::xs) (d::ds):=by
 refine (by simp[t.1],λi v e b a=>?_)
 cases i with
 |zero=>cases b;cases a;exact h
 |succ i=>exact t.2 i v e (by simpa using b) (by simpa using a)
def ZqW{H:Hp}(h:H a=some (.tup xs))(g:All2 (Rp H n) xs ds):Rp H (n+1) (.ref a) (.tuple ds):=.inr<|.inr (a,xs,ds,rfl,rfl,h,g.1,g.2)
end
def Bits.le{i j:Int}(h:Bits n j)(l:i.natAbs<=j.natAbs):Bits n i:=Bits.of<|Q7 l h.lt
def Bits.up{n m:Nat}(h:Bits n i)(l:n<=m):Bits m i:=Q0 h l
def Bits.mulT(h:Bits 1000000 i)(h':Bits 1000000 j):IntMulOk i j:=Bits.mul (h.up ∅)<|h'.up ∅
def Bits.mulG(h:Bits 1000000 i)(h':Bits 4000 j):IntMulOk i j:=h.mulT<|h'.up ∅
def Bits.times(h:Bits n i)(h':Bits m j):Bits (n+m) (i*j):=Bits.of (by
 rw[Ql,W4];exact Nat.mul_lt_mul'' h.lt h'.lt)
def Bits.log{i:Int}(h:Bits n i)(a:i≠0):i.natAbs.log2<n:=by
 have:i.natAbs.log2+1<=n:=by unfold Bits Builtin.Int.intBits at h;simpa [a] using h
 omega
section
variable{X:Cx}
def ZbV:OpR X (binaryOp .FloorDiv) (rI (λ_ j=>j≠0/\Bits 4000 j) λi j => .int<|i.fdiv j):=opI λ_ _ _ _ _ _ _ a q=>floordiv_int a.1 q<|.inl<|PyProof.noPylong_of_log2<|Nat.lt_trans (a.2.log a.1) ∅
end
def AllG{a:Type}(R:V->a->Prop)(xs:List V)(ds:List a):Prop:=xs.length=ds.length/\∀(i:Nat) v d,xs[i]?=some v->ds[i]?=some d->R v d
section
variable{β:Type}{R R':V->β->Prop}{xs ys:List V}{ds es:List β}{x:V}{d:β}
def AllG.nil:AllG R [] []:=(rfl,λi v d h=>by simp at h)
def AllG.cons(h:R x d)(t:AllG R xs ds):AllG R (x::xs) (d::ds):=by
 refine (by simp[t.1],λi v e b a=>?_)
 cases i with
 |zero=>cases b;cases a;exact h
 |succ i=>exact t.2 i v e (by simpa using b) (by simpa using a)
def AllG.mono(h:AllG R xs ds)(f:∀v d,R v d->R' v d):AllG R' xs ds:=(h.1,λi v d a b=>f v d<|h.2 i v d a b)
def AllG.append(h:AllG R xs ds)(g:AllG R ys es):AllG R (xs++ys) (ds++es):=by
 refine (by rw[Qi,Qi,h.1,g.1],λi v e b a=>?_);have l:=h.1
 by_cases hi:i<xs.length
 ·rw[Wr hi] at b;rw[Wr ⋯] at a;exact h.2 i v e b a
 ·rw[Wz ⋯] at b a;rw[<-l] at a;exact g.2 _ v e b a
def AllG.one(h:R x d):AllG R [x] [d]:=.cons h .nil
def AllG.get(h:AllG R xs ds){i:Nat}(a:xs[i]?=some x):∃d,ds[i]?=some d/\R x d:=by
 obtain ⟨d,e⟩:=Zfd a h.1;exact (d,e,h.2 i x d a e)
end
section
variable{X:Cx}{k:Nat}
def Zob{x y:V}(r:Vals [x,y] us):∃u v,us=[u,v]/\RelV x u/\RelV y v:=by
 cases r with
 |cons r t=>cases t with
  |cons b a=>cases a;exact (_,_,rfl,r,b)
end
def Itv(K:ZZfg)(a:Addr)(n:Nat):It :=
 (λi H=>i<n/\∃b,SqL K H a b/\b.length=n,λi H x c=>c=H/\∀b,SqL K H a b->b[n-1-i]?=some x,λi _=>i=n)
def Zm7{K:ZZfg}(a it:Addr)(n:Nat):Turn P w K W (Itv K a n) [it] it (λi h=>h.IsRevIter it a<|(n:Int)-1-(i:Int)) where
 mem:=by simp
 obj:=λi h f b j=>by
  have e:b=it:=by simpa using j
  subst e;obtain ⟨o,e,c,d⟩:=f;exact (o,e,λv z=>by rw[d] at z;cases z)
 keep:=λi h r f k=>f.at λo e=>k it (by simp) o e
 item:=by
  intro X C A B O i g s L H E I q f m;subst C A B;obtain ⟨hi,Q,M,hn⟩:=m;obtain ⟨Y,rv,p,hz⟩:=I.list M;have N:Q[n-1-i]?=some (Q[n-1-i]'⋯):=Q6 ⋯;obtain ⟨u,R,U⟩:=rv.get N;obtain ⟨t,F,f2,J,y,G⟩:=q it (by simp);have D:(n:Int)-1-(i:Int)=((n-1-i:Nat):Int):=⋯;rw[D] at f;refine wpAny_pyNext_rev_item f p.isList (x:=u) (by simpa using R) λr l sb=>?_;have T:((n-1-i:Nat):Int)-1=(n:Int)-1-((i+1:Nat):Int):=⋯;rw[T] at l;have S:Inv X g L H { s with heap:=r }:=I.turned (t':=s.toks) (λb o j e=>(sb.2 b j).trans e) t F J y G;obtain ⟨o,e,c,d⟩:=id l;exact (u,rfl,ZkA (s:={ s with heap:=r }) e c d ∅ (_,H,S,U,(rfl,λys hy=>by rw[I.list_inj hy M];exact N),l,λb j=>(q b j).1))
 done:=by
  intro X C A B O i g s L H E I q f m;subst C A B;have m:i=n:=m;subst m;obtain ⟨t,F,f2,J,y,G⟩:=q it (by simp);have D:(i:Int)-1-(i:Int) = -1:=⋯;rw[D] at f;exact wpAny_pyNext_rev_end (I.ok.hd O) f λr Z=>(rfl,I.turned (t':=s.toks) (λb o j e=>Z b o j e) t F J y G)
 self:=λ_ _ _ _ _ f h=>wpAny_pyIter_revIter f h
section
variable{X:Cx}{tg:Expr}
inductive ZqX (K:ZZfg) (vs:List V) (H1:Hp) (R:It->Hp->Prop):Prop
 |mk (a:Addr) (xs:List V) (_:vs=[.ref a]) (_:SqL K H1 a xs) (_:R (Itv K a xs.length) H1):ZqX K vs H1 R
def Zub(K:ZZfg)(a:TA):TI:=λb H R=>a b H λd c=>ZqX K d c R
def ZqY{e1:Expr}{p g:Pos}(D:Gl X "reversed") (C:X.mg "reversed" = none) (x:PA X [e1] k) (v:starEach [e1] X.env=[(false,eval e1 X.env)]:=by rfl) :
    PI X tg (.Call (.Name "reversed" p) [e1] [] g) (Zub X.K k):=by
  intro d s m H R I h;refine wpAny_Call_Name_kw<|Zdy I D C PyProof.Rows.Boot.«reversed»<|PyProof.Rows.callWith_type1 (thn (x g d s m H _ I h) λE c ⟨G,w,i,t,A⟩=>?_) (by rw[v]; rfl) (by rfl);obtain ⟨a,j,e,n,q⟩:=A;subst e;obtain ⟨u,rfl,y⟩:=Zhp t
  cases (show u=Value.ref a from y)
  obtain ⟨f,B,r,_⟩:=i.list n;have F:=B.length;refine call_reversed_list r.isList ?_;have l:({ c with heap:=c.heap.push (revObj a<|(f.toArray.size:Int)-1) }:Shared).heap.IsRevIter c.heap.objs.size a ((j.length:Int)-1-((0:Nat):Int)):=by
    refine (_,Heap.get?_push_size _ rfl,rfl,?_);have:(f.toArray.size:Int)-1=(j.length:Int)-1-((0:Nat):Int):=by rw[Qh]; omega
    rw[<-this]; rfl
  refine wpAny_pyIter_revIter l ?_;refine (c.heap.objs.size,[c.heap.objs.size],_,_,w,rfl,i.kept (t':=c.toks) λb o e=>Heap.get?_push_of_some _ e,Zm7 a _ j.length,l,λb z=>?_,q);have e:b=c.heap.objs.size:=by simpa using z
  subst e;exact i.fpOk (Q4 _)<|i.hok.fresh<|Q4 _
end
def Zpt(H:Hp)(x y:V)(b:Bool):Prop:=(∃i j:Int,x = .int i/\y = .int j/\b=decide (i=j)) ∨
 (∃(a c:Addr) (g d e f:Int),x = .ref a/\y = .ref c/\H a=some (.tup [.int g,.int d])/\H c=some (.tup [.int e,.int f])/\b=(decide (g=e)&&decide (d=f)))
section
variable{X:Cx}{k:Nat}
inductive ZsH (x y:V) (H:Hp) (Q:VK):Prop
 |mk (b:Bool) (_:Zpt H x y b) (_:Q (.bl b) H):ZsH x y H Q
inductive ZsI (x y:V) (H:Hp) (Q:VK):Prop
 |mk (b:Bool) (_:Zpt H x y b) (_:Q (.bl !b) H):ZsI x y H Q
def Zlg{n1 d1 n2 d2:Int}{A:Around}(I:Inv X f x H s)(C:H a=some (.tup [.int n1,.int d1]))(E:H c=some (.tup [.int n2,.int d2]))(q:A.units<cLine) :
    SeqAt.RcAt A s (.ref a) (.ref c) (decide (n1=n2)&&decide (d1=d2))/\SeqAt.RcNeAt A s (.ref a) (.ref c) (!(decide (n1=n2)&&decide (d1=d2))):=by
  obtain ⟨D,y,w,_⟩:=I.tuple<|SqT.of C;obtain ⟨J,L,rfl,n,o⟩:=Zob y;obtain ⟨b,rfl⟩:=n;obtain ⟨g,rfl⟩:=o;obtain ⟨B,z,t,_⟩:=I.tuple<|SqT.of E;obtain ⟨G,K,rfl,l,i⟩:=Zob z;obtain ⟨h,rfl⟩:=l;obtain ⟨d,rfl⟩:=i;have p:∀(j:Nat) (r:j<(#[Value.int n1 b,Value.int d1 g]:Array Value).size) (F:j<(#[Value.int n2 h,Value.int d2 d]:Array Value).size),SeqAt.EqAt A.in1 s (#[Value.int n1 b,Value.int d1 g]:Array Value)[j] (#[Value.int n2 h,Value.int d2 d]:Array Value)[j] (if j=0 then n1==n2 else d1==d2):=λj r F=>by
    have m:j<2:=r
    match j,m with
    | 0,_=>exact SeqAt.EqAt.int_int n1 b n2 h
    | 1,_=>exact SeqAt.EqAt.int_int d1 g d2 d
  have e:((List.range<|min (#[Value.int n1 b,Value.int d1 g]).size (#[Value.int n2 h,Value.int d2 d]).size).all (λj=>if j=0 then n1==n2 else d1==d2)&&(#[Value.int n1 b,Value.int d1 g]).size==(#[Value.int n2 h,Value.int d2 d]).size)=(decide (n1=n2)&&decide (d1=d2)):=by
    show ((n1==n2)&&((d1==d2)&&true)&&true)=_;rw[Bool.and_true,Bool.and_true]
    rfl
  have u:=SeqAt.RcAt.tuples (A:=A) (e:=λj=>if j=0 then n1==n2 else d1==d2) w t q p;have v:=SeqAt.RcNeAt.tuples (A:=A) (e:=λj=>if j=0 then n1==n2 else d1==d2) w t q p;rw[e] at u v;exact (u,v)
def ZqZ(hr:Room k X.A):OpR X (compareOp .Eq) ZsH:=by
 intro d s g H x y v u Q I f e h;obtain ⟨b,l,q⟩:=h;rcases l with ⟨i,j,rfl,rfl,rfl⟩|⟨a,c,n1,d1,n2,d2,rfl,rfl,ha,hc,rfl⟩
 ·refine Zbr d s g H _ _ v u Q I f e (rfl,?_);have:decide (V.int i=V.int j)=decide (i=j):=by rw[Zgh];rfl
  rw[this];exact q
 ·cases f
  cases e
  have m:X.A.units<cLine:=by have:=hr.units;omega
  exact (Zlg I ha hc m).1 _ _ _ _ (.bl _,H,I,rfl,q)
def Zoc(hr:Room k X.A):OpR X (compareOp .NotEq) ZsI:=by
 intro d s g H x y v u Q I f e h;obtain ⟨b,l,q⟩:=h;rcases l with ⟨i,j,rfl,rfl,rfl⟩|⟨a,c,n1,d1,n2,d2,rfl,rfl,ha,hc,rfl⟩
 ·refine Zgi d s g H _ _ v u Q I f e (rfl,?_);have:decide (V.int i=V.int j)=decide (i=j):=by rw[Zgh];rfl
  rw[this];exact q
 ·cases f
  cases e
  have m:X.A.units<cLine:=by have:=hr.units;omega
  exact (Zlg I ha hc m).2 _ _ _ _ (.bl _,H,I,rfl,q)
end
end L2
namespace My
open PySem L2 PyProof.Rows
def top(i:Nat):Stmt:=PySem.Challenge.pw_turnframe_k46_least.main.body.getD i<|.Pass (0,0,0,0)
abbrev Zeh:Stmt:=top 13
abbrev Zfe:Stmt:=top 14
abbrev Zgr:Stmt:=top 15
abbrev Zc0:Stmt:=top 16
abbrev Zei:Stmt:=top 17
abbrev Zcw:Stmt:=ZaU (top 19) 0
abbrev Zbg:Stmt:=ZaU (top 19) 2
abbrev ZaV:Stmt:=ZaU (top 20) 0
abbrev ZbL:Stmt:=ZaU (top 20) 1
abbrev ZbA:Stmt:=ZaU (top 20) 2
abbrev ZbB:Stmt:=ZaU (top 20) 3
abbrev ZbM:Stmt:=ZaU (top 20) 4
abbrev ZaR:Stmt:=ZaU (top 20) 5
abbrev ZaX:Stmt:=ZaU (top 20) 6
abbrev Zbb:Stmt:=ZaU (top 20) 8
abbrev ZbN:Stmt:=ZaU (top 21) 0
abbrev Zbh:Stmt:=ZaU (top 21) 1
abbrev Zc1:Stmt:=ZaU (top 21) 2
abbrev Zcx:Stmt:=ZaU (top 21) 3
abbrev Zcy:Stmt:=ZaU (top 21) 4
abbrev Zc2:Stmt:=ZaU (top 21) 5
abbrev Za4:Stmt:=ZaU (top 21) 6
abbrev ZbC:Stmt:=ZaU (top 21) 7
abbrev Zb3:Stmt:=top 23
abbrev ZbW:Stmt:=top 24
abbrev Zej:Stmt:=top 25
abbrev ZdH:Stmt:=top 26
abbrev Zgs:Stmt:=top 27
abbrev Zc3:Stmt:=top 28
abbrev Zgt:Stmt:=top 29
abbrev Zek:Stmt:=top 30
abbrev ZdI:Stmt:=top 31
abbrev Zim:Stmt:=top 32
abbrev Zch:Stmt:=top 33
abbrev Zff:Stmt:=top 35
abbrev ZbO:Stmt:=top 36
abbrev ZbP:Stmt:=ZaU (top 37) 0
abbrev Zc4:Stmt:=ZaU (top 37) 2
abbrev Zcz:Stmt:=ZaU (top 37) 3
abbrev ZcA:Stmt:=ZaU (top 37) 4
abbrev Zfg:Stmt:=top 38
abbrev Zgu:Stmt:=top 39
abbrev Zb4:Stmt:=top 40
abbrev Zce:Stmt:=top 41
abbrev Zb5:Stmt:=top 42
abbrev ZcB:Stmt:=top 43
abbrev ZbQ:Stmt:=top 45
abbrev ZbD:Stmt:=top 46
abbrev Zgv:Stmt:=top 48
abbrev Zfh:Stmt:=top 49
abbrev ZdJ:Stmt:=top 50
abbrev Zci:Stmt:=top 51
abbrev Zcj:Stmt:=top 52
abbrev Zel:Stmt:=top 53
abbrev Zgw:Stmt:=top 54
abbrev Zem:Stmt:=top 55
abbrev ZcC:Stmt:=top 56
abbrev Zfi:Stmt:=top 58
abbrev ZdK:Stmt:=top 59
abbrev Zc5:Stmt:=top 60
abbrev Zfj:Stmt:=top 61
abbrev Zc6:Stmt:=top 62
abbrev Zgx:Stmt:=top 63
abbrev Zc7:Stmt:=top 64
abbrev Zgy:Stmt:=top 65
abbrev Zgz:Stmt:=top 66
abbrev Zfk:Stmt:=top 67
abbrev Zfl:Stmt:=top 68
abbrev ZcD:Stmt:=top 69
abbrev Zfm:Stmt:=top 70
abbrev Zfn:Stmt:=top 71
abbrev Zen:Stmt:=top 72
abbrev Zeo:Stmt:=top 73
abbrev ZgA:Stmt:=top 74
abbrev ZdL:Stmt:=top 75
abbrev ZdM:Stmt:=top 76
abbrev ZgB:Stmt:=top 77
abbrev ZdN:Stmt:=top 78
abbrev ZdO:Stmt:=top 79
abbrev Zep:Stmt:=top 80
abbrev Zd2:Stmt:=top 81
abbrev Zfo:Stmt:=top 82
abbrev Zpu:Stmt:=top 83
structure Nm (mg:ZZmg):Prop where
 abs:mg "abs"=none
 isinstance:mg "isinstance"=none
 int:mg "int"=none
 bool:mg "bool"=none
 tuple:mg "tuple"=none
 list:mg "list"=none
 len:mg "len"=none
 range:mg "range"=none
 PB:∃t,mg "PRIME_BOUND"=some (.int 1000000 t)
def nm_mk{mg:ZZmg}{v:Value}(h:mg "PRIME_BOUND"=some v) (k:∃t,v = .int 1000000 t) (b:mg "abs"=none) (g:mg "isinstance"=none) (f:mg "int"=none) (d:mg "bool"=none) (a:mg "tuple"=none) (c:mg "list"=none) (j:mg "len"=none) (i:mg "range"=none):Nm mg :=
 (b,g,f,d,a,c,j,i,let ⟨t,e⟩:=k;(t,by rw[h,e]))
structure Kd (K:ZZfg) (mg:ZZmg) (CF CR:Addr):Prop where
 clF:Cls K CF
 clR:Cls K CR
 nP:NoAttr K CR "prime"
 mkF:Mk0 K CF
 mgF:mg "Fractions"=some (.ref CF)
 mgR:mg "Rests"=some (.ref CR)
def fsR(p:Int):List (Str×V):=Zhr "prime" (.int p) []
def Zb6(p:Int):(fsR p).lookup ("prime":Str)=some (.int p):=by
 unfold fsR;rw[Zcs,if_pos rfl]
def ZdB(p:Int){m:Str}(h:¬m ="prime"):(fsR p).lookup m=none:=by
 unfold fsR;rw[Zcs,if_neg h]
 rfl
structure Fc (a b:Int):Prop where
 pos:0<b
 cop:Int.gcd a b=1
def FrA(b:Addr)(H:Hp)(a:Addr):Prop:=∃c,H a=some (.ins b c [])
def Zlh{b:Int}(h:0<b):0<b.natAbs:=Nat.pos_of_ne_zero<|Int.natAbs_ne_zero.mpr<|Int.ne_of_gt h
inductive ZaZ (vs:List V) (H:Hp) (Q:VK) (zE:XK):Prop
 |mk (a b:Int) (_:vs=[.int a,.int b]) (_:Q (.int (Int.gcd a b)) H):ZaZ vs H Q zE
section
variable{P:Program}{w:World}{K:ZZfg}{mg:ZZmg}{base:Heap}
def sc_divisor:FnScope ["one","other","rest"] ["one","other"] (Zab Zfe):=‹2›
def Zj4(h:Here K mg "divisor" Zfe) (T:Nm mg):Has P w K mg base "divisor" 1 ["one", "other"] ZaZ:=by
  refine h.has (λ_ _ F=>F.b2 λ_ _ _ _ _ _ _ _=>rfl) λf q F=>F.ok sc_divisor (λo H Q E h=>?_)<|λn A d s H o Q E p h=>?_
  · obtain ⟨a,b,rfl,_⟩:=h
    rfl
  obtain ⟨x,y,rfl,k⟩:=h;have e:=sc_divisor.nd;refine (_,(Zag (Zcc PassesOwn.never (Zay Zgi (pv 1) Zac<|ZaC _)<|Zag (ZaE (i:=2) e rfl (Or.inl rfl)<|Zap Zbn (pv 0)<|pv 1)
      (Zag (ZaE (i:=0) e rfl (Or.inl rfl)<|pv 1)
      (Zad<|ZaE (i:=1) e rfl (Or.inl rfl)<|pv 2)))
    (Zad<|Zaq<|Zao Zjb (by rfl) T.abs boot_abs<|Zaa (pv 0) Zaf)),?_)
  refine (λm j l=>∃(a b:Int) (r:Option V),m=b.natAbs/\j=[some<|.int a,some<|.int b,r]/\l=H/\Int.gcd a b=Int.gcd x y,(_,x,y,none,rfl,rfl,rfl,rfl),?_);rintro m j l ⟨a,b,r,rfl,rfl,rfl,g⟩;refine (_,rfl,rfl,_,rfl,?_);refine Zf2 (λc=>(_,λ_ _ h=>h,?_))<|λc=>?_
  · refine (_,rfl,_,rfl,_,_,rfl,rfl,c,_,rfl,_,rfl,?_)
    exact (_,M1.fmod_lt a c,b,a.fmod b,_,rfl,rfl,rfl,by rw[M1.fmod_gcd]; exact g)
  · refine (_,rfl,_,rfl,?_)
    subst c;rw[<-M1.gcd_zero' a,g];exact k
def sc_l_divisor:FnScope ["_law_one","_law_other"] ["_law_one","_law_other"] (Zab ZdK):=‹2›
def ZhH(h:Here K mg "_law_divisor" ZdK) (T:Nm mg):Has P w K mg base "_law_divisor" 1 ["_law_one","_law_other"] ZaZ:=by
 refine h.has (λ_ _ F=>F.b2 λ_ _ _ _ _ _ _ _=>rfl) λf r F=>F.ok sc_l_divisor (λo H Q E h=>?_)<|λn A d s H o Q E q h=>?_
 ·obtain ⟨a,b,rfl,_⟩:=h
  rfl
 obtain ⟨x,y,rfl,k⟩:=h;have p:=sc_l_divisor.nd;refine (_,(Zag (Zcc PassesOwn.never (Zay Zgi (pv 1) Zac<|ZaC _)<|Zad<|ZqA (i:=0) (j:=1) rfl p rfl rfl ∅ rfl rfl (Zaa (pv 1)<|Zaa (Zap Zbn (pv 0)<|pv 1) Zaf) rfl)
  (Zad<|Zaq<|Zao Zjb (by rfl) T.abs boot_abs<|Zaa (pv 0) Zaf)),?_)
 refine (λm e l=>∃(a b:Int),m=b.natAbs/\e=[some<|.int a,some<|.int b]/\l=H/\Int.gcd a b=Int.gcd x y,(_,x,y,rfl,rfl,rfl,rfl),?_);rintro m e l ⟨a,b,rfl,rfl,rfl,g⟩;refine (_,rfl,rfl,_,rfl,?_);refine Zf2 (λc=>(_,λ_ _ h=>h,?_))<|λc=>?_
 ·refine (_,rfl,_,rfl,_,rfl,_,_,rfl,rfl,c,_,_,rfl,?_);exact (_,M1.fmod_lt a c,b,a.fmod b,rfl,rfl,rfl,by rw[M1.fmod_gcd];exact g)
 ·refine (_,rfl,_,rfl,?_);subst c;rw[<-M1.gcd_zero' a,g];exact k
end
inductive Zd3 (vs:List V) (H:Hp) (Q:VK) (zE:XK):Prop
 |mk (i:Int) (_:vs=[.int i]) (_:Q (.bl true) H):Zd3 vs H Q zE
section
variable{P:Program}{w:World}{K:ZZfg}{mg:ZZmg}{base:Heap}
def Zin:FnScope ["thing"] ["thing"] (Zab Zeh):=‹2›
def Zio(h:Here K mg "is_whole" Zeh) (T:Nm mg):Has P w K mg base "is_whole" 1 ["thing"] Zd3:=by
 refine h.has (λ_ _ F=>F.b1 λ_ _ _ _ _ _ _=>rfl) λf e F=>F.ok Zin (λc H Q E h=>?_)<|λb A a s H c Q E d h=>?_
 ·obtain ⟨_,rfl,_⟩:=h
  rfl
 obtain ⟨i,rfl,k⟩:=h;refine (_,(Zad<|Zaq<|Zhn (Zao Zbz (by rfl) T.isinstance boot_isinstance<|Zaa (pv 0)<|Zaa (Zcg (by rfl) T.int boot_int) Zaf)<|Zhm<|Zn1<|Zao Zbz (by rfl) T.isinstance boot_isinstance<|Zaa (pv 0)<|Zaa (Zcg (by rfl) T.bool boot_bool) Zaf),?_);refine (_,rfl,_,_,_,_,rfl,.int i,ZbT K _,_,rfl,?_);refine Zkv ?_;exact (_,rfl,_,_,_,_,rfl,.int i,ZeG K,_,rfl,k)
def Zj5:FnScope ["_law_found"] ["_law_found"] (Zab Zfi):=‹2›
def Zj6(h:Here K mg "_law_whole" Zfi) (T:Nm mg):Has P w K mg base "_law_whole" 1 ["_law_found"] Zd3:=by
 refine h.has (λ_ _ F=>F.b1 λ_ _ _ _ _ _ _=>rfl) λf e F=>F.ok Zj5 (λc H Q E h=>?_)<|λb A a s H c Q E d h=>?_
 ·obtain ⟨_,rfl,_⟩:=h
  rfl
 obtain ⟨i,rfl,k⟩:=h;refine (_,(Zad<|Zaq<|Zhn (Zao Zbz (by rfl) T.isinstance boot_isinstance<|Zaa (pv 0)<|Zaa (Zcg (by rfl) T.int boot_int) Zaf)<|Zhm<|Zn1<|Zao Zbz (by rfl) T.isinstance boot_isinstance<|Zaa (pv 0)<|Zaa (Zcg (by rfl) T.bool boot_bool) Zaf),?_);refine (_,rfl,_,_,_,_,rfl,.int i,ZbT K _,_,rfl,?_);refine Zkv ?_;exact (_,rfl,_,_,_,_,rfl,.int i,ZeG K,_,rfl,k)
end
inductive Zd4 (vs:List V) (H:Hp) (Q:VK) (zE:XK):Prop
 |mk (n:Int) (_:vs=[.int n]) (_:n<1000000) (_:(M2.Prm n->Q (.bl true) H)) (_:(¬M2.Prm n->Q (.bl false) H)):Zd4 vs H Q zE
section
variable{P:Program}{w:World}{K:ZZfg}{mg:ZZmg}{base:Heap}
def sc_is_prime:FnScope ["number","trial"] ["number"] (Zab Zei):=‹2›
def Zip(h:Here K mg "is_prime" Zei) (T:Nm mg):Has P w K mg base "is_prime" 1 ["number"] Zd4:=by
 refine h.has (λ_ _ F=>F.b1 λ_ _ _ _ _ _ _=>rfl) λf N F=>F.ok sc_is_prime (λD H Q E h=>?_)<|λB A j s H D Q E M h=>?_
 ·obtain ⟨_,rfl,_⟩:=h
  rfl
 obtain ⟨n,rfl,I,l,c⟩:=h;have u:=sc_is_prime.nd;obtain ⟨y,g⟩:=T.PB;refine (_,(Zag (ZaY (ZcW (Zay ZdW (pv 0) Zac<|ZaC _)<|ZcO<|Zay Zsy (pv 0) (Zcq (v:=.int 1000000) (by rfl) g (y,rfl))<|ZaC _).pt (Zad<|Zaq ZdV) Zav)
  (Zag (ZaY (Zay Zbr (Zap ZcQ (pv 0) Zac) Zac<|ZaC _) (Zad<|Zaq<|Zcr Zbr (pv 0) Zac<|ZaC _) Zav)
  (Zag (ZaE (i:=1) u rfl (Or.inl rfl) Zac)
  (Zag (Zcc PassesOwn.never (Zay Zo3 (Zap ZaK (pv 1)<|pv 1) (pv 0)<|ZaC _)<|Zag (ZaY (Zay Zbr (Zap Zbn (pv 0)<|pv 1) Zac<|ZaC _) (Zad<|Zaq ZdV) Zav)
   (Zad<|Zi6 (i:=1) u rfl (Or.inl rfl) Zac Zn2))
  (Zad<|Zaq ZdV))))),?_)
 refine (_,rfl,_,_,rfl,rfl,_,rfl,?_);refine ZcR (λh=>Zkv (c λp=>by have:=p.1;omega))<|λL=>?_;refine (_,rfl,_,_,rfl,rfl,_,rfl,?_);refine ZcR (λh=>absurd h ⋯)<|λ_=>?_;refine (_,rfl,_,_,rfl,rfl,(by show (0:Int)<_;decide),rfl,_,rfl,?_);refine Zb1 (λe=>?_)<|λe=>?_
 ·refine (_,rfl,rfl,?_);rw[Zie];have a:=M2.prm_even (n:=n) ⋯ e
  by_cases hp:n=2
  ·rw[decide_eq_true hp];exact l<|a.mpr hp
  ·rw[decide_eq_false hp];exact c λz=>hp<|a.mp z
 refine (λm k q=>∃t:Int,m=(n+2-t).toNat/\k=[some<|.int n,some<|.int t]/\q=H/\3<=t/\t%2=1/\t<=n+2/\M2.No n t,(_,3,rfl,rfl,rfl,⋯,⋯,⋯,M2.No.odd e),?_);rintro m k q ⟨t,rfl,rfl,rfl,J,C,x,o⟩;have r:t.natAbs<=10^150:=Q0 (show t.natAbs<=1000002 by omega) ∅;refine (_,rfl,_,rfl,_,_,rfl,rfl,(Zbu r r),_,rfl,_,_,rfl,rfl,_,rfl,?_);refine ZcR (λb=>(_,λ_ _ h=>h,?_))<|λb=>?_
 ·refine (_,rfl,_,rfl,_,_,rfl,rfl,(show t≠0 by omega),rfl,_,rfl,?_);have G:=M2.le_of_sq ⋯ b;refine Zb1 (λz=>c<|M2.found ⋯ b<|(M2.fmod_dvd ⋯).mp z)<|λz=>?_;refine (_,rfl,_,_,rfl,rfl,?_);exact (_,⋯,t+2,rfl,rfl,rfl,⋯,⋯,⋯,o.next e C λd=>z<|(M2.fmod_dvd ⋯).mpr d)
 ·exact l (o.done ⋯ ⋯ b)
def sc_l_is_prime:FnScope ["_law_number","_law_by"] ["_law_number"] (Zab Zc5):=‹2›
def ZgC(h:Here K mg "_law_is_prime" Zc5):Has P w K mg base "_law_is_prime" 1 ["_law_number"] Zd4:=by
 refine h.has (λ_ _ F=>F.b1 λ_ _ _ _ _ _ _=>rfl) λf C F=>F.ok sc_l_is_prime (λu H Q E h=>?_)<|λr A b s H u Q E B h=>?_
 ·obtain ⟨_,rfl,_⟩:=h
  rfl
 obtain ⟨n,rfl,x,q,e⟩:=h;have l:=sc_l_is_prime.nd;refine (_,(Zag (ZaE (i:=1) l rfl (Or.inl rfl) Zac)
  (Zag (Zcc PassesOwn.never (Zay Zo3 (Zap ZaK (pv 1)<|pv 1) (pv 0)<|ZaC _)<|Zag (ZaY (Zay Zbr (Zap Zbn (pv 0)<|pv 1) Zac<|ZaC _) (Zad<|Zaq ZdV) Zav)
   (Zad<|ZaE (i:=1) l rfl (Or.inl rfl)<|Zap Za6 (pv 1) Zac))
  (Zad<|Zaq<|Zcr Ze3 (pv 0) Zac<|ZaC _))),?_)
 refine (λm c j=>∃t:Int,m=(n+2-t).toNat/\c=[some<|.int n,some<|.int t]/\j=H/\2<=t/\(t<=2\/t<=n)/\M2.No n t,(_,2,rfl,rfl,rfl,⋯,⋯,M2.No.two),?_);rintro m c j ⟨t,rfl,rfl,rfl,y,o,g⟩;have k:t.natAbs<=10^150:=Q0 (show t.natAbs<=1000002 by omega) ∅;refine (_,rfl,_,rfl,_,_,rfl,rfl,(Zbu k k),_,rfl,_,_,rfl,rfl,_,rfl,?_);refine ZcR (λa=>(_,λ_ _ h=>h,?_))<|λa=>?_
 ·refine (_,rfl,_,rfl,_,_,rfl,rfl,(show t≠0 by omega),rfl,_,rfl,?_);have v:=M2.le_of_sq ⋯ a;refine Zb1 (λz=>e<|M2.found ⋯ a<|(M2.fmod_dvd ⋯).mp z)<|λz=>?_;refine (_,rfl,_,_,rfl,rfl,?_);exact (_,⋯,t+1,rfl,rfl,rfl,⋯,⋯,g.one λd=>z<|(M2.fmod_dvd ⋯).mpr d)
 ·refine (_,rfl,_,_,rfl,rfl,?_);show Q (V.bl<|decide<|1<n) _
  by_cases h2:1<n
  ·rw[decide_eq_true h2];exact q<|g.done ⋯ ⋯ a
  ·rw[decide_eq_false h2];exact e λp=>by have:=p.1;omega
end
inductive ZcE (K:ZZfg) (vs:List V) (H:Hp) (Q:VK) (zE:XK):Prop
 |mk (p r:Addr) (q a0 a1 a2 b0 b1 b2:Int) (_:vs=[.ref p,.int q,.ref r]) (_:SqT K H p [.int a0,.int a1,.int a2]) (_:SqT K H r [.int b0,.int b1,.int b2]) (_:IntMulOk q b0) (_:IntMulOk q b1) (_:IntMulOk q b2) (_:∀t,H t=none->Q (.ref t) (upd H t (.tup [.int (a0-q*b0),.int (a1-q*b1),.int (a2-q*b2)]))):ZcE K vs H Q zE
section
variable{P:Program}{w:World}{K:ZZfg}{mg:ZZmg}{base:Heap}
def ZgD:FnScope ["some","factor","others"] ["some","factor","others"] (Zab Zc0):=‹2›
def ZgE(h:Here K mg "less_times" Zc0):Has P w K mg base "less_times" 1 ["some","factor","others"] (ZcE K):=by
 refine h.has (λ_ _ F=>F.b3 λ_ _ _ _ _ _ _ _ _=>rfl) λf o F=>F.ok ZgD (λi H Q E h=>?_)<|λe A a s H i Q E n h=>?_
 ·obtain ⟨_,_,_,_,_,_,_,_,_,rfl,_⟩:=h
  rfl
 obtain ⟨p,r,q,v,l,m,x,u,t,rfl,c,b,d,g,j,k⟩:=h;refine (_,(Zad<|Zaq<|Zb0<|Zaa (Zap Zbq (ZaD Zau (pv 0) Zac<|λ_ _=>rfl)<|Zap ZaK (pv 1)<|ZaD Zau (pv 2) Zac<|λ_ _=>rfl)<|Zaa (Zap Zbq (ZaD Zau (pv 0) Zac<|λ_ _=>rfl)<|Zap ZaK (pv 1)<|ZaD Zau (pv 2) Zac<|λ_ _=>rfl)<|Zaa (Zap Zbq (ZaD Zau (pv 0) Zac<|λ_ _=>rfl)<|Zap ZaK (pv 1)<|ZaD Zau (pv 2) Zac<|λ_ _=>rfl) Zaf),?_);refine (_,rfl,_,_,_,_,rfl,rfl,c,rfl,_,rfl,_,rfl,_,_,_,_,rfl,rfl,b,rfl,_,_,rfl,rfl,d,_,_,rfl,rfl,?_);refine (_,rfl,_,_,_,_,rfl,rfl,c,rfl,_,rfl,_,rfl,_,_,_,_,rfl,rfl,b,rfl,_,_,rfl,rfl,g,_,_,rfl,rfl,?_);refine (_,rfl,_,_,_,_,rfl,rfl,c,rfl,_,rfl,_,rfl,_,_,_,_,rfl,rfl,b,rfl,_,_,rfl,rfl,j,_,_,rfl,rfl,?_);exact ((by show 3<=sizeLine;decide),k)
end
inductive Zc8 (vs:List V) (H:Hp) (Q:VK) (zE:XK):Prop
 |mk (x y:Int) (_:vs=[.int x,.int y]) (_:x.natAbs<=10^100) (_:y.natAbs<=10^100) (_:∀(t:Addr) (H':Hp) (u v:Int),Same H H'->H' t=some (.tup [.int (Int.gcd x y),.int u,.int v])->(Int.gcd x y:Int)=x*u+y*v->u.natAbs<=10^101->v.natAbs<=10^101->Q (.ref t) H'):Zc8 vs H Q zE
section
variable{P:Program}{w:World}{K:ZZfg}{mg:ZZmg}{base:Heap}
def sc_shares:FnScope ["one","other","upper","lower","following"] ["one","other"] (Zab Zgr):=‹2›
def Zli(h:Here K mg "shares" Zgr) (c:Has P w K mg base "less_times" 1 ["some","factor","others"] (ZcE K)):Has P w K mg base "shares" 2 ["one","other"] Zc8:=by
 refine h.has (λ_ _ F=>F.b2 λ_ _ _ _ _ _ _ _=>rfl) λf J F=>F.ok sc_shares (λvs H Q E h=>?_)<|λa0 A N s H vs Q E W h=>?_
 ·obtain ⟨_,_,rfl,_⟩:=h
  rfl
 obtain ⟨x,y,rfl,bx,bY,k⟩:=h;have D:=sc_shares.nd;refine (_,(Zag (ZaE (i:=2) D rfl (Or.inl rfl)<|Zb0<|Zaa (pv 0)<|Zaa Zac<|Zaa Zac Zaf)
  (Zag (ZaE (i:=3) D rfl (Or.inl rfl)<|Zb0<|Zaa (pv 1)<|Zaa Zac<|Zaa Zac Zaf)
  (Zag (Zcc PassesOwn.never (Zay Zgi (ZaD Zau (pv 3) Zac<|λ_ _=>rfl) Zac<|ZaC _)<|Zag (ZaE (i:=4) D rfl (Or.inl rfl)<|ZaG c W (by rfl)<|Zaa (pv 2)<|Zaa (Zap Zgm (ZaD Zau (pv 2) Zac<|λ_ _=>rfl)<|ZaD Zau (pv 3) Zac<|λ_ _=>rfl)<|Zaa (pv 3) Zaf)
   (Zag (ZaE (i:=2) D rfl (Or.inl rfl)<|pv 3)
   (Zad<|ZaE (i:=3) D rfl (Or.inl rfl)<|pv 4)))
  (Zag (ZaY (Zay ZdW (ZaD Zau (pv 2) Zac<|λ_ _=>rfl) Zac<|ZaC _) (Zad<|Zaq<|ZaG c W (by rfl)<|Zaa (Zb0<|Zaa Zac<|Zaa Zac<|Zaa Zac Zaf)<|Zaa Zac<|Zaa (pv 2) Zaf) Zav)
  (Zad<|Zaq<|pv 2))))),?_)
 refine (_,rfl,(by show 3<=sizeLine;decide),λU M=>?_);refine (_,rfl,(by show 3<=sizeLine;decide),λp1 u=>?_);have X:Same H (upd H U<|.tup [.int x,.int 1,.int 0]):=Zar M _;have Z:=X.trans<|Zar u<|.tup [.int y,.int 0,.int 1];refine (λm O C=>∃(p r:Addr) (f:Option V) (a j l b G B:Int),m=b.natAbs/\O=[some<|.int x,some<|.int y,some<|.ref p,some<|.ref r,f]/\Same H C/\C p=some (.tup [.int a,.int j,.int l])/\C r=some (.tup [.int b,.int G,.int B])/\M1.Sh x y a j l b G B,
  (_,U,p1,none,x,1,0,y,0,1,rfl,rfl,Z,by rw[Zaj<|ZaF Zai u];exact Zai,Zai,M1.Sh.start x y),?_)
 rintro m O C ⟨p,r,f,a,j,l,b,G,B,rfl,rfl,S,n,e,I⟩;have g:=I.bound;have q:x.natAbs+2*y.natAbs+1+1<=10^150:=⋯;have d:=Nat.le_of_succ_le q;refine (_,rfl,_,_,_,_,rfl,rfl,SqT.of e,rfl,rfl,_,rfl,?_);refine Zf2 (λo=>(_,λ_ _ h=>h,?_))<|λo=>?_
 ·refine (_,rfl,_,rfl,_,_,_,_,rfl,rfl,SqT.of n,rfl,_,rfl,_,_,_,_,rfl,rfl,SqT.of e,rfl,_,_,rfl,rfl,(o,Q0 g.2.2.2.1 d),_,rfl,?_);have J:=Q0 (M1.fdiv_small a o)<|Q0 (Nat.succ_le_succ g.1) q;refine (p,r,a.fdiv b,a,j,l,b,G,B,rfl,SqT.of n,SqT.of e,Zbu J<|Q0 g.2.2.2.1 d,Zbu J<|Q0 g.2.2.2.2.1 d,Zbu J<|Q0 g.2.2.2.2.2 d,λt L=>?_);refine (_,rfl,_,rfl,?_);exact (_,(by rw[M1.rest_eq];exact M1.fmod_lt a o),r,t,_,b,G,B,_,_,_,rfl,rfl,S.trans<|Zar L _,by rw[Zaj<|ZaF e L];exact e,Zai,I.turn o)
 ·subst o;obtain ⟨g1,T⟩:=I.done;refine (_,rfl,_,_,_,_,rfl,rfl,SqT.of n,rfl,_,_,rfl,rfl,_,rfl,?_);refine ZcR (λY=>?_)<|λY=>?_
  ·refine ((by show 3<=sizeLine;decide),λz R=>?_);refine (_,rfl,?_);refine (z,p,1,0,0,0,a,j,l,rfl,SqT.of Zai,SqT.of (by rw[Zaj<|ZaF n R];exact n),Zbu ∅<|Q0 g.1 d,Zbu ∅<|Q0 g.2.1 d,Zbu ∅<|Q0 g.2.2.1 d,λt L=>?_);have v:(0:Int)-1*a=Int.gcd x y:=⋯;refine k t _ (0-1*j) (0-1*l) ((S.trans<|Zar R _).trans<|Zar L _) (by rw[Zai,v]) ?_ ⋯ ⋯;rw[<-v,T,Int.one_mul,Int.one_mul,Int.one_mul,Int.mul_sub,Int.mul_sub];omega
  ·refine (_,rfl,?_);have v:a=Int.gcd x y:=⋯;refine k p C j l S (by rw[<-v];exact n) (by rw[<-v];exact T) ⋯ ⋯
end
def ReA(CR:Addr)(p:Int)(H:Hp)(a:Addr):Prop:=∃b,H a=some (.ins CR b<|fsR p)
inductive ZgF (CR:Addr) (vs:List V) (H:Hp) (Q:VK) (zE:XK):Prop
 |mk (x dx:Addr) (p:Int) (_:vs=[.ref x,.int p]) (_:H x=some (.ins CR dx [])) (_:M2.Prm p) (_:p<1000000) (_:Q .non (upd H x (.ins CR dx (fsR p)))):ZgF CR vs H Q zE
section
variable{P:Program}{w:World}{K:ZZfg}{mg:ZZmg}{base:Heap}
def Zeq:FnScope ["self","prime"] ["self","prime"] (Zab ZbN):=‹2›
def Zm8{CR:Addr}(h:HereI K CR "Rests.__init__" ZbN) (cl:Cls K CR) (g:NoAttr K CR "prime") (a:Has P w K mg base "is_whole" 1 ["thing"] Zd3) (b:Has P w K mg base "is_prime" 1 ["number"] Zd4):HasI P w K mg base CR 2 ["self","prime"] (ZgF CR):=by
 refine h.hasI (λ_ _ F=>F.b2 λ_ _ _ _ _ _ _ _=>rfl) λf o F=>F.ok Zeq (λm H Q E h=>?_)<|λe A c s H m Q E d h=>?_
 ·obtain ⟨_,_,_,rfl,_⟩:=h
  rfl
 obtain ⟨x,i,p,rfl,j,n,l,k⟩:=h;refine (_,(Zag (ZaY (ZcW (ZcP<|ZaQ<|ZaG a d (by rfl)<|Zaa (pv 1) Zaf)<|ZcO<|ZcP<|ZaQ<|ZaG b d (by rfl)<|Zaa (pv 1) Zaf).pt (Zad ZmO) Zav)
  (Zad<|Zn8 (pv 0) (pv 1) rfl)),?_)
 refine (_,rfl,p,rfl,_,rfl,?_);refine Zed ?_;refine (_,rfl,p,rfl,l,λ_=>(_,rfl,?_),λz=>absurd n z);refine Zed ?_;exact (_,rfl,_,rfl,x,CR,i,_,rfl,j,cl,g,(by show 0<1000;decide),k)
end
structure CN (K:ZZfg) (mg:ZZmg) (x:Str) (C:Addr):Prop where
 m:mg x=some (.ref C)
 c:PySem.W.isClsIn K C=true
 t:PySem.W.typeIn K (.ref C)=some (.type "type")
structure Rf (K:ZZfg) (mg:ZZmg) (CE cK cN cF cT cI cX cM cR:Addr):Prop where
 e:CN K mg "FrameError" CE
 eb:PySem.W.mroIn K CE (.type "BaseException")=some true
 k:CN K mg "NoKind" cK
 n:CN K mg "NoNumber" cN
 f:CN K mg "NoFit" cF
 t:CN K mg "NoTurn" cT
 i:CN K mg "NoInverse" cI
 x:CN K mg "NoText" cX
 m:CN K mg "NoName" cM
 r:CN K mg "NoRow" cR
 ve:mg "ValueError"=none
def Rf.cat{K:ZZfg}{CE b e d c h g a f:Addr}(R:Rf K mg CE b e d c h g a f):CatC K mg "FrameError" CE:=(R.e.m,R.e.t,R.eb,R.e.c)
def Zm9(K:ZZfg)(C:Addr):ZZla->Prop
 | []=>True
 |D::r=>(PySem.W.mroIn K C (.ref D)=some false/\C≠D)/\Zm9 K C r
structure Rz (K:ZZfg) (mg:ZZmg) (x:Str) (CE C:Addr) (os:ZZla):Prop where
 c:ExcC K mg x C
 e:PySem.W.mroIn K C (.ref CE)=some true
 v:PySem.W.mroIn K C (.type "ValueError")=some true
 o:Zm9 K C os
def CN.no{K:ZZfg}(n:CN K mg x D)(h:PySem.W.mroIn K C (.ref D)=some false/\C≠D):PySem.W.kitOne K (.ref C) (.ref D)=some false:=Zpm n.c n.t h.1 h.2
def Zer{n i:Nat}(h:i<n):ixN n ((i:Nat):Int)=some i:=by
 have:=ZdF (xs:=List.range n) (j:=i) (v:=i) (by simp[h]);unfold atI at this;rw[Qn] at this
 cases q:ixN n (i:Int) with
 |none=>rw[q] at this;cases this
 |some j =>
  rw[q] at this
  simp only[Option.bind_some] at this
  have a:=(Qp.mp this).2
  simp at a
  rw[a]
def KdA(a CR:Addr)(p:Int)(H:Hp)(k:Addr):Prop:=(p=0/\FrA a H k)\/(M2.Prm p/\p<1000000/\ReA CR p H k)
def Ez(H:Hp)(p e:Int)(v:V):Prop:=(p=0/\∃t,v = .ref t/\H t=some (.tup [.int e,.int 1]))\/(0<p/\v = .int e)
def Zq0{a:List Int}{i:Nat}(h:i<a.length):atI (a.map V.int) (i:Int)=some (.int a[i]):=ZdF (by rw[Q3,Q6 h] <;> rfl)
def PK(p:Int):Prop:=p=0\/(M2.Prm p/\p<1000000)
def Off(D:ZZla)(H b:Hp):Prop:=∀a o,a∉D->H a=some o->b a=some o
def Off.same(O:Off D H c)(S:Same a H)(n:∀r∈D,a r=none):Same a c:=λb o q=>O b o (λm=>by rw[n b m] at q;cases q)<|S _ _ q
def Zuc(H:Hp)(p:Int)(x y:V):Prop:=(0<p/\∃i,x = .int i/\y = .int i)\/(p=0/\∃s t a b,x = .ref s/\y = .ref t/\H s=some (.tup [.int a,.int b])/\H t=some (.tup [.int a,.int b]))
def Ez.eq(h:Ez H p e x)(h':Ez H p e y):Zuc H p x y:=by
 rcases h with ⟨z,t,e1,h1⟩|⟨z,e1⟩
 ·rcases h' with ⟨_,t',e2,h2⟩|⟨z',_⟩
  ·exact .inr (z,t,t',_,_,e1,e2,h1,h2)
  ·omega
 ·rcases h' with ⟨z',_⟩|⟨_,e2⟩
  ·omega
  ·exact .inl (z,_,e1,e2)
class Fd (α:Type) extends Lean.Grind.CommRing α where
 inv:α->α
 mul_inv:∀a:α,a≠0->a*inv a=1
 zne:(0:α)≠1
instance:Fd Rat where
 inv:=Rat.inv
 mul_inv:=λa h=>Rat.mul_inv_cancel a h
 zne:=∅
def bez:∀a b:Nat,∃u v:Int,a*u+b*v=(Nat.gcd a b:Int):=by
 intro a b
 induction a,b using Nat.gcd.induction with
 |H0 n=>exact (0,1,by simp)
 |H1 m n f c =>
  obtain ⟨u,v,e⟩:=c;refine (v-(n/m:Nat)*u,u,?_);rw[Nat.gcd_rec,<-e];have h:(n:Int)=m*(n/m:Nat)+(n%m:Nat):=by
   have:=Nat.div_add_mod n m
   exact_mod_cast this.symm
  rw[Int.mul_sub]
  conv=>lhs;rw[h]
  rw[Int.add_mul];generalize ((n/m:Nat):Int)=q;generalize ((n%m:Nat):Int)=r;have d:(m:Int)*(q*u)=m*q*u:=by rw[Qx]
  omega
structure PrN (p:Nat):Prop where
 pr:M2.Prm (p:Int)
 lt:p<1000000
def PrN.two(h:PrN p):2<=p:=by have:=h.pr.1;omega
def PrN.nz(h:PrN p):NeZero p:=⟨by have:=h.two;omega⟩
def Zlj(h:PrN p):letI:=h.nz;∀a:Fin p,a≠0->∃b:Fin p,a*b=1:=by
 letI:=h.nz
 intro a n;have j:=h.two;have q:¬(p:Int) ∣ (a.val:Int):=by
  rintro ⟨k,t⟩;have r:a.val≠0:=λz=>n<|Fin.ext (by simpa using z);have s:=a.isLt;have i:0<k:=by
   rcases Int.lt_or_le 0 k with c|c
   ·exact c
   ·have:(p:Int)*k<=0:=Int.mul_nonpos_of_nonneg_of_nonpos ⋯ c;omega
  have:(p:Int)*1<=p*k:=Int.mul_le_mul_of_nonneg_left ⋯ ⋯;omega
 have g:=M2.prm_gcd h.pr q;obtain ⟨u,v,e⟩:=bez a.val p;have l:Nat.gcd a.val p=1:=by
  have:Int.gcd (a.val:Int) (p:Int)=Nat.gcd a.val p:=rfl;omega
 rw[l] at e;refine (((u%p).toNat,?_),?_)
 ·have:=Int.emod_lt_of_pos u (show 0<(p:Int) by omega);have:=Int.emod_nonneg u (show (p:Int)≠0 by omega);omega
 ·refine Fin.ext ?_;rw[Fin.val_mul];have f:=Int.emod_nonneg u (show (p:Int)≠0 by omega);have d:((a.val*(u%p).toNat%p:Nat):Int)=((1:Nat):Int):=by
   rw[Ww,W2,Int.toNat_of_nonneg f,Int.mul_emod,Int.emod_emod_of_dvd _<|Int.dvd_refl _,<-Int.mul_emod];have:(a.val:Int)*u=1-p*v:=⋯;rw[this,Int.sub_emod,Int.mul_emod_right]
   simp
   exact Uk ⋯ ⋯
  have o:a.val*(u%p).toNat%p=1:=by exact_mod_cast d
  have m:(1:Fin p).val=1:=by
   show 1%p=1;exact Nat.mod_eq_of_lt j
  rw[m];exact o
@[reducible] noncomputable def finFd {p:Nat} (h:PrN p):Fd (Fin p) :=
 letI:=h.nz
 { (inferInstance:Lean.Grind.CommRing (Fin p)) with
  inv:=λa=>if ha:a≠0 then Classical.choose (Zlj h a ha) else 0
  mul_inv:=λa ha=>by
   simp only[dif_pos ha]
   exact Classical.choose_spec (Zlj h a ha)
  zne:=λz=>by
   have:=congrArg Fin.val z;have h2:=h.two;have e3:(1:Fin p).val=1:=by
    show 1%p=1;exact Nat.mod_eq_of_lt h2
   have e4:(0:Fin p).val=0:=by simp
   rw[e3,e4] at this
   cases this }
inductive KX where
 |q
 |r (p:Nat) (h:PrN p)
@[reducible] def KX.F:KX->Type
 | .q=>Rat
 | .r p _=>Fin p
abbrev ZZlk(κ:KX):=List κ.F
abbrev ZZll(κ:KX):=List<|List κ.F
noncomputable instance (κ:KX):Fd κ.F:=match κ with
 | .q=>inferInstanceAs<|Fd Rat
 | .r _ h=>finFd h
def KX.P:KX->Int
 | .q=>0
 | .r p _=>p
def KX.D:(κ:KX)->κ.F->PyData
 | .q,x => .tuple [.int x.num,.int x.den]
 | .r _ _,x => .int x.val
def NR(κ:KX)(H:Hp)(v:V)(x:κ.F):Prop:=match κ with
 | .q=>∃a,v = .ref a/\H a=some (.tup [.int x.num,.int x.den])
 | .r _ _=>v = .int x.val
def NR.same{κ:KX}{x:κ.F}(h:NR κ H v x)(S:Same H b):NR κ b v x:=by
 cases κ with
 |q=>obtain ⟨a,e,h⟩:=h;exact (a,e,S _ _ h)
 |r p c=>exact h
def NR.off{κ:KX}{t:Addr}{ys:List V}{x:κ.F}(h:NR κ H v x)(c:H t=some (.lst ys))(O:Off [t] H b):NR κ b v x:=by
 cases κ with
 |q =>
  obtain ⟨a,e,h⟩:=h;refine (a,e,O _ _ (λm=>?_) h);rw[Qf.mp m,c] at h
  cases h
 |r p d=>exact h
def Ziq{i:Int}:Fl H (.int i) (.int i):=.inr<|.inr<|.inl (i,rfl,rfl)
def NR.rp{κ:KX}{x:κ.F}(h:NR κ H v x):Rp H 1 v (κ.D x):=by
 cases κ with
 |q =>
  obtain ⟨a,rfl,h⟩:=h;exact ZqW h<|.cons Ziq<|.cons Ziq .nil
 |r p b =>
  have h:v = .int x.val:=h;subst h;exact .inl Ziq
def Bd(κ:KX)(n m:Nat)(x:κ.F):Prop:=match κ with
 | .q=>Bits n x.num/\Bits m (x.den:Int)
 | .r _ _=>True
def Zlk{n d N D:Int}(c:Fc n d)(h:0<D)(e:n*D=N*d):(Rat.divInt N D).num=n/\((Rat.divInt N D).den:Int)=d:=by
 have g:=c.pos;have f:∃q:Rat,q.num=n/\(q.den:Int)=d:=by
  refine ((n,d.toNat,⋯,?_),rfl,by show ((d.toNat:Nat):Int)=d;omega);have:=c.cop;rw[Nat.coprime_iff_gcd_eq_one];have e:Int.gcd n d=Nat.gcd n.natAbs d.natAbs:=rfl;have a:d.natAbs=d.toNat:=⋯;rw[<-a];omega
 obtain ⟨q,b,a⟩:=f;have:Rat.divInt N D=q:=by
  rw[<-Qy q,b,a,Wb ⋯ ⋯];exact e.symm
 rw[this];exact (b,a)
def Zbf(x:Rat):Fc x.num x.den:=(by have:=x.den_nz;omega,by
 have:=x.reduced;rw[Nat.coprime_iff_gcd_eq_one] at this;exact this)
def Zll{x y:Rat}(c:Fc n d)(e:n*((x.den:Int)*y.den)=(x.num*y.den+y.num*x.den)*d):(x+y).num=n/\((x+y).den:Int)=d:=by
 have a:=(Zbf x).pos;have b:=(Zbf y).pos;have:x+y=Rat.divInt (x.num*y.den+y.num*x.den) ((x.den:Int)*y.den):=by
  rw[<-Rat.divInt_add_divInt _ _ ⋯ ⋯,Qy,Qy]
 rw[this];exact Zlk c (Wa a b) e
def Zir{x y:Rat}(c:Fc n d)(e:n*((x.den:Int)*y.den)=(x.num*y.num)*d):(x*y).num=n/\((x*y).den:Int)=d:=by
 have a:=(Zbf x).pos;have b:=(Zbf y).pos;have:x*y=Rat.divInt (x.num*y.num) ((x.den:Int)*y.den):=by
  rw[<-Ua,Qy,Qy]
 rw[this];exact Zlk c (Wa a b) e
inductive Zd5 (K:ZZfg) (CF:Addr) (vs:List V) (H:Hp) (Q:VK) (zE:XK):Prop
 |mk (s p q:Addr) (a1 b1 a2 b2:Int) (_:vs=[.ref s,.ref p,.ref q]) (_:FrA CF H s) (_:SqT K H p [.int a1,.int b1]) (_:SqT K H q [.int a2,.int b2]) (_:Fc a1 b1) (_:Fc a2 b2) (_:Bits 1000000 a1) (_:Bits 4000 b1) (_:Bits 1000000 a2) (_:Bits 4000 b2) (_:∀(t:Addr) (H':Hp) (x y:Int),Same H H'->H' t=some (.tup [.int x,.int y])->H t=none->Fc x y->x*(b1*b2)=(a1*b2+a2*b1)*y->Q (.ref t) H'):Zd5 K CF vs H Q zE
section
variable{P:Program}{w:World}{K:ZZfg}{mg:ZZmg}{base:Heap}
def sc_Fractions_plusG:FnScope ["self","one","other","common","ahead","top","left"] ["self","one","other"] (Zab ZbL):=‹2›
def Zlm(h:HereM K y "plus" "Fractions.plus" ZbL) (e:Has P w K mg base "divisor" 1 ["one","other"] ZaZ):HasM P w K mg base y "plus" 2 ["self","one","other"] [] (Zd5 K y):=by
 refine h.hasM (λ_ _ F=>F.b3 λ_ _ _ _ _ _ _ _ _=>rfl) λf fd F=>F.ok sc_Fractions_plusG (λY H Q E h=>?_)<|λW A C s H Y Q E N h=>?_
 ·obtain ⟨_,_,_,_,_,_,_,rfl,_⟩:=h
  rfl
 obtain ⟨sf,p,q,m,d,n,c,rfl,_,B,u,M,J,D,r,x,l,k⟩:=h;have v:=sc_Fractions_plusG.nd;refine (_,(Zag (ZaE (i:=3) v rfl (Or.inl rfl)<|ZaG e N (by rfl)<|Zaa (ZaD Zau (pv 1) Zac<|λ_ _=>rfl)<|Zaa (ZaD Zau (pv 2) Zac<|λ_ _=>rfl) Zaf)
  (Zag (ZaE (i:=4) v rfl (Or.inl rfl)<|Zap ZbV (ZaD Zau (pv 1) Zac<|λ_ _=>rfl)<|pv 3)
  (Zag (ZaE (i:=5) v rfl (Or.inl rfl)<|Zap Za6 (Zap ZaK (ZaD Zau (pv 1) Zac<|λ_ _=>rfl)<|Zap ZbV (ZaD Zau (pv 2) Zac<|λ_ _=>rfl)<|pv 3)<|Zap ZaK (ZaD Zau (pv 2) Zac<|λ_ _=>rfl)<|pv 4)
  (Zag (ZaE (i:=6) v rfl (Or.inl rfl)<|ZaG e N (by rfl)<|Zaa (pv 5)<|Zaa (pv 3) Zaf)
  (Zad<|Zaq<|Zb0<|Zaa (Zap ZbV (pv 5)<|pv 6)<|Zaa (Zap ZaK (pv 4)<|Zap ZbV (ZaD Zau (pv 2) Zac<|λ_ _=>rfl)<|pv 6) Zaf))))),?_)
 have G:=M.pos;have z:=J.pos;have hg:=M3.gcd_ne (a:=d) (b:=c) ⋯;have L:Int.gcd d c<=c.natAbs:=Ub ⋯<|U2.mpr<|Wf d c;have j:(Int.gcd d c:Int)≠0/\Bits 4000 (Int.gcd d c:Int):=(⋯,l.le (by rw[Qo];exact L));have I:=M3.fdiv_le (U0 d c) j.1;have X:=M3.fdiv_le (Wf d c) j.1;refine (_,rfl,_,_,_,_,rfl,rfl,B,rfl,_,rfl,_,_,_,_,rfl,rfl,u,rfl,d,c,rfl,?_);refine (_,rfl,_,_,_,_,rfl,rfl,B,rfl,_,rfl,_,_,rfl,rfl,j,?_);refine (_,rfl,_,_,_,_,rfl,rfl,B,rfl,_,rfl,_,_,_,_,rfl,rfl,u,rfl,_,rfl,_,_,rfl,rfl,j,_,_,rfl,rfl,D.mulG<|l.le X,_,rfl,_,_,_,_,rfl,rfl,u,rfl,_,rfl,_,_,rfl,rfl,x.mulG<|r.le I,_,_,rfl,rfl,?_);refine (_,rfl,_,rfl,_,_,rfl,?_);obtain ⟨o1,R,T,S⟩:=M3.plus_ok G z M.cop J.cop rfl;have O:Int.gcd (m*c.fdiv (Int.gcd d c)+n*d.fdiv (Int.gcd d c)) (Int.gcd d c)<=Int.gcd d c:=Ub ⋯<|Int.ofNat_dvd.mp<|Wf (m*c.fdiv (Int.gcd d c)+n*d.fdiv (Int.gcd d c))<|Int.gcd d c;have g:(Int.gcd (m*c.fdiv (Int.gcd d c)+n*d.fdiv (Int.gcd d c)) (Int.gcd d c):Int)≠0/\Bits 4000 (Int.gcd (m*c.fdiv (Int.gcd d c)+n*d.fdiv (Int.gcd d c)) (Int.gcd d c):Int):=(by have:=M3.gcd_ne (a:=m*c.fdiv (Int.gcd d c)+n*d.fdiv (Int.gcd d c)) (b:=(Int.gcd d c:Int)) ⋯;omega,l.le (by rw[Qo];exact Q0 O L));have Z:=M3.fdiv_le (U0 (m*c.fdiv (Int.gcd d c)+n*d.fdiv (Int.gcd d c))<|Int.gcd d c) g.1;have U:=M3.fdiv_le (Int.dvd_trans (Wf (m*c.fdiv (Int.gcd d c)+n*d.fdiv (Int.gcd d c))<|Int.gcd d c)<|Wf d c) g.1;refine (_,rfl,_,rfl,_,_,rfl,rfl,g,_,rfl,_,rfl,_,_,_,_,rfl,rfl,u,rfl,_,rfl,_,_,rfl,rfl,g,_,_,rfl,rfl,((r.le I).up ∅).mulG<|l.le U,(by show 2<=sizeLine;decide),λt o=>?_);exact k t _ _ _ (Zar o _) Zai o (R,T) S
end
inductive Zes (K:ZZfg) (CF:Addr) (vs:List V) (H:Hp) (Q:VK) (zE:XK):Prop
 |mk (s p q:Addr) (a1 b1 a2 b2:Int) (_:vs=[.ref s,.ref p,.ref q]) (_:FrA CF H s) (_:SqT K H p [.int a1,.int b1]) (_:SqT K H q [.int a2,.int b2]) (_:Fc a1 b1) (_:Fc a2 b2) (_:Bits 1000000 a1) (_:Bits 4000 b1) (_:Bits 1000000 a2) (_:Bits 4000 b2) (_:∀(t:Addr) (H':Hp) (x y:Int),Same H H'->H' t=some (.tup [.int x,.int y])->H t=none->Fc x y->x*(b1*b2)=(a1*a2)*y->Q (.ref t) H'):Zes K CF vs H Q zE
section
variable{P:Program}{w:World}{K:ZZfg}{mg:ZZmg}{base:Heap}
def sc_Fractions_timesG:FnScope ["self","one","other","falling","rising","top"] ["self","one","other"] (Zab ZbB):=‹2›
def Zj7(h:HereM K B "times" "Fractions.times" ZbB) (c:Has P w K mg base "divisor" 1 ["one","other"] ZaZ):HasM P w K mg base B "times" 2 ["self","one","other"] [] (Zes K B):=by
 refine h.hasM (λ_ _ F=>F.b3 λ_ _ _ _ _ _ _ _ _=>rfl) λf fd F=>F.ok sc_Fractions_timesG (λZ H Q E h=>?_)<|λX A C s H Z Q E L h=>?_
 ·obtain ⟨_,_,_,_,_,_,_,rfl,_⟩:=h
  rfl
 obtain ⟨sf,p,q,l,j,m,d,rfl,_,y,x,J,I,D,v,z,r,k⟩:=h;have G:=sc_Fractions_timesG.nd;refine (_,(Zag (ZaE (i:=3) G rfl (Or.inl rfl)<|ZaG c L (by rfl)<|Zaa (ZaD Zau (pv 1) Zac<|λ_ _=>rfl)<|Zaa (ZaD Zau (pv 2) Zac<|λ_ _=>rfl) Zaf)
  (Zag (ZaE (i:=4) G rfl (Or.inl rfl)<|ZaG c L (by rfl)<|Zaa (ZaD Zau (pv 2) Zac<|λ_ _=>rfl)<|Zaa (ZaD Zau (pv 1) Zac<|λ_ _=>rfl) Zaf)
  (Zag (ZaE (i:=5) G rfl (Or.inl rfl)<|Zap ZaK (Zap ZbV (ZaD Zau (pv 1) Zac<|λ_ _=>rfl)<|pv 3)<|Zap ZbV (ZaD Zau (pv 2) Zac<|λ_ _=>rfl)<|pv 4)
  (Zad<|Zaq<|Zb0<|Zaa (pv 5)<|Zaa (Zap ZaK (Zap ZbV (ZaD Zau (pv 1) Zac<|λ_ _=>rfl)<|pv 4)<|Zap ZbV (ZaD Zau (pv 2) Zac<|λ_ _=>rfl)<|pv 3) Zaf)))),?_)
 have u:=J.pos;have o:=I.pos;have hf:=M3.gcd_ne (a:=l) (b:=d) ⋯;have hg:=M3.gcd_ne (a:=m) (b:=j) ⋯;have R:Int.gcd l d<=d.natAbs:=Ub (Zlh o)<|U2.mpr<|Wf l d;have W:Int.gcd m j<=j.natAbs:=Ub (Zlh u)<|U2.mpr<|Wf m j;have g:(Int.gcd l d:Int)≠0/\Bits 4000 (Int.gcd l d:Int):=(⋯,r.le (by rw[Qo];exact R));have e:(Int.gcd m j:Int)≠0/\Bits 4000 (Int.gcd m j:Int):=(⋯,v.le (by rw[Qo];exact W));have M:=M3.fdiv_le (U0 l d) g.1;have Y:=M3.fdiv_le (Wf l d) g.1;have N:=M3.fdiv_le (U0 m j) e.1;have U:=M3.fdiv_le (Wf m j) e.1;refine (_,rfl,_,_,_,_,rfl,rfl,y,rfl,_,rfl,_,_,_,_,rfl,rfl,x,rfl,l,d,rfl,?_);refine (_,rfl,_,_,_,_,rfl,rfl,x,rfl,_,rfl,_,_,_,_,rfl,rfl,y,rfl,m,j,rfl,?_);refine (_,rfl,_,_,_,_,rfl,rfl,y,rfl,_,rfl,_,_,rfl,rfl,g,_,rfl,_,_,_,_,rfl,rfl,x,rfl,_,rfl,_,_,rfl,rfl,e,_,_,rfl,rfl,(D.le M).mulT<|z.le N,?_);refine (_,rfl,_,rfl,_,_,_,_,rfl,rfl,y,rfl,_,rfl,_,_,rfl,rfl,e,_,rfl,_,_,_,_,rfl,rfl,x,rfl,_,rfl,_,_,rfl,rfl,g,_,_,rfl,rfl,((v.le U).up ∅).mulG<|r.le Y,(by show 2<=sizeLine;decide),λt n=>?_);obtain ⟨O,T,S⟩:=M3.times_ok u o J.cop I.cop;exact k t _ _ _ (Zar n _) Zai n (O,T) S
end
inductive Zfp (CR:Addr) (g:Int->Int->Int) (vs:List V) (H:Hp) (Q:VK) (zE:XK):Prop
 |mk (s:Addr) (p a b:Int) (_:vs=[.ref s,.int a,.int b]) (_:ReA CR p H s) (_:2<=p) (_:a.natAbs<=10^150) (_:b.natAbs<=10^150) (_:Q (.int (g a b%p)) H):Zfp CR g vs H Q zE
section
variable{P:Program}{w:World}{K:ZZfg}{mg:ZZmg}{base:Heap}
def ZgG:FnScope ["self","one","other"] ["self","one","other"] (Zab Zc1):=‹2›
def Zna{CR:Addr}(h:HereM K CR "plus" "Rests.plus" Zc1) (cl:Cls K CR) (e:NoAttr K CR "prime"):HasM P w K mg base CR "plus" 1 ["self","one","other"] [] (Zfp CR λa b=>a+b):=by
 refine h.hasM (λ_ _ F=>F.b3 λ_ _ _ _ _ _ _ _ _=>rfl) λf n F=>F.ok ZgG (λj H Q E h=>?_)<|λd A c s H j Q E m h=>?_
 ·obtain ⟨_,_,_,_,rfl,_⟩:=h
  rfl
 obtain ⟨sr,p,a,b,rfl,⟨g,i⟩,l,o,lb,k⟩:=h;refine (_,(Zad<|Zaq<|Zap Zbn (Zap Za6 (pv 1)<|pv 2)<|ZeE (pv 0) rfl),?_);refine (_,rfl,_,rfl,_,_,rfl,rfl,_,rfl,sr,CR,g,_,_,rfl,i,cl,e,Zb6 p,_,_,rfl,rfl,(show p≠0 by omega),?_);show Q (V.int<|(a+b).fmod p) _;rw[Wm _ ⋯];exact k
def ZfO:FnScope ["self","one","other"] ["self","one","other"] (Zab Zcy):=‹2›
def Zln{CR:Addr}(h:HereM K CR "times" "Rests.times" Zcy) (cl:Cls K CR) (e:NoAttr K CR "prime"):HasM P w K mg base CR "times" 1 ["self","one","other"] [] (Zfp CR λa b=>a*b):=by
 refine h.hasM (λ_ _ F=>F.b3 λ_ _ _ _ _ _ _ _ _=>rfl) λf o F=>F.ok ZfO (λl H Q E h=>?_)<|λd A c s H l Q E n h=>?_
 ·obtain ⟨_,_,_,_,rfl,_⟩:=h
  rfl
 obtain ⟨sr,p,a,b,rfl,⟨g,j⟩,m,i,lb,k⟩:=h;refine (_,(Zad<|Zaq<|Zap Zbn (Zap ZaK (pv 1)<|pv 2)<|ZeE (pv 0) rfl),?_);refine (_,rfl,_,rfl,_,_,rfl,rfl,Zbu i lb,_,rfl,sr,CR,g,_,_,rfl,j,cl,e,Zb6 p,_,_,rfl,rfl,(show p≠0 by omega),?_);show Q (V.int<|(a*b).fmod p) _;rw[Wm _ ⋯];exact k
end
def ZsJ{t b:Int}(k:b≠0):∃c:Int,c=(if b<0 then -(Int.gcd t b:Int) else (Int.gcd t b:Int))/\c≠0/\c.natAbs<=b.natAbs/\Fc (t.fdiv c) (b.fdiv c)/\t.fdiv c*b=t*b.fdiv c/\(t.fdiv c).natAbs<=t.natAbs/\(b.fdiv c).natAbs<=b.natAbs:=by
 have n:=M3.gcd_ne (a:=t) k;have o:Int.gcd t b<=b.natAbs:=Ub ⋯<|U2.mpr<|Wf t b
 by_cases h:b<0
 ·refine (-(Int.gcd t b:Int),by rw[if_pos h],⋯,⋯,?_);have j:t.fdiv (-(Int.gcd t b:Int))=(-t).fdiv (Int.gcd t b):=by rw[<-Int.neg_fdiv_neg,Int.neg_neg]
  have l:b.fdiv (-(Int.gcd t b:Int))=(-b).fdiv (Int.gcd t b):=by rw[<-Int.neg_fdiv_neg,Int.neg_neg]
  have m:Int.gcd t b=Int.gcd (-t) (-b):=by rw[Int.neg_gcd,Int.gcd_neg]
  obtain ⟨e,f,d,g,i⟩:=M3.low (t:=-t) (b:=-b) ⋯;rw[j,l,m];refine ((f,e),?_,⋯,⋯);rw[Uj,Int.neg_mul] at d;exact Int.neg_inj.mp d
 ·refine ((Int.gcd t b:Int),by rw[if_neg h],⋯,⋯,?_);obtain ⟨e,f,d,g,i⟩:=M3.low (t:=t) (b:=b) ⋯;exact ((f,e),d,g,i)
inductive Zdq (cN:Addr) (vs:List V) (H:Hp) (Q:VK) (E:XK):Prop
 |mk (s:Addr) (t b:Int) (_:vs=[.ref s,.int t,.int b]) (_:b.natAbs<=10^150) (_:(b=0->E (.ref cN) none H)) (_:(b≠0->∀(r:Addr) (x y:Int),H r=none->Fc x y->x*b=t*y->x.natAbs<=t.natAbs->y.natAbs<=b.natAbs->Q (.ref r) (upd H r (.tup [.int x,.int y])))):Zdq cN vs H Q E
section
variable{P:Program}{w:World}{K:ZZfg}{mg:ZZmg}{base:Heap}
def sc_Fractions_number:FnScope ["self","top","bottom","common"] ["self","top","bottom"] (Zab ZaV):=‹2›
def Zis(F:FunD K "number" "Fractions.number" ZaV f v T items) (c:ExcC K mg "NoNumber" x) (a:Has P w K mg base "divisor" 1 ["one","other"] ZaZ):FnOk P w K mg base (CXx P w) 2 f v ["self","top","bottom"] (Zdq x):=by
 refine F.okx sc_Fractions_number (λG H Q E h=>?_)<|λC A n s H G Q E D h=>?_
 ·obtain ⟨_,_,_,rfl,_⟩:=h
  rfl
 obtain ⟨I,t,b,rfl,lb,B,k⟩:=h;have y:=sc_Fractions_number.nd;refine (_,(Zag (ZaY (Zay Zbr (pv 2) Zac<|ZaC _) (Zad<|Zd1 c ZhE rfl (by rfl)<|Zaa Zhl Zaf) Zav)
  (Zag (ZaE (i:=3) y rfl (Or.inl rfl)<|ZaG a D (by rfl)<|Zaa (pv 1)<|Zaa (pv 2) Zaf)
  (Zag (ZaY (Zay ZdW (pv 2) Zac<|ZaC _) (Zad<|ZaE (i:=3) y rfl (Or.inl rfl)<|ZjR Zf0<|pv 3) Zav)
  (Zad<|Zaq<|Zb0<|Zaa (Zap Zgm (pv 1)<|pv 3)<|Zaa (Zap Zgm (pv 2)<|pv 3) Zaf)))),?_)
 refine (_,rfl,rfl,_,rfl,?_);refine Zb1 (λz=>((by show 1<=1000;decide),B z))<|λm=>?_;refine (_,rfl,_,rfl,t,b,rfl,?_);obtain ⟨c,q,j,J,p,e,o,u⟩:=ZsJ (t:=t) m;refine (_,rfl,_,_,rfl,rfl,_,rfl,?_);refine ZcR (λl=>?_)<|λl=>?_
 ·refine (_,rfl,_,rfl,?_);have d:c = -(Int.gcd t b:Int):=by rw[q,if_pos l]
  refine (_,rfl,_,rfl,_,_,rfl,rfl,(by rw[<-d];exact (j,⋯)),_,rfl,_,rfl,_,_,rfl,rfl,(by rw[<-d];exact (j,⋯)),(by show 2<=sizeLine;decide),λr g=>?_);rw[<-d];exact k m r _ _ g p e o u
 ·have d:c=(Int.gcd t b:Int):=by rw[q,if_neg l]
  refine (_,rfl,_,rfl,_,_,rfl,rfl,(by rw[<-d];exact (j,⋯)),_,rfl,_,rfl,_,_,rfl,rfl,(by rw[<-d];exact (j,⋯)),(by show 2<=sizeLine;decide),λr g=>?_);rw[<-d];exact k m r _ _ g p e o u
def Zit{d:Tok}(h:HereD K e "number" "Fractions.number" ZaV #[.int 1 d]) (c:ExcC K mg "NoNumber" b) (a:Has P w K mg base "divisor" 1 ["one","other"] ZaZ):HasMX P w K mg base e "number" 2 ["self","top","bottom"] [.int 1] (Zdq b) :=
 h.hasMX (ds:=[.int 1 d]) (.cons (_,rfl) .nil) (λf j T F=>F.binds λ_ _ _ _ _ _ i g=>by obtain ⟨_,_,rfl⟩:=len2 (show i.length=2 by simpa using g);exact (_,rfl,rfl)) λf j T F=>Zis F c a
end
def ZsK{p t b u v r:Int}(d:2<=p)(h:(1:Int)=b*u+p*v)(hr:r=t*u%p):0<=r/\r<p/\p ∣ r*b-t:=by
 subst hr;refine (Int.emod_nonneg _ ⋯,Int.emod_lt_of_pos _ ⋯,?_);have e:=Int.emod_add_mul_ediv (t*u) p;have a:t*u%p=t*u-p*(t*u/p):=⋯;refine (-(t*v)-(t*u/p)*b,?_);rw[a];have c:t=t*b*u+t*p*v:=by
  have:=congrArg (t * ·) h
  simp only[Ut,Int.mul_add] at this
  rw[Qx,Qx];exact this
 generalize t*u/p=k at *;rw[Int.sub_mul,Int.mul_sub,Uj,Qx p k b];have g:t*u*b=t*b*u:=by rw[Qx,W1 u b,<-Qx]
 have f:p*(t*v)=t*p*v:=by rw[<-Qx,W1 p t]
 omega
inductive ZbE (CR cN:Addr) (vs:List V) (H:Hp) (Q:VK) (E:XK):Prop
 |mk (s:Addr) (p t b:Int) (_:vs=[.ref s,.int t,.int b]) (_:ReA CR p H s) (_:M2.Prm p) (_:p<1000000) (_:t.natAbs<=10^140) (_:b.natAbs<=10^100) (_:(p ∣ b->E (.ref cN) none H)) (_:(¬p ∣ b->∀(H':Hp) (r:Int),Same H H'->0<=r->r<p->p ∣ r*b-t->Q (.int r) H')):ZbE CR cN vs H Q E
section
variable{P:Program}{w:World}{K:ZZfg}{mg:ZZmg}{base:Heap}
def Zfq:FnScope ["self","top","bottom"] ["self","top","bottom"] (Zab Zbh):=‹2›
def Zfr{CR o:Addr}(F:FunD K "number" "Rests.number" Zbh f n T items) (cl:Cls K CR) (l:NoAttr K CR "prime") (c:ExcC K mg "NoNumber" o) (a:Has P w K mg base "shares" 2 ["one","other"] Zc8):FnOk P w K mg base (CXx P w) 3 f n ["self","top","bottom"] (ZbE CR o):=by
 refine F.okx Zfq (λO H Q E h=>?_)<|λL A j s H O Q E N h=>?_
 ·obtain ⟨_,_,_,_,rfl,_⟩:=h
  rfl
 obtain ⟨sr,p,t,b,rfl,⟨g,i⟩,m,W,R,lb,B,k⟩:=h;have M:=m.1;refine (_,(Zag (ZaY (Zay Zbr (Zap Zbn (pv 2)<|ZeE (pv 0) rfl) Zac<|ZaC _) (Zad<|Zd1 c ZhE rfl (by rfl)<|Zaa Zhl Zaf) Zav)
  (Zad<|Zaq<|Zap Zbn (Zap ZaK (pv 1)<|ZaD Zau (ZaG a N (by rfl)<|Zaa (pv 2)<|Zaa (ZeE (pv 0) rfl) Zaf) Zac<|λ_ _=>rfl)<|ZeE (pv 0) rfl)),?_)
 refine (_,rfl,_,rfl,sr,CR,g,_,_,rfl,i,cl,l,Zb6 p,_,_,rfl,rfl,(show p≠0 by omega),rfl,_,rfl,?_);refine Zb1 (λz=>((by show 1<=1000;decide),B<|(M2.fmod_dvd ⋯).mp z))<|λJ=>?_;have d:¬p ∣ b:=λz=>J<|(M2.fmod_dvd ⋯).mpr z;have x:=M2.prm_gcd m d;refine (_,rfl,_,rfl,_,rfl,sr,CR,g,_,_,rfl,i,cl,l,Zb6 p,b,p,rfl,lb,⋯,λq I u v S y e X U=>?_);refine (_,_,_,_,rfl,rfl,SqT.of y,rfl,_,_,rfl,rfl,Zbu ⋯ ⋯,_,rfl,sr,CR,g,_,_,rfl,S _ _ i,cl,l,Zb6 p,_,_,rfl,rfl,(show p≠0 by omega),?_);rw[x] at e;obtain ⟨G,C,D⟩:=ZsK (p:=p) (t:=t) (b:=b) (r:=t*u%p) M e rfl;show Q (V.int<|(t*u).fmod p) _;rw[Wm _ ⋯];exact k d I _ S G C D
def Zj8{CR b:Addr}{j:Tok}(h:HereD K CR "number" "Rests.number" Zbh #[.int 1 j]) (cl:Cls K CR) (e:NoAttr K CR "prime") (c:ExcC K mg "NoNumber" b) (a:Has P w K mg base "shares" 2 ["one","other"] Zc8):HasMX P w K mg base CR "number" 3 ["self","top","bottom"] [] (ZbE CR b) :=
 h.hasMX (ds:=[]) .nil (λf g T F=>F.binds λ_ _ _ _ _ _ d i=>by obtain ⟨_,_,_,rfl⟩:=ZcZ (show d.length=3 by simpa using i);exact (_,rfl,rfl)) λf g T F=>Zfr F cl e c a
def Ziu{CR d:Addr}{b:Tok}(h:HereD K CR "number" "Rests.number" Zbh #[.int 1 b]) (cl:Cls K CR) (g:NoAttr K CR "prime") (c:ExcC K mg "NoNumber" d) (a:Has P w K mg base "shares" 2 ["one","other"] Zc8):HasMX P w K mg base CR "number" 3 ["self","top","bottom"] [.int 1] (ZbE CR d) :=
 h.hasMX (ds:=[.int 1 b]) (.cons (_,rfl) .nil) (λf i T F=>F.binds λ_ _ _ _ _ _ e j=>by obtain ⟨_,_,rfl⟩:=len2 (show e.length=2 by simpa using j);exact (_,rfl,rfl)) λf i T F=>Zfr F cl g c a
end
inductive Zet (K:ZZfg) (CF:Addr) (vs:List V) (H:Hp) (Q:VK) (zE:XK):Prop
 |mk (s p q:Addr) (a1 b1 a2 b2:Int) (_:vs=[.ref s,.ref p,.ref q]) (_:FrA CF H s) (_:SqT K H p [.int a1,.int b1]) (_:SqT K H q [.int a2,.int b2]) (_:Fc a1 b1) (_:Fc a2 b2) (_:Bits 1000000 a1) (_:Bits 4000 b1) (_:Bits 1000000 a2) (_:Bits 4000 b2) (_:∀(t:Addr) (H':Hp) (x y:Int),Same H H'->H' t=some (.tup [.int x,.int y])->H t=none->Fc x y->x*(b1*b2)=(a1*b2+(-a2)*b1)*y->Q (.ref t) H'):Zet K CF vs H Q zE
section
variable{P:Program}{w:World}{K:ZZfg}{mg:ZZmg}{base:Heap}
def ZdP:FnScope ["self","one","other"] ["self","one","other"] (Zab ZbA):=‹2›
def Zj9(h:HereM K a "minus" "Fractions.minus" ZbA) (cl:Cls K a) (I:HasM P w K mg base a "plus" 2 ["self","one","other"] [] (Zd5 K a)):HasM P w K mg base a "minus" 3 ["self","one","other"] [] (Zet K a):=by
 refine h.hasM (λ_ _ F=>F.b3 λ_ _ _ _ _ _ _ _ _=>rfl) λf Y F=>F.ok ZdP (λW H Q E h=>?_)<|λO A d s H W Q E R h=>?_
 ·obtain ⟨_,_,_,_,_,_,_,rfl,_⟩:=h
  rfl
 obtain ⟨G,p,q,C,U,v,m,rfl,⟨D,n⟩,J,l,N,B,i,b,c,g,k⟩:=h;refine (_,(Zad<|Zaq<|Zgo (pv 0) R<|Zaa (pv 1)<|Zaa (Zb0<|Zaa (ZjR Zf0<|ZaD Zau (pv 2) Zac<|λ_ _=>rfl)<|Zaa (ZaD Zau (pv 2) Zac<|λ_ _=>rfl) Zaf) Zaf),?_);refine (_,rfl,_,_,_,_,_,_,_,rfl,n,cl,I,rfl,_,rfl,_,rfl,_,_,_,_,rfl,rfl,l,rfl,_,rfl,_,rfl,_,_,_,_,rfl,rfl,l,rfl,(by show 2<=sizeLine;decide),λr j=>?_);have S:=Zar j<|.tup [.int<|-v,.int m];refine (G,p,r,C,U,-v,m,rfl,(D,S _ _ n),S.tup J,SqT.of Zai,N,(B.pos,by rw[Int.neg_gcd];exact B.cop),i,b,c.le ⋯,g,λt X x y M T u L e=>?_);exact k t X x y (S.trans M) T (by
  cases z:H t with
  |none=>rfl
  |some o=>rw[S t o z] at u;cases u) L e
def ZfP:FnScope ["self","one","other"] ["self","one","other"] (Zab Zcx):=‹2›
def Zlo{CR:Addr}(h:HereM K CR "minus" "Rests.minus" Zcx) (cl:Cls K CR) (e:NoAttr K CR "prime"):HasM P w K mg base CR "minus" 1 ["self","one","other"] [] (Zfp CR λa b=>a-b):=by
 refine h.hasM (λ_ _ F=>F.b3 λ_ _ _ _ _ _ _ _ _=>rfl) λf n F=>F.ok ZfP (λj H Q E h=>?_)<|λd A c s H j Q E m h=>?_
 ·obtain ⟨_,_,_,_,rfl,_⟩:=h
  rfl
 obtain ⟨sr,p,a,b,rfl,⟨g,i⟩,l,o,lb,k⟩:=h;refine (_,(Zad<|Zaq<|Zap Zbn (Zap Zbq (pv 1)<|pv 2)<|ZeE (pv 0) rfl),?_);refine (_,rfl,_,rfl,_,_,rfl,rfl,_,rfl,sr,CR,g,_,_,rfl,i,cl,e,Zb6 p,_,_,rfl,rfl,(show p≠0 by omega),?_);show Q (V.int<|(a-b).fmod p) _;rw[Wm _ ⋯];exact k
end
inductive ZgH (K:ZZfg) (cN:Addr) (vs:List V) (H:Hp) (Q:VK) (E:XK):Prop
 |mk (s p:Addr) (a b:Int) (_:vs=[.ref s,.ref p]) (_:SqT K H p [.int a,.int b]) (_:Fc a b) (_:(a=0->E (.ref cN) none H)) (_:(a≠0->∀(r:Addr) (x y:Int),H r=none->Fc x y->x*a=b*y->x.natAbs=b.natAbs->y.natAbs=a.natAbs->Q (.ref r) (upd H r (.tup [.int x,.int y])))):ZgH K cN vs H Q E
section
variable{P:Program}{w:World}{K:ZZfg}{mg:ZZmg}{base:Heap}
def Zeu:FnScope ["self","one"] ["self","one"] (Zab ZbM):=‹2›
def Znb(h:HereM K j "back" "Fractions.back" ZbM) (c:ExcC K mg "NoNumber" l):HasMX P w K mg base j "back" 1 ["self","one"] [] (ZgH K l):=by
 refine h.hasMX (λ_ _ F=>F.b2 λ_ _ _ _ _ _ _ _=>rfl) λf x F=>F.okx Zeu (λq H Q E h=>?_)<|λn A g s H q Q E v h=>?_
 ·obtain ⟨_,_,_,_,rfl,_⟩:=h
  rfl
 obtain ⟨y,p,a,b,rfl,e,i,o,k⟩:=h;have u:=i.pos;refine (_,(Zag (ZaY (Zay Zbr (ZaD Zau (pv 1) Zac<|λ_ _=>rfl) Zac<|ZaC _) (Zad<|Zd1 c ZhE rfl (by rfl)<|Zaa Zhl Zaf) Zav)
  (Zag (ZaY (Zay ZdW (ZaD Zau (pv 1) Zac<|λ_ _=>rfl) Zac<|ZaC _) (Zad<|Zaq<|Zb0<|Zaa (ZjR Zf0<|ZaD Zau (pv 1) Zac<|λ_ _=>rfl)<|Zaa (ZjR Zf0<|ZaD Zau (pv 1) Zac<|λ_ _=>rfl) Zaf) Zav)
  (Zad<|Zaq<|Zb0<|Zaa (ZaD Zau (pv 1) Zac<|λ_ _=>rfl)<|Zaa (ZaD Zau (pv 1) Zac<|λ_ _=>rfl) Zaf))),?_)
 refine (_,rfl,_,_,_,_,rfl,rfl,e,rfl,rfl,_,rfl,?_);refine Zb1 (λz=>((by show 1<=1000;decide),o z))<|λm=>?_;refine (_,rfl,_,_,_,_,rfl,rfl,e,rfl,_,_,rfl,rfl,_,rfl,?_);refine ZcR (λt=>?_)<|λt=>?_
 ·refine (_,rfl,_,_,_,_,rfl,rfl,e,rfl,_,rfl,_,rfl,_,_,_,_,rfl,rfl,e,rfl,_,rfl,(by show 2<=sizeLine;decide),λr d=>?_);refine k m r (-b) (-a) d (⋯,?_) (by rw[Int.neg_mul,Uj]) ⋯ ⋯;rw[Int.neg_gcd,Int.gcd_neg,Int.gcd_comm];exact i.cop
 ·refine (_,rfl,_,_,_,_,rfl,rfl,e,rfl,_,rfl,_,_,_,_,rfl,rfl,e,rfl,(by show 2<=sizeLine;decide),λr d=>?_);exact k m r b a d (⋯,by rw[Int.gcd_comm];exact i.cop) rfl rfl rfl
end
inductive ZgI (CR cN:Addr) (vs:List V) (H:Hp) (Q:VK) (E:XK):Prop
 |mk (s:Addr) (p a:Int) (_:vs=[.ref s,.int a]) (_:ReA CR p H s) (_:M2.Prm p) (_:p<1000000) (_:a.natAbs<=10^100) (_:(p ∣ a->E (.ref cN) none H)) (_:(¬p ∣ a->∀(H':Hp) (r:Int),Same H H'->0<=r->r<p->p ∣ r*a-1->Q (.int r) H')):ZgI CR cN vs H Q E
section
variable{P:Program}{w:World}{K:ZZfg}{mg:ZZmg}{base:Heap}
def ZgJ:FnScope ["self","one"] ["self","one"] (Zab Zc2):=‹2›
def Znc{CR e:Addr}(h:HereM K CR "back" "Rests.back" Zc2) (cl:Cls K CR) (g:HasMX P w K mg base CR "number" 3 ["self","top","bottom"] [] (ZbE CR e)):HasMX P w K mg base CR "back" 4 ["self","one"] [] (ZgI CR e):=by
 refine h.hasMX (λ_ _ F=>F.b2 λ_ _ _ _ _ _ _ _=>rfl) λf r F=>F.okx ZgJ (λq H Q E h=>?_)<|λi A b s H q Q E m h=>?_
 ·obtain ⟨_,_,_,rfl,_⟩:=h
  rfl
 obtain ⟨sr,p,a,rfl,⟨c,d⟩,l,o,n,j,k⟩:=h;refine (_,(Zad<|Zaq<|Zgp (pv 0) Zpk m<|Zaa Zac<|Zaa (pv 1) Zaf),?_);exact (_,rfl,sr,CR,c,_,_,_,_,rfl,d,cl,g,ZdB p ∅,_,rfl,sr,p,1,a,rfl,(c,d),l,o,∅,n,j,k)
end
inductive Zev (K:ZZfg) (CF:Addr) (vs:List V) (H:Hp) (Q:VK) (zE:XK):Prop
 |mk (s p:Addr) (a b:Int) (_:vs=[.ref s,.ref p]) (_:SqT K H p [.int a,.int b]) (_:Q (.bl (decide (a=0))) H):Zev K CF vs H Q zE
section
variable{P:Program}{w:World}{K:ZZfg}{mg:ZZmg}{base:Heap}
def ZcT:FnScope ["self","one"] ["self","one"] (Zab Zbb):=‹2›
def Zka(h:HereM K d "is_nought" "Fractions.is_nought" Zbb):HasM P w K mg base d "is_nought" 1 ["self","one"] [] (Zev K d):=by
 refine h.hasM (λ_ _ F=>F.b2 λ_ _ _ _ _ _ _ _=>rfl) λf l F=>F.ok ZcT (λg H Q E h=>?_)<|λe A c s H g Q E j h=>?_
 ·obtain ⟨_,_,_,_,rfl,_⟩:=h
  rfl
 obtain ⟨m,p,a,b,rfl,i,k⟩:=h;refine (_,(Zad<|Zaq<|Zcr Zbr (ZaD Zau (pv 1) Zac<|λ_ _=>rfl) Zac<|ZaC _),?_);refine (_,rfl,_,_,_,_,rfl,rfl,i,rfl,rfl,?_);rw[Zie];exact k
end
inductive Zew (vs:List V) (H:Hp) (Q:VK) (zE:XK):Prop
 |mk (s:Addr) (a:Int) (_:vs=[.ref s,.int a]) (_:Q (.bl (decide (a=0))) H):Zew vs H Q zE
section
variable{P:Program}{w:World}{K:ZZfg}{mg:ZZmg}{base:Heap}
def Zd6:FnScope ["self","one"] ["self","one"] (Zab ZbC):=‹2›
def Zkb{CR:Addr}(h:HereM K CR "is_nought" "Rests.is_nought" ZbC):HasM P w K mg base CR "is_nought" 1 ["self","one"] [] Zew:=by
 refine h.hasM (λ_ _ F=>F.b2 λ_ _ _ _ _ _ _ _=>rfl) λf g F=>F.ok Zd6 (λd H Q E h=>?_)<|λc A b s H d Q E e h=>?_
 ·obtain ⟨_,_,rfl,_⟩:=h
  rfl
 obtain ⟨i,a,rfl,k⟩:=h;refine (_,(Zad<|Zaq<|Zcr Zbr (pv 1) Zac<|ZaC _),?_);refine (_,rfl,rfl,?_);rw[Zie];exact k
end
def Zfs(N:Int){D:Int}(b:0<D):(Rat.divInt N D).num*D=N*(Rat.divInt N D).den:=by
 have h:=Qy<|Rat.divInt N D;have a:=(Zbf<|Rat.divInt N D).pos;have:=(Wb (n₁:=(Rat.divInt N D).num) (d₁:=((Rat.divInt N D).den:Int)) (n₂:=N) (d₂:=D) ⋯ ⋯).mp h;exact this
def Ziv{a b c:Int}(h:a ∣ b*c)(g:Int.gcd a b=1):a ∣ c:=by
 rw[<-U2] at h ⊢;rw[Ql] at h;exact Nat.Coprime.dvd_of_dvd_mul_left g h
def Zc9(N:Int){D:Int}(a:0<D):((Rat.divInt N D).den:Int) ∣ D/\(Rat.divInt N D).num ∣ N:=by
 have e:=Zfs N a;have c:=(Zbf<|Rat.divInt N D).cop;generalize (Rat.divInt N D).num=n at *;generalize ((Rat.divInt N D).den:Int)=d at *;refine (?_,?_)
 ·refine Ziv (b:=n) (N,?_) (by rw[Int.gcd_comm];exact c);rw[e,W1]
 ·refine Ziv (b:=d) (D,?_) c;rw[e,W1]
def Zbd{a b:Int}(h:a ∣ b)(c:b≠0):a.natAbs<=b.natAbs:=Ub ⋯<|U2.mpr h
def Zjh{a b:Int}(h:a ∣ b)(c:Bits n b)(d:b=0->a=0):Bits n a:=by
 by_cases z:b=0
 ·rw[d z];exact Qg _
 ·exact c.le (Zbd h z)
def Zji(N:Int){D:Int}(a:0<D)(z:N=0):(Rat.divInt N D).num=0:=by
 subst z;have e:=Zfs 0 a;rw[Int.zero_mul] at e;rcases Int.mul_eq_zero.mp e with h|h
 ·exact h
 ·omega
def KdX(a CR:Addr)(κ:KX)(H:Hp)(s:Addr):Prop:=match κ with
 | .q=>FrA a H s
 | .r p _=>ReA CR p H s
def KdX.same{b CR:Addr}{κ:KX}(h:KdX b CR κ H k)(S:Same H c):KdX b CR κ c k:=by
 cases κ with
 |q=>obtain ⟨a,h⟩:=h;exact (a,S _ _ h)
 |r p d=>obtain ⟨a,h⟩:=h;exact (a,S _ _ h)
def Zq1{a CR:Addr}(h:KdA a CR p H s):∃κ:KX,κ.P=p/\KdX a CR κ H s:=by
 rcases h with ⟨rfl,h⟩|⟨pr,lp,h⟩
 ·exact (.q,rfl,h)
 ·have b:=pr.1;have e:((p.toNat:Nat):Int)=p:=⋯;refine (.r p.toNat (by rw[e];exact pr,⋯),e,?_);show ReA CR ((p.toNat:Nat):Int) H s;rw[e];exact h
abbrev B1(κ:KX)(x:κ.F):Prop:=Bd κ 1000000 4000 x
def Za7(h:PrN p)(x:Fin p):((x.val:Int)).natAbs<=10^150:=by
 have:=x.isLt;have:=h.lt;exact Q0 (show _<=1000000 by omega) ∅
def Zpv(P:Program)(w:World)(K:ZZfg)(mg:ZZmg)(base:Heap)(h CR:Addr)(m:Str)(g:(a:KX)->a.F->a.F->a.F):Prop :=
 ∀(a:KX) (H:Hp) (s:Addr),KdX h CR a H s->∃C i e j c f,H s=some (.ins C i e)/\Cls K C/\HasM P w K mg base C m 2 j c f/\e.lookup m=none/\c=[] ∧
  ∀(d:Hp) (u v:V) (x y:a.F) (Q:VK),Same H d->NR a d u x->NR a d v y->B1 a x->B1 a y->(∀t b,Same d b->NR a b t (g a x y)->Q t b)->f [.ref s,u,v] d Q E0
section
variable{P:Program}{w:World}{K:ZZfg}{mg:ZZmg}{base:Heap}{CF CR:Addr}
def Zlp(o:Kd K mg CF CR)(C:HasM P w K mg base CF "plus" 2 ["self","one","other"] [] (Zd5 K CF)) (F:HasM P w K mg base CR "plus" 2 ["self","one","other"] [] (Zfp CR λa b=>a+b)):Zpv P w K mg base CF CR "plus" (λ_ x y=>x+y):=by
 intro B H s z
 cases B with
 |q =>
  obtain ⟨g,h⟩:=z;refine (CF,g,[],_,_,_,h,o.clF,C,rfl,rfl,λA u v x y Q S c f m i k=>?_);obtain ⟨a,rfl,c⟩:=c;obtain ⟨b,rfl,f⟩:=f;refine (s,a,b,_,_,_,_,rfl,(g,S _ _ h),SqT.of c,SqT.of f,Zbf x,Zbf y,m.1,m.2,i.1,i.2,λt j n d I J L E e=>?_);obtain ⟨G,D⟩:=Zll (x:=x) (y:=y) E e;refine k (.ref t) j I (t,rfl,?_);show j t=some (.tup [.int (x+y).num,.int ((x+y).den:Int)]);rw[G,D];exact J
 |r p l =>
  obtain ⟨g,h⟩:=z;refine (CR,g,fsR p,_,_,_,h,o.clR,F,ZdB _ ∅,rfl,λA u v x y Q S c f _ _ k=>?_);have c:u = .int x.val:=c;have f:v = .int y.val:=f;subst c f;refine (s,p,_,_,rfl,(g,S _ _ h),by have:=l.two;omega,Za7 l x,Za7 l y,k _ A (Same.refl _) ?_);show V.int (((x.val:Int)+y.val)%p)=V.int ((Fin.val (x+y):Nat):Int);have e:Fin.val (x+y)=(x.val+y.val)%p:=Fin.val_add x y;rw[e,Ww,Int.natCast_add]
def Zkc(o:Kd K mg CF CR)(C:HasM P w K mg base CF "times" 2 ["self","one","other"] [] (Zes K CF)) (F:HasM P w K mg base CR "times" 2 ["self","one","other"] [] (Zfp CR λa b=>a*b)):Zpv P w K mg base CF CR "times" (λ_ x y=>x*y):=by
 intro B H s z
 cases B with
 |q =>
  obtain ⟨g,h⟩:=z;refine (CF,g,[],_,_,_,h,o.clF,C,rfl,rfl,λA u v x y Q S c f m i k=>?_);obtain ⟨a,rfl,c⟩:=c;obtain ⟨b,rfl,f⟩:=f;refine (s,a,b,_,_,_,_,rfl,(g,S _ _ h),SqT.of c,SqT.of f,Zbf x,Zbf y,m.1,m.2,i.1,i.2,λt j n d I J L E e=>?_);obtain ⟨G,D⟩:=Zir (x:=x) (y:=y) E e;refine k (.ref t) j I (t,rfl,?_);show j t=some (.tup [.int (x*y).num,.int ((x*y).den:Int)]);rw[G,D];exact J
 |r p l =>
  obtain ⟨g,h⟩:=z;refine (CR,g,fsR p,_,_,_,h,o.clR,F,ZdB _ ∅,rfl,λA u v x y Q S c f _ _ k=>?_);have c:u = .int x.val:=c;have f:v = .int y.val:=f;subst c f;refine (s,p,_,_,rfl,(g,S _ _ h),by have:=l.two;omega,Za7 l x,Za7 l y,k _ A (Same.refl _) ?_);show V.int (((x.val:Int)*y.val)%p)=V.int ((Fin.val (x*y):Nat):Int);have e:Fin.val (x*y)=(x.val*y.val)%p:=Fin.val_mul x y;rw[e,Ww,W2]
end
end My
namespace L2
open PySem PySem.Spec PyProof.Rows
section
variable{X:Cx}
def Zjj:OpR X (binaryOp .FloorDiv) (rI (λ_ j=>j≠0/\Bits 8000 j) λi j => .int<|i.fdiv j):=opI λ_ _ _ _ _ _ _ a q=>floordiv_int a.1 q<|.inl<|PyProof.noPylong_of_log2<|Nat.lt_trans (a.2.log a.1) ∅
end
end L2
namespace My
open PySem L2 PyProof.Rows
section
variable{κ:KX}
def RowsX(κ:KX)(H:Hp)(as:ZZla)(R:ZZll κ):Prop:=as.length=R.length/\∀(i:Nat) a f,as[i]?=some a->R[i]?=some f->∃b,H a=some (.lst b)/\AllG (NR κ H) b f
def AllR(a:κ.F->Prop)(R:ZZll κ):Prop:=∀f∈R,∀x∈f,a x
def RowsX.same{R:ZZll κ}(h:RowsX κ H as R)(S:Same H b):RowsX κ b as R :=
 (h.1,λi a f d c=>let ⟨xs,hx,al⟩:=h.2 i a f d c;(xs,S _ _ hx,al.mono λ_ _ n=>n.same S))
def RowsX.off{t:Addr}{R:ZZll κ}{ys:List V}(h:RowsX κ H as R)(n:t∉as)(e:H t=some (.lst ys))(O:Off [t] H b):RowsX κ b as R :=
 (h.1,λi a f c d=>let ⟨xs,hx,al⟩:=h.2 i a f c d;(xs,O _ _ (λm=>n (by rw[<-Qf.mp m];exact Qd c)) hx,al.mono λ_ _ n=>n.off e O))
def RowsX.get{R:ZZll κ}(h:RowsX κ H as R){i:Nat}(c:i<R.length):∃a xs,as[i]?=some a/\H a=some (.lst xs)/\AllG (NR κ H) xs R[i]:=by
 have l:=h.1;obtain ⟨xs,d,b⟩:=h.2 i (as[i]'⋯) R[i] (Q6 ⋯)<|Q6 c;exact (_,xs,Q6 ⋯,d,b)
end
def ZgK[Decidable p]{A B:Prop}(h:p)(k:A):if decide p=true then A else B:=by rw[if_pos<|decide_eq_true h];exact k
def Zod[Decidable p]{A B:Prop}(h:¬p)(k:B):if decide p=true then A else B:=by rw[if_neg (by simpa using h)];exact k
def Zjk{α:Type}{R:List (List α)}{i:Nat}{f:List α}(h:R[i]?=some f):R.getD i []=f:=by rw[Q2,h];rfl
def Wid{α:Type}(m:Nat)(R:List (List α)):Prop:=∀f∈R,f.length=m
def Wid.get{α:Type}{R:List (List α)}(h:Wid m R){i:Nat}(a:i<R.length):(R.getD i []).length=m:=by
 rw[Zjk<|Q6 a];exact h _<|Qu a
def Wid.set{α:Type}{R:List (List α)}{f:List α}(h:Wid m R)(e:f.length=m):Wid m (R.set i f):=λg a=>by
 rcases List.mem_or_eq_of_mem_set a with a|rfl
 ·exact h g a
 ·exact e
def Znd{t:Addr}(S:Same H a):Off [t] H (upd a t o):=λb u n q=>by
 rw[Zaj<|λz=>n (by rw[z];exact Qf.mpr rfl)];exact S _ _ q
def RowsX.notin{κ:KX}{R:ZZll κ}(h:RowsX κ H as R)(n:H r=none):r∉as:=λm=>by
 obtain ⟨i,b,e⟩:=List.getElem_of_mem m;have l:=h.1;obtain ⟨c,a,_⟩:=h.2 i r _ (by rw[<-e];exact Q6 b)<|Q6 (show i<R.length by omega);rw[a] at n;cases n
def RowsX.snoc{κ:KX}{R:ZZll κ}{xs:List V}{f:ZZlk κ}(h:RowsX κ H as R)(j:H a=some (.lst xs))(e:AllG (NR κ H) xs f):RowsX κ H (as++[a]) (R++[f]):=by
 have l:=h.1;refine (by rw[Qi,Qi,l];rfl,λi b g c d=>?_)
 by_cases hi:i<as.length
 ·rw[Wr hi] at c;rw[Wr ⋯] at d;exact h.2 i b g c d
 ·rw[Wz ⋯] at c d;rw[<-l] at d
  cases q:i-as.length with
  |zero=>rw[q] at c d;cases c;cases d;exact (xs,j,e)
  |succ n=>rw[q] at c;simp at c
def RowsX.nil{κ:KX}:RowsX κ H [] []:=(rfl,λi a f h=>by simp at h)
def Zkd{l:ZZla}{a:Addr}(h:l.Nodup)(n:a∉l):(l++[a]).Nodup:=by
 rw[List.nodup_append];exact (h,by simp,λx c y b=>by rw[Qf] at b;subst b;exact λz=>n<|z ▸ c)
open PySem L2 PyProof.Rows
def Sz(κ:KX)(n:Nat)(x:κ.F):Prop:=match κ with
 | .q=>(x.den:Int) ∣ 60*12^n/\Bits (200+700*n) x.num
 | .r _ _=>True
def Zud{t b:Int}(a:0<b):(t.fdiv (Int.gcd t b)=(Rat.divInt t b).num)/\(b.fdiv (Int.gcd t b)=((Rat.divInt t b).den:Int)):=by
 obtain ⟨e,f,g,_,_⟩:=M3.low (t:=t) a;obtain ⟨c,d⟩:=Zlk (N:=t) (D:=b) (f,e) a g;exact (c.symm,d.symm)
inductive Zft (vs:List V) (H:Hp) (Q:VK) (zE:XK):Prop
 |mk (t b:Int) (_:vs=[.int t,.int b]) (_:0<b) (_:Bits 8000 b) (_:∀r,H r=none->Q (.ref r) (upd H r (.tup [.int (Rat.divInt t b).num,.int ((Rat.divInt t b).den:Int)]))):Zft vs H Q zE
inductive ZeW (g:(κ:KX)->κ.F->κ.F->κ.F) (vs:List V) (H:Hp) (Q:VK) (zE:XK):Prop
 |mk (κ:KX) (u v:V) (x y:κ.F) (_:vs=[.int κ.P,u,v]) (_:NR κ H u x) (_:NR κ H v y) (_:B1 κ x) (_:B1 κ y) (_:∀H' t,Same H H'->NR κ H' t (g κ x y)->Q t H'):ZeW g vs H Q zE
def Zlq:0<(KX.r p h).P:=by have:=h.two;show 0<(p:Int);omega
def Zq2(h:PrN p)(c:Int):∃x:Fin p,(c.fmod (p:Int))=(x.val:Int):=by
 have b:=h.two;rw[Wm _ ⋯];have d:=Int.emod_nonneg c (show (p:Int)≠0 by omega);have a:=Int.emod_lt_of_pos c (show 0<(p:Int) by omega);exact (((c%p).toNat,⋯),by show c%p=(((c%p).toNat:Nat):Int);omega)
def AllR.snoc{κ:KX}{a:κ.F->Prop}{R:ZZll κ}{f:ZZlk κ}(h:AllR a R)(g:∀x∈f,a x):AllR a (R++[f]):=λe he=>by
 rcases We.mp he with he|he
 ·exact h e he
 ·rw[Qf.mp he];exact g
def Wid.snoc{α:Type}{R:List (List α)}{f:List α}(h:Wid m R)(e:f.length=m):Wid m (R++[f]):=λg hg=>by
 rcases We.mp hg with hg|hg
 ·exact h g hg
 ·rw[Qf.mp hg];exact e
def Ziw{a b:Int}{A B:Prop}(h:a=b)(k:A):if decide (V.int a=V.int b)=true then A else B:=Zb1 (λ_=>k)<|λz=>absurd h z
def Zlr{a b:Int}{A B:Prop}(h:a≠b)(k:B):if decide (V.int a=V.int b)=true then A else B:=Zb1 (λz=>absurd z h)<|λ_=>k
noncomputable abbrev K1(κ:KX):κ.F:=1
noncomputable abbrev K0(κ:KX):κ.F:=0
def ZgL(h:PrN p):Fin.val (K1<|.r p h)=1:=by
 show 1%p=1;exact Nat.mod_eq_of_lt h.two
def ZeX(h:PrN p):Fin.val (K0<|.r p h)=0:=by
 show 0%p=0;exact Nat.zero_mod p
def ZtI{us:List Value}(h:us.length=5):∃a b c d e,us=[a,b,c,d,e]:=match us,h with| [a,b,c,d,e],_=>(a,b,c,d,e,rfl)
section
variable{κ:KX}
def AllR.getD{b:κ.F->Prop}{R:ZZll κ}(h:AllR b R)(i:Nat):∀x∈R.getD i [],b x:=λx a=>by
 rw[Q2] at a
 cases e:R[i]? with
 |none=>rw[e] at a;cases a
 |some f=>rw[e] at a;exact h f (Qd e) x a
def Zfu{α:Type}{f:α->α->α}{z:α}:∀ {a b:List α},z∈List.zipWith f a b->∃x∈a,∃y∈b,z=f x y
 | [],_,h=>by simp at h
 |_::_,[],h=>by simp at h
 |x::a,y::b,h=>by
  rw[List.zipWith_cons_cons] at h;rcases Qe.mp h with rfl|h
  ·exact (x,by simp,y,by simp,rfl)
  ·obtain ⟨u,d,v,c,e⟩:=Zfu h;exact (u,by simp[d],v,by simp[c],e)
end
def Zq3(xs:List V)(n:Nat):Zh9 xs none (some (n:Int))=xs.take n:=by
 unfold Zh9;rw[HT.sIx_none,List.drop_zero,Ul];rw[HT.sIx_nat,Nat.min_def]
 split
 ·rfl
 ·rw[U1<|Q4 _,U1 ⋯]
def ZhI(xs:List V)(n:Nat):Zh9 xs (some (n:Int)) none=xs.drop n:=by
 unfold Zh9;rw[HT.sIx_none,HT.sIx_nat]
 by_cases h:n<=xs.length
 ·rw[Nat.min_eq_left h,U1];rw[Wj];omega
 ·rw[Nat.min_eq_right ⋯,List.drop_of_length_le ⋯,List.drop_of_length_le ⋯]
  simp
def ZgM{α:Type}[Fd α]{x r:α}(h:x*r=1):r=Fd.inv x:=by
 have a:x≠0:=λz=>by
  subst z;have e:(0:α)*r=0:=by grind
  rw[e] at h;exact Fd.zne h
 have:=Fd.mul_inv x a;grind
def Zjl(a:Fc n d):∃q:Rat,q.num=n/\(q.den:Int)=d:=by
 have c:=a.pos;refine ((n,d.toNat,⋯,?_),rfl,by show ((d.toNat:Nat):Int)=d;omega);have:=a.cop;rw[Nat.coprime_iff_gcd_eq_one];have e:Int.gcd n d=Nat.gcd n.natAbs d.natAbs:=rfl;have b:d.natAbs=d.toNat:=⋯;rw[<-b];omega
def Zls{q:Rat}(f:Fc x y)(e:x*q.num=q.den*y):(Fd.inv q:Rat).num=x/\((Fd.inv q:Rat).den:Int)=y:=by
 obtain ⟨r,a,b⟩:=Zjl f;have m:=Zir (x:=q) (y:=r) (n:=1) (d:=1) (∅,∅) (by rw[a,b];have:q.num*x=x*q.num:=W1 _ _;omega);have c:q*r=1:=by
  rw[<-Qy (q*r),m.1,m.2];rfl
 have:=ZgM (α:=Rat) c;rw[<-this];exact (a,b)
def Zpw{x y:Rat}(c:Fc n d)(e:n*((x.den:Int)*y.den)=(x.num*y.den+(-y.num)*x.den)*d):(x-y).num=n/\((x-y).den:Int)=d:=by
 have a:(-y).num = -y.num:=rfl;have b:(-y).den=y.den:=rfl;have:x-y=x+(-y):=by grind
 rw[this];refine Zll (x:=x) (y:=-y) c ?_;rw[a,b];exact e
def Zlt{κ:KX}{x:κ.F}(h:Bd κ n m x):Bd κ n m (0-x):=by
 cases κ with
 |r p c=>exact trivial
 |q =>
  have e:(0-x:Rat) = -x:=by grind
  have a:(-x:Rat).num = -Rat.num x:=rfl;have b:(-x:Rat).den=Rat.den x:=rfl;refine (?_,?_)
  ·show Bits n (0-x:Rat).num;rw[e,a];exact Bits.le h.1 ⋯
  ·show Bits m ((0-x:Rat).den:Int);rw[e,b];exact h.2
noncomputable abbrev KX.mulF(κ:KX)(x y:κ.F):κ.F:=x*y
noncomputable abbrev KX.invF(κ:KX)(x:κ.F):κ.F:=Fd.inv x
def ZhJ{κ:KX}{x r:κ.F}(h:κ.mulF x r=K1 κ):r=κ.invF x:=ZgM h
def NumV(κ:KX)(t:Int)(x:κ.F):Prop:=match κ with
 | .q=>x.num=t/\x.den=1
 | .r p _=>t.natAbs<=10^140/\(x.val:Int)=t%p
def Zfv{κ:KX}:NumV κ 0 0:=by
 cases κ with
 |q=>exact (rfl,rfl)
 |r p h=>exact (∅,by show ((Fin.val (K0<|.r p h):Nat):Int)=_;rw[ZeX];simp)
def Zda{κ:KX}:NumV κ 1 1:=by
  cases κ with
  | q=>exact (rfl,rfl)
  | r p h=>exact (∅,by
      show ((Fin.val (K1<|.r p h):Nat):Int)=_;rw[ZgL];have:=h.two;exact (Uk ∅ ⋯).symm)
def NumV.uniq{κ:KX}{t:Int}{x y:κ.F}(h:NumV κ t x)(h':NumV κ t y):x=y:=by
 cases κ with
 |q =>
  have a:Rat.num x=Rat.num y:=h.1.trans h'.1.symm;have b:Rat.den x=Rat.den y:=h.2.trans h'.2.symm;exact Rat.ext a b
 |r p c =>
  refine Fin.ext ?_;have e:(Fin.val x:Int)=Fin.val y:=h.2.trans h'.2.symm;omega
def Zq4(P:Program)(w:World)(K:ZZfg)(mg:ZZmg)(base:Heap)(g CR:Addr):Prop :=
 ∀(a:KX) (H:Hp) (s:Addr),KdX g CR a H s->∃C h e i c f,H s=some (.ins C h e)/\Cls K C/\HasM P w K mg base C "minus" 3 i c f/\e.lookup ("minus":Str)=none/\c=[] ∧
  ∀(d:Hp) (u v:V) (x y:a.F) (Q:VK),Same H d->NR a d u x->NR a d v y->B1 a x->B1 a y->(∀t b,Same d b->NR a b t (x-y)->Q t b)->f [.ref s,u,v] d Q E0
def Zlu(P:Program)(w:World)(K:ZZfg)(mg:ZZmg)(base:Heap)(g CR:Addr):Prop :=
 ∀(c:KX) (H:Hp) (s:Addr),KdX g CR c H s->∃C h e i b f,H s=some (.ins C h e)/\Cls K C/\HasMX P w K mg base C "number" 3 i b f/\e.lookup ("number":Str)=none/\b=[.int 1] ∧
  ∀(d:Hp) (t:Int) (x:c.F) (Q:VK) (E:XK),Same H d->NumV c t x->(∀v a,Same d a->NR c a v x->Q v a)->f [.ref s,.int t,.int 1] d Q E
def Zjm(P:Program)(w:World)(K:ZZfg)(mg:ZZmg)(base:Heap)(g CR:Addr):Prop :=
 ∀(c:KX) (H:Hp) (s:Addr),KdX g CR c H s->∃C h e i b f,H s=some (.ins C h e)/\Cls K C/\HasMX P w K mg base C "back" 4 i b f/\e.lookup ("back":Str)=none/\b=[] ∧
  ∀(d:Hp) (u:V) (x:c.F) (Q:VK) (E:XK),Same H d->NR c d u x->x≠0->(∀v a,Same d a->NR c a v (Fd.inv x)->Q v a)->f [.ref s,u] d Q E
section
variable{P:Program}{w:World}{K:ZZfg}{mg:ZZmg}{base:Heap}{CF CR cN:Addr}
def Zke(z:Kd K mg CF CR)(D:HasM P w K mg base CF "minus" 3 ["self","one","other"] [] (Zet K CF)) (F:HasM P w K mg base CR "minus" 3 ["self","one","other"] [] (Zfp CR λa b=>a-b)):Zq4 P w K mg base CF CR:=by
 intro C H s A
 cases C with
 |q =>
  obtain ⟨g,h⟩:=A;refine (CF,g,[],_,_,_,h,z.clF,D,rfl,rfl,λB u v x y Q S c f o i k=>?_);obtain ⟨a,rfl,c⟩:=c;obtain ⟨b,rfl,f⟩:=f;refine (s,a,b,_,_,_,_,rfl,(g,S _ _ h),SqT.of c,SqT.of f,Zbf x,Zbf y,o.1,o.2,i.1,i.2,λt j n d I J L E e=>?_);obtain ⟨G,l⟩:=Zpw (x:=x) (y:=y) E e;refine k (.ref t) j I (t,rfl,?_);show j t=some (.tup [.int (x-y:Rat).num,.int ((x-y:Rat).den:Int)]);rw[G,l];exact J
 |r p m =>
  obtain ⟨g,h⟩:=A;refine (CR,g,fsR p,_,_,_,h,z.clR,F,ZdB _ ∅,rfl,λB u v x y Q S c f _ _ k=>?_);have c:u = .int x.val:=c;have f:v = .int y.val:=f;subst c f;refine (s,p,_,_,rfl,(g,S _ _ h),by have:=m.two;omega,Za7 m x,Za7 m y,k _ B (Same.refl _) ?_);show V.int (((x.val:Int)-y.val)%p)=V.int ((Fin.val (x-y):Nat):Int);have e:Fin.val (x-y)=(p-y.val+x.val)%p:=rfl;have M:=y.isLt;have l:(((p-y.val+x.val:Nat)):Int)=((x.val:Int)-y.val)+p:=⋯;rw[e,Ww,l,Int.add_emod_right]
def Zix(i:Kd K mg CF CR)(o:HasMX P w K mg base CF "number" 3 ["self","top","bottom"] [.int 1] (Zdq cN)) (B:HasMX P w K mg base CR "number" 3 ["self","top","bottom"] [.int 1] (ZbE CR cN)):Zlu P w K mg base CF CR:=by
 intro m H s j
 cases m with
 |q =>
  obtain ⟨b,h⟩:=j;refine (CF,b,[],_,_,_,h,i.clF,o,rfl,rfl,λl t x Q E S a k=>(s,t,1,rfl,∅,λz=>absurd z ∅,λ_ r n d J A e M G=>?_));have F:d=1:=by
   have:=A.pos;have N:d.natAbs<=1:=G;omega
  subst F;have I:n=t:=⋯;subst I;have C:Rat.num x=n:=a.1;have y:Rat.den x=1:=a.2;refine k _ _ (Zar J _) (r,rfl,?_);show upd l r _ r=some (.tup [.int<|Rat.num x,.int ((Rat.den x:Nat):Int)]);rw[C,y];exact Zai
 |r p c =>
  obtain ⟨b,h⟩:=j;have O:=c.pr.1;refine (CR,b,_,_,_,_,h,i.clR,B,ZdB p ∅,rfl,λl t x Q E S a k=>(s,p,t,1,rfl,(b,S _ _ h),c.pr,by have:=c.lt;omega,a.1,∅,λz=>?_,λ_ f r D v u g=>?_))
  ·have:=Int.le_of_dvd ∅ z;omega
  ·refine k _ f D ?_;show V.int r=V.int ((Fin.val x:Nat):Int);have e:(Fin.val x:Int)=t%p:=a.2;rw[e]
   congr 1
   rw[Ut] at g;have L:r%p=t%p:=Int.emod_eq_emod_iff_emod_sub_eq_zero.mpr<|U9 g;rw[<-L];exact (Uk v u).symm
def Zlv(j:Kd K mg CF CR)(t:HasMX P w K mg base CF "back" 4 ["self","one"] [] (ZgH K cN)) (C:HasMX P w K mg base CR "back" 4 ["self","one"] [] (ZgI CR cN)):Zjm P w K mg base CF CR:=by
 intro κ H s m
 cases κ with
 |q =>
  obtain ⟨f,h⟩:=m;refine (CF,f,[],_,_,_,h,j.clF,t,rfl,rfl,λo u x Q E S c g k=>?_);obtain ⟨a,rfl,c⟩:=c;have y:Rat.num x≠0:=λz=>g<|Rat.num_eq_zero.mp z;refine (s,a,_,_,rfl,SqT.of c,Zbf x,λz=>absurd z y,λ_ r n d G B e M T=>?_);obtain ⟨D,A⟩:=Zls (q:=x) B e;refine k _ _ (Zar G _) (r,rfl,?_);show upd o r _ r=some (.tup [.int (Fd.inv x:Rat).num,.int ((Fd.inv x:Rat).den:Int)]);rw[D,A];exact Zai
 |r p b =>
  obtain ⟨f,h⟩:=m;have U:=b.two;refine (CR,f,_,_,_,_,h,j.clR,C,ZdB p ∅,rfl,λo u x Q E S c g k=>?_);have c:u = .int x.val:=c;subst c;have O:=x.isLt;have R:x.val≠0:=λz=>g (show x=K0 (.r p b) from Fin.ext (by rw[ZeX];exact z));have L:¬(p:Int) ∣ (x.val:Int):=λz=>by
   have:=Int.le_of_dvd ⋯ z;omega
  refine (s,p,_,rfl,(f,S _ _ h),b.pr,by have:=b.lt;omega,Q0 (show _<=1000000 by have:=b.lt;omega) ∅,λz=>absurd z L,λ_ i r F l N v=>?_);refine k _ i F ?_;have J:(KX.r p b).mulF x ((r.toNat,⋯):Fin p)=K1 (.r p b):=by
   refine Fin.ext ?_;show Fin.val ((x:Fin p)*((r.toNat,⋯):Fin p))=Fin.val (K1<|.r p b);rw[ZgL,Fin.val_mul];show x.val*r.toNat%p=1;have e:((x.val*r.toNat%p:Nat):Int)=((1:Nat):Int):=by
    rw[Ww,W2,Int.toNat_of_nonneg l];have I:r*(x.val:Int)%p=1%p:=Int.emod_eq_emod_iff_emod_sub_eq_zero.mpr<|U9 v;rw[W1,I];exact Uk ∅ ⋯
   exact_mod_cast e
  have:=ZhJ (κ:=.r p b) J;show V.int r=V.int ((Fin.val ((KX.r p b).invF x):Nat):Int);rw[show (KX.r p b).invF x=_ from this.symm];show V.int r=V.int ((r.toNat:Nat):Int);rw[Int.toNat_of_nonneg l]
end
def Zpx{κ:KX}:B1 κ 0:=by
 cases κ with
 |q=>exact (Bits.of (by show (0:Int).natAbs<_;exact Nat.two_pow_pos _),Bits.of (by show (1:Int).natAbs<_;exact Qa (show 1<2^1 by decide)<|Q5 ∅ ∅))
 |r p h=>trivial
section
variable{κ:KX}
noncomputable def ent(R:ZZll κ)(i j:Nat):κ.F:=(R.getD i []).getD j 0
def Za5{α:Type}{R:List (List α)}{i:Nat}{f:List α}(h:i<R.length):(R.set i f).getD i []=f:=Zjk (by rw[Um,if_pos rfl,if_pos h])
def Zbo{α:Type}{R:List (List α)}{i j:Nat}{f:List α}(h:i≠j):(R.set i f).getD j []=R.getD j []:=by
 rw[Q2,Q2,Um,if_neg h]
def Zne(f:ZZlk κ)(c:κ.F)(j:Nat):(f.map (c * ·)).getD j 0=c*f.getD j 0:=by
 rw[Q2,Q2,Q3]
 cases f[j]? with
 |none=>show (0:κ.F)=c*0;grind
 |some x=>rfl
end
def Zoe(κ:KX)(f:ZZlk κ)(A:Int):Prop:=match κ with
 | .q=>0<A/\(∀x∈f,((Rat.den x:Nat):Int) ∣ A)/\∀B:Int,(∀x∈f,((Rat.den x:Nat):Int) ∣ B)->A ∣ B
 | .r _ _=>A=1
def DvB(κ:KX)(B:Int)(x:κ.F):Prop:=match κ with
 | .q=>((Rat.den x:Nat):Int) ∣ B
 | .r _ _=>True
inductive ZbF (K:ZZfg) (vs:List V) (H:Hp) (Q:VK) (zE:XK):Prop
 |mk (s r:Addr) (xs:List V) (f:List Rat) (B:Int) (_:vs=[.ref s,.ref r]) (_:H r=some (.lst xs)) (_:AllG (NR .q H) xs f) (_:0<B) (_:Bits 4000 B) (_:(∀x∈f,((Rat.den x:Nat):Int) ∣ B)) (_:∀A:Int,Zoe .q f A->Q (.int A) H):ZbF K vs H Q zE
inductive Zex (vs:List V) (H:Hp) (Q:VK) (zE:XK):Prop
 |mk (s r:Addr) (_:vs=[.ref s,.ref r]) (_:Q (.int 1) H):Zex vs H Q zE
def Znf{b d:Int}(y:0<b)(n:0<d):0<b.fdiv (Int.gcd b d)*d/\b ∣ b.fdiv (Int.gcd b d)*d/\d ∣ b.fdiv (Int.gcd b d)*d/\∀B:Int,b ∣ B->d ∣ B->b.fdiv (Int.gcd b d)*d ∣ B:=by
 have k:(Int.gcd b d:Int)≠0:=by have:=M3.gcd_ne (a:=b) (b:=d) ⋯;omega
 have A:0<(Int.gcd b d:Int):=⋯;obtain ⟨q,f⟩:=U0 b d;obtain ⟨e,i⟩:=Wf b d;have u:b.fdiv (Int.gcd b d)=q:=by
  rw[Int.fdiv_eq_ediv_of_nonneg _ ⋯]
  conv=>lhs;lhs;rw[f]
  exact Int.mul_ediv_cancel_left q k
 have h:0<q:=by
  rcases Int.lt_or_le 0 q with c|c
  ·exact c
  ·have:(Int.gcd b d:Int)*q<=0:=Int.mul_nonpos_of_nonneg_of_nonpos ⋯ c;omega
 rw[u];have o:q*d=b*e:=by
  calc q*d=q*((Int.gcd b d:Int)*e):=by rw[<-i]
   _=(Int.gcd b d:Int)*q*e:=by rw[<-Qx,W1 q]
   _=b*e:=by rw[<-f]
 have g:Int.gcd q e=1:=by
  have l:=Int.gcd_mul_left (Int.gcd b d:Int) q e;rw[<-f,<-i,Qo] at l;have r:0<Int.gcd b d:=⋯;have x:Int.gcd b d*1=Int.gcd b d*Int.gcd q e:=by rw[Nat.mul_one];exact l
  exact (Nat.eq_of_mul_eq_mul_left r x).symm
 refine (Wa h n,(e,o),(q,W1 _ _),?_);rintro B ⟨s,w⟩ ⟨t,j⟩;have m:q*s=e*t:=by
  have:(Int.gcd b d:Int)*(q*s)=(Int.gcd b d:Int)*(e*t):=by
   rw[<-Qx,<-Qx,<-f,<-i,<-w,<-j]
  exact Int.eq_of_mul_eq_mul_left k this
 have v:q ∣ t:=Ziv (b:=e) (s,m.symm) g;obtain ⟨z,p⟩:=v;exact (z,by rw[j,p,<-Qx,W1 d q])
end My
namespace Zp
open My
open PySem L2 PyProof.Rows
inductive PV where
 |non
 |bl (b:Bool)
 |int (i:Int)
 |str (s:Str)
 |lst (l:List PV)
 |tup (l:List PV)
 |kd (κ:KX)
 |kp (κ:KX)
 |fr (l:List PV)
 |la (κ:KX) (A:ZZll κ)
structure Zc where
 f:Addr
 r:Addr
 p:Addr
 s:Addr->Prop
 t:Addr->Array Value->Prop
 la:(κ:KX)->ZZll κ->Hp->Addr->Prop
 las:∀κ A H H' a,Same H H'->la κ A H a->la κ A H' a
def Gd(Z:Zc)(H:Hp):Prop:=(∀a,Z.s a->H a≠none)/\∀a b,Z.t a b->H a=some (.tbl b)
def KdZ(Z:Zc)(κ:KX)(H:Hp)(a:Addr):Prop:=KdX Z.f Z.r κ H a/\Gd Z H
def Gd.same(h:Gd Z H)(S:Same H a):Gd Z a:=(λb m n=>(by
 cases e:H b with
 |none=>exact h.1 b m e
 |some o=>rw[S _ _ e] at n;cases n),λb c m=>S _ _<|h.2 b c m)
def KdZ.same{κ:KX}(h:KdZ Z κ H a)(S:Same H b):KdZ Z κ b a:=(h.1.same S,h.2.same S)
mutual
def Rep(Z:Zc)(H:Hp):PV->V->Prop
 | .non,v=>v = .non
 | .bl b,v=>v = .bl b
 | .int i,v=>v = .int i
 | .str s,v=>v = .str s
 | .lst l,v=>∃a c,v = .ref a/\H a=some (.lst c)/\Reps Z H l c
 | .tup l,v=>∃a c,v = .ref a/\H a=some (.tup c)/\Reps Z H l c
 | .kd κ,v=>∃a,v = .ref a/\KdZ Z κ H a
 | .kp κ,v=>∃a d k,v = .ref a/\H a=some (.ins Z.p d [("under", .ref k)])/\KdZ Z κ H k
 | .fr l,v=>∃a c,v = .ref a/\¬Z.s a/\H a=some (.lst c)/\Reps Z H l c
 | .la κ A,v=>∃a,v = .ref a/\Z.la κ A H a
def Reps(Z:Zc)(H:Hp):List PV->List V->Prop
 | [],us=>us=[]
 |p::l,us=>∃u r,us=u::r/\Rep Z H p u/\Reps Z H l r
end
variable{Z:Zc}
mutual
def Rep.same(S:Same H c):∀(p:PV) (v:V),Rep Z H p v->Rep Z c p v
 | .non,_,h=>by unfold Rep at *;exact h
 | .bl _,_,h=>by unfold Rep at *;exact h
 | .int _,_,h=>by unfold Rep at *;exact h
 | .str _,_,h=>by unfold Rep at *;exact h
 | .lst l,_,h=>by
  unfold Rep at *;obtain ⟨a,b,e,q,r⟩:=h;exact (a,b,e,S _ _ q,Reps.same S l b r)
 | .tup l,_,h=>by
  unfold Rep at *;obtain ⟨a,b,e,q,r⟩:=h;exact (a,b,e,S _ _ q,Reps.same S l b r)
 | .kd κ,_,h=>by
  unfold Rep at *;obtain ⟨a,e,q⟩:=h;exact (a,e,q.same S)
 | .kp κ,_,h=>by
  unfold Rep at *;obtain ⟨a,d,k,e,q,r⟩:=h;exact (a,d,k,e,S _ _ q,r.same S)
 | .fr l,_,h=>by
  unfold Rep at *;obtain ⟨a,b,e,n,q,r⟩:=h;exact (a,b,e,n,S _ _ q,Reps.same S l b r)
 | .la κ A,_,h=>by
  unfold Rep at *;obtain ⟨a,e,q⟩:=h;exact (a,e,Z.las κ A H c a S q)
def Reps.same(S:Same H a):∀(l:List PV) (us:List V),Reps Z H l us->Reps Z a l us
 | [],_,h=>by unfold Reps at *;exact h
 |p::l,_,h=>by
  unfold Reps at *;obtain ⟨u,r,e,q,t⟩:=h;exact (u,r,e,Rep.same S p u q,Reps.same S l r t)
end
def Reps.len:∀ {l:List PV} {us:List V},Reps Z H l us->us.length=l.length
 | [],_,h=>by unfold Reps at h;rw[h];rfl
 |p::l,_,h=>by
  unfold Reps at h;obtain ⟨u,r,e,_,t⟩:=h;rw[e];exact congrArg (· + 1)<|Reps.len t
def Reps.get:∀ {l:List PV} {us:List V} {i:Nat} {p:PV},Reps Z H l us->l[i]?=some p->∃u,us[i]?=some u/\Rep Z H p u
 | [],_,i,p,_,e=>by cases i <;> cases e
 |p::l,_,0,q,h,e=>by
  unfold Reps at h;obtain ⟨u,r,a,b,t⟩:=h
  cases e
  exact (u,by rw[a];rfl,b)
 |p::l,_,i+1,q,h,e=>by
  unfold Reps at h;obtain ⟨u,r,a,b,t⟩:=h;obtain ⟨x,c,y⟩:=Reps.get (i:=i) t e;exact (x,by rw[a];exact c,y)
def Reps.nil:Reps Z H [] []:=by unfold Reps;rfl
def Reps.cons(h:Rep Z H p u)(t:Reps Z H l us):Reps Z H (p::l) (u::us):=by unfold Reps;exact (u,us,rfl,h,t)
def Reps.append:∀ {l m:List PV} {us vs:List V},Reps Z H l us->Reps Z H m vs->Reps Z H (l++m) (us++vs)
 | [],_,_,_,h,k=>by unfold Reps at h;rw[h];exact k
 |p::l,_,_,_,h,k=>by
  unfold Reps at h;obtain ⟨u,r,e,q,t⟩:=h;rw[e];exact .cons q<|t.append k
def Reps.of:∀ {l:List PV} {us:List V},us.length=l.length->(∀(i:Nat) p u,l[i]?=some p->us[i]?=some u->Rep Z H p u)->Reps Z H l us
 | [],[],_,_ => .nil
 |p::l,u::us,e,h => .cons (h 0 p u rfl rfl)<|Reps.of (Nat.succ.inj e) λi q v a b=>h (i+1) q v a b
def Reps.set{l:List PV}{us:List V}(h:Reps Z H l us)(i:Nat){p:PV}{u:V}(r:Rep Z H p u):Reps Z H (l.set i p) (us.set i u):=by
 refine .of (by rw[Wc,Wc];exact h.len) λj q v a b=>?_;rw[Um] at a b;have d:=h.len
 by_cases e:i=j
 ·rw[if_pos e] at a b
  split at a
  ·split at b
   ·cases a;cases b;exact r
   ·cases b
  ·cases a
 ·rw[if_neg e] at a b;obtain ⟨w,c,y⟩:=h.get a;rw[c] at b;cases b;exact y
def Reps.sub{l m:List PV}{us vs:List V}(h:Reps Z H l us)(e:vs.length=m.length)(f:Nat->Nat)(j:∀i,i<m.length->m[i]?=l[f i]?/\vs[i]?=us[f i]?):Reps Z H m vs:=by
 refine .of e λi p u a b=>?_;have g:i<m.length:=(Qp.mp a).1;obtain ⟨c,k⟩:=j i g;obtain ⟨w,d,y⟩:=h.get<|c.symm.trans a;rw[k,d] at b;cases b;exact y
def Reps.take{l:List PV}{us:List V}(h:Reps Z H l us)(n:Nat):Reps Z H (l.take n) (us.take n):=by
 have:=h.len;refine h.sub (by simp only[Qr];omega) id λi a=>?_;rw[Qr] at a;rw[U3,U3,if_pos ⋯,if_pos ⋯];exact (rfl,rfl)
def Reps.drop{l:List PV}{us:List V}(h:Reps Z H l us)(n:Nat):Reps Z H (l.drop n) (us.drop n):=by
 have:=h.len;refine h.sub (by simp only[Wj];omega) (n + ·) λi a=>?_;rw[List.getElem?_drop,List.getElem?_drop];exact (rfl,rfl)
def Reps.reverse{l:List PV}{us:List V}(h:Reps Z H l us):Reps Z H l.reverse us.reverse:=by
 have b:=h.len;refine h.sub (by rw[Wd,Wd];exact b) (λi=>l.length-1-i) λi a=>?_;rw[Wd] at a;rw[U4 a,U4 ⋯,b];exact (rfl,rfl)
def hide(O:ZZla)(H:Hp):Hp:=λa=>if a∈O then none else H a
def Zdb{O:ZZla}{a:Addr}(h:a∈O):hide O H a=none:=if_pos h
def hide_out{O:ZZla}{a:Addr}(h:a∉O):hide O H a=H a:=if_neg h
def Zbp{o:HO}(h:hide O H a=some o):a∉O/\H a=some o:=by
 by_cases e:a∈O
 ·rw[Zdb e] at h;cases h
 ·rw[hide_out e] at h;exact (e,h)
def Zan(S:Same H b):Same (hide O H) (hide O b):=λa o h=>by
 obtain ⟨n,q⟩:=Zbp h;rw[hide_out n];exact S _ _ q
def Zaw:Same (hide O H) H:=λa o h=>(Zbp h).2
def ZeY{O b:ZZla}(h:∀a∈b,a∈O):Same (hide O H) (hide b H):=λa o q=>by
 obtain ⟨n,q⟩:=Zbp q;rw[hide_out λz=>n<|h a z];exact q
def Zng{O:ZZla}{a:Addr}(h:a∈O):hide O (upd H a o)=hide O H:=by
 funext b
 by_cases e:b∈O
 ·rw[Zdb e,Zdb e]
 ·rw[hide_out e,hide_out e,Zaj λz=>e (by rw[z];exact h)]
def Rep.h(h:Rep Z (hide O H) p v)(S:Same H a):Rep Z (hide O a) p v:=h.same<|Zan S
def Reps.h(h:Reps Z (hide O H) p v)(S:Same H a):Reps Z (hide O a) p v:=h.same<|Zan S
def Ls(O:ZZla)(H:Hp):Prop:=∀a∈O,∃b,H a=some (.lst b)
def Ls.same(h:Ls O H)(S:Same H b):Ls O b:=λa m=>let ⟨us,q⟩:=h a m;(us,S _ _ q)
def Ls.new(h:Ls O H)(n:H a=none):a∉O:=λm=>by obtain ⟨b,q⟩:=h a m;rw[n] at q;cases q
inductive Sl where
 |val (p:PV)
 |own (l:List PV)
abbrev PSt:=List<|Option Sl
@[reducible] def sget:PSt->Nat->Option Sl
 | [],_=>none
 |a::_,0=>a
 |_::l,n+1=>sget l n
@[reducible] def sset:PSt->Nat->Option Sl->PSt
 | [],_,_=>[]
 |_::l,0,s=>s::l
 |a::l,n+1,s=>a::sset l n s
@[reducible] def sfg:List Nat->PSt->PSt
 | [],ρ=>ρ
 |i::r,ρ=>sfg r (sset ρ i none)
def ZaJ{t:Sl}(h:sget (sset ρ i s) j=some t):(j=i/\s=some t)\/(j≠i/\sget ρ j=some t):=by
 induction ρ generalizing i j with
 |nil=>cases h
 |cons a ρ c =>
  cases i with
  |zero=>cases j with
   |zero=>exact .inl (rfl,h)
   |succ j=>exact .inr (⋯,h)
  |succ i=>cases j with
   |zero=>exact .inr (⋯,h)
   |succ j=>exact (c h).imp (λ⟨a,b⟩=>(⋯,b)) λ⟨a,b⟩=>(⋯,b)
def ZbX{ρ:PSt}:(sset ρ i s).length=ρ.length:=by
 induction ρ generalizing i with
 |nil=>rfl
 |cons a ρ b=>cases i with
  |zero=>rfl
  |succ i=>exact congrArg (· + 1) b
def ZgN{ρ:PSt}{s:Sl}(h:sget ρ i=some s):i<ρ.length:=by
 induction ρ generalizing i with
 |nil=>cases h
 |cons a ρ b=>cases i with
  |zero=>exact Nat.succ_pos _
  |succ i=>exact Nat.succ_lt_succ<|b h
inductive Slr (Z:Zc) (O:ZZla) (H:Hp):Sl->V->Prop
 |val {p:PV} {v:V} (r:Rep Z (hide O H) p v):Slr Z O H (.val p) v
 |own {l:List PV} {a:Addr} {us:List V} (m:a∈O) (h:H a=some (.lst us)) (r:Reps Z (hide O H) l us):Slr Z O H (.own l) (.ref a)
structure SR (Z:Zc) (H0:Hp) (O0 O:ZZla) (H:Hp) (σ:L2.St) (ρ:PSt):Prop where
 ext:Same H0 H
 sub:∀a∈O0,a∈O
 new:∀a∈O,a∈O0\/H0 a=none
 ls:Ls O H
 len:σ.length=ρ.length
 rel:∀i s,sget ρ i=some s->∃v,σ[i]?=some (some v)/\Slr Z O H s v
 inj:∀i j l m,i≠j->sget ρ i=some (.own l)->sget ρ j=some (.own m)->σ[i]?≠σ[j]?
 out:∀i l a,sget ρ i=some (.own l)->σ[i]?=some (some (.ref a))->a∉O0
section
variable{H0 H H':Hp}{O0 O:ZZla}{σ:L2.St}{ρ:PSt}
def Slr.same(h:Slr Z O H s v)(S:Same H H'):Slr Z O H' s v:=by
 cases h with
 |val r=>exact .val<|r.h S
 |own m h r=>exact .own m (S _ _ h)<|r.h S
def SR.same(h:SR Z H0 O0 O H σ ρ)(S:Same H H'):SR Z H0 O0 O H' σ ρ :=
 (λa o q=>S _ _<|h.ext a o q,h.sub,h.new,h.ls.same S,h.len,λi s e=>let ⟨v,a,b⟩:=h.rel i s e;(v,a,b.same S),h.inj,h.out)
def Zfw{σ:L2.St}{i j:Nat}{v:Option V}(h:i<σ.length):(σ.set i v)[j]?=if j=i then some v else σ[j]?:=by
 rw[Um]
 by_cases e:i=j
 ·rw[if_pos e,if_pos e.symm,if_pos h]
 ·rw[if_neg e,if_neg<|Ne.symm e]
def ZbI{σ:L2.St}{i j:Nat}{v:Option V}(h:j≠i):(σ.set i v)[j]?=σ[j]?:=by
 rw[Um,if_neg<|Ne.symm h]
def SR.set(h:SR Z H0 O0 O H σ ρ){i:Nat}{p:PV}{v:V}(r:Rep Z (hide O H) p v):SR Z H0 O0 O H (σ.set i<|some v) (sset ρ i<|some<|.val p):=by
 refine (h.ext,h.sub,h.new,h.ls,by rw[Wc,ZbX];exact h.len,λj s e=>?_,λj k l m n d g=>?_,λj l a e c=>?_)
 ·have f:j<ρ.length:=by have:=ZgN e;rw[ZbX] at this;exact this
  rcases ZaJ e with ⟨rfl,z⟩|⟨n,z⟩
  ·cases z
   exact (v,by rw[Zfw (by rw[h.len];exact f),if_pos rfl],.val r)
  ·obtain ⟨w,a,b⟩:=h.rel j s z;exact (w,by rw[ZbI n];exact a,b)
 ·rcases ZaJ d with ⟨_,z⟩|⟨n1,z1⟩
  ·cases z
  ·rcases ZaJ g with ⟨_,z⟩|⟨n2,z2⟩
   ·cases z
   ·rw[ZbI n1,ZbI n2];exact h.inj j k l m n z1 z2
 ·rcases ZaJ e with ⟨_,z⟩|⟨n1,z1⟩
  ·cases z
  ·rw[ZbI n1] at c;exact h.out j l a z1 c
def SR.fg1(h:SR Z H0 O0 O H σ ρ)(i:Nat):SR Z H0 O0 O H σ (sset ρ i none):=by
 refine (h.ext,h.sub,h.new,h.ls,by rw[ZbX];exact h.len,λj s e=>?_,λj k l m n b d=>?_,λj l a e c=>?_)
 ·rcases ZaJ e with ⟨_,z⟩|⟨n,z⟩
  ·cases z
  ·exact h.rel j s z
 ·rcases ZaJ b with ⟨_,z⟩|⟨n1,z1⟩
  ·cases z
  ·rcases ZaJ d with ⟨_,z⟩|⟨n2,z2⟩
   ·cases z
   ·exact h.inj j k l m n z1 z2
 ·rcases ZaJ e with ⟨_,z⟩|⟨n1,z1⟩
  ·cases z
  ·exact h.out j l a z1 c
def SR.fg:∀(a:List Nat) {ρ:PSt},SR Z H0 O0 O H σ ρ->SR Z H0 O0 O H σ (sfg a ρ)
 | [],_,h=>h
 |i::a,_,h=>SR.fg a<|h.fg1 i
def SR.own(h:SR Z H0 O0 O H σ ρ)(S:Same H H'){i:Nat}{l:List PV}{a:Addr}{us:List V}(n:H a=none)(q:H' a=some (.lst us))(r:Reps Z (hide (a::O) H') l us) :
    SR Z H0 O0 (a::O) H' (σ.set i<|some<|.ref a) (sset ρ i<|some<|.own l)/\Same (hide O H) (hide (a::O) H'):=by
  have y:a∉O:=h.ls.new n;have A:H0 a=none:=by
    cases e:H0 a with
    | none=>rfl
    | some o=>rw[h.ext _ _ e] at n; cases n
  have Sh:Same (hide O H) (hide (a::O) H'):=λb o e=>by
    obtain ⟨m,e⟩:=Zbp e;rw[hide_out]
    · exact S _ _ e
    · rintro (_ | z)
      · rw[n] at e; cases e
      · exact m (by assumption)
  have p:∀(j:Nat) (s:Sl) (v:V),σ[j]?=some (some v)->Slr Z O H s v->Slr Z (a::O) H' s v:=λj s v _ k=>by
    cases k with
    | val r=>exact .val<|r.same Sh
    | own m h r=>exact .own (W7 _ m) (S _ _ h)<|r.same Sh
  refine ((λb o e=>S _ _<|h.ext b o e,λb m=>W7 _<|h.sub b m,?_,?_,by rw[Wc,ZbX]; exact h.len,λj s e=>?_,λj k u B g c t=>?_,λj u b e f=>?_),Sh)
  · rintro b (_ | m)
    · exact .inr A
    · exact h.new b (by assumption)
  · rintro b (_ | m)
    · exact (us,q)
    · exact (h.ls.same S) b (by assumption)
  · have d:j<ρ.length:=by have:=ZgN e; rw[ZbX] at this; exact this
    rcases ZaJ e with ⟨rfl,z⟩ | ⟨g,z⟩
    · cases z
      exact (_,by rw[Zfw (by rw[h.len]; exact d),if_pos rfl],.own W6 q r)
    · obtain ⟨w,c,b⟩:=h.rel j s z
      exact (w,by rw[ZbI g]; exact c,p j s w c b)
  · have x:∀j l,sget ρ j=some (.own l)->σ[j]?≠some (some<|.ref a):=λj l e z=>by
      obtain ⟨v,c,b⟩:=h.rel j _ e;rw[z] at c; cases c
      cases b with | own m _ _=>exact y m
    have d:∀ {j s},sget (sset ρ i<|some<|.own l) j=some s->j<σ.length:=λe=>by have:=ZgN e; rw[ZbX] at this; rw[h.len]; exact this
    rcases ZaJ c with ⟨rfl,z⟩ | ⟨n1,z1⟩
    · rcases ZaJ t with ⟨rfl,_⟩ | ⟨n2,z2⟩
      · exact absurd rfl g
      · rw[Zfw<|d c,if_pos rfl,ZbI n2]; exact λz=>x k _ z2 z.symm
    · rcases ZaJ t with ⟨rfl,z⟩ | ⟨n2,z2⟩
      · rw[ZbI n1,Zfw<|d t,if_pos rfl]; exact x j _ z1
      · rw[ZbI n1,ZbI n2]; exact h.inj j k _ _ g z1 z2
  · rcases ZaJ e with ⟨rfl,z⟩ | ⟨n1,z1⟩
    · have d:j<σ.length:=by have:=ZgN e; rw[ZbX] at this; rw[h.len]; exact this
      rw[Zfw d,if_pos rfl] at f
      cases f
      exact λm=>y<|h.sub _ m
    · rw[ZbI n1] at f; exact h.out j u b z1 f
def SR.wr(h:SR Z H0 O0 O H σ ρ){i:Nat}{l v:List PV}{a:Addr}{us c:List V}(e:sget ρ i=some (.own l))(n:σ[i]?=some (some<|.ref a))(q:H a=some (.lst us))(m:a∈O)(r:Reps Z (hide O H) v c) :
    SR Z H0 O0 O (upd H a<|.lst c) σ (sset ρ i<|some<|.own v)/\Same (hide O H) (hide O<|upd H a<|.lst c):=by
  have g:hide O (upd H a<|.lst c)=hide O H:=Zng m;have B:H0 a=none:=by
    rcases h.new a m with z | z
    · exact absurd z (h.out i l a e n)
    · exact z
  refine ((λb o k=>?_,h.sub,h.new,λb p=>?_,by rw[ZbX]; exact h.len,λj s k=>?_,λj k t D d f x=>?_,λj t b k u=>?_),by rw[g]; exact λ_ _ z=>z)
  · rw[Zaj λz=>by rw[z,B] at k; cases k]; exact h.ext b o k
  · by_cases z:b=a
    · rw[z,Zai]; exact (c,rfl)
    · rw[Zaj z]; exact h.ls b p
  · rcases ZaJ k with ⟨rfl,z⟩ | ⟨d,z⟩
    · cases z
      exact (_,n,.own m Zai (by rw[g]; exact r))
    · obtain ⟨w,f,b⟩:=h.rel j s z
      refine (w,f,?_)
      cases b with
      | val r=>exact .val (by rw[g]; exact r)
      | own p A C =>
        refine .own p ?_ (by rw[g]; exact C);rw[Zaj λy=>h.inj j i _ _ d z e (by rw[f,n,y])]; exact A
  · rcases ZaJ f with ⟨rfl,z⟩ | ⟨n1,z1⟩
    · rcases ZaJ x with ⟨rfl,_⟩ | ⟨n2,z2⟩
      · exact absurd rfl d
      · exact h.inj j k _ _ d e z2
    · rcases ZaJ x with ⟨rfl,z⟩ | ⟨n2,z2⟩
      · exact h.inj j k _ _ d z1 e
      · exact h.inj j k _ _ d z1 z2
  · rcases ZaJ k with ⟨rfl,z⟩ | ⟨n1,z1⟩
    · exact h.out j l b e u
    · exact h.out j t b z1 u
def SR.free(h:SR Z H0 O0 O H σ ρ){i:Nat}{l:List PV}(e:sget ρ i=some (.own l)):∃n,SR Z H0 O0 n H σ (sset ρ i<|some<|.val<|.lst l)/\Same (hide O H) (hide n H):=by
 obtain ⟨v,f,B⟩:=h.rel i _ e
 cases B with| @own _ a us m q r=>?_
 have Sh:Same (hide O H) (hide (O.filter (· ≠ a)) H):=ZeY λb c=>(Ug.mp c).1;have A:a∉O.filter (· ≠ a):=λz=>by simpa using (Ug.mp z).2
 have o:∀b,b∈O->b≠a->b∈O.filter (· ≠ a):=λb c y=>Ug.mpr (c,by simpa using y);refine (O.filter (· ≠ a),(h.ext,λb c=>o b (h.sub b c) λz=>h.out i l a e f<|z ▸ c,λb c=>h.new b (Ug.mp c).1,λb c=>h.ls b (Ug.mp c).1,by rw[ZbX];exact h.len,λj s k=>?_,λj k p E g d C=>?_,λj p b k x=>?_),Sh)
 ·rcases ZaJ k with ⟨rfl,z⟩|⟨g,z⟩
  ·cases z
   refine (_,f,.val ?_);unfold Rep;exact (a,us,rfl,by rw[hide_out A];exact q,r.same Sh)
  ·obtain ⟨w,d,b⟩:=h.rel j s z;refine (w,d,?_)
   cases b with
   |val r=>exact .val<|r.same Sh
   |own c u D=>exact .own (o _ c λt=>h.inj j i _ _ g z e (by rw[d,f,t])) u<|D.same Sh
 ·rcases ZaJ d with ⟨_,z⟩|⟨n1,z1⟩
  ·cases z
  ·rcases ZaJ C with ⟨_,z⟩|⟨n2,z2⟩
   ·cases z
   ·exact h.inj j k _ _ g z1 z2
 ·rcases ZaJ k with ⟨_,z⟩|⟨n1,z1⟩
  ·cases z
  ·exact h.out j p b z1 x
end
abbrev PK':=PV->Prop
abbrev ZE:=PSt->PK'->Prop
abbrev ZA:=PSt->(List PV->Prop)->Prop
abbrev ZT:=PSt->(Bool->Prop)->Prop
abbrev Up(Z:Zc)(O:ZZla)(H:Hp)(Q:VK):PK':=λp=>∀v a,Same H a->Rep Z (hide O a) p v->Q v a
def liE(Z:Zc)(d:Hp)(c:ZZla)(t:ZE):TE:=λb H Q=>∃O a,SR Z d c O H b a/\t a (Up Z O H Q)
def liA(Z:Zc)(f:Hp)(e:ZZla)(t:ZA):TA:=λd H Q=>∃O c,SR Z f e O H d c/\t c λg=>∀b a,Same H a->Reps Z (hide O a) g b->Q b a
def liT(Z:Zc)(f:Hp)(e:ZZla)(t:ZT):TT:=λd H Q=>∃O c,SR Z f e O H d c/\t c λb=>∀a,Same H a->Q b a
def liL(Z:Zc)(g:Hp)(f:ZZla)(t:ZA):TE:=λe H Q=>∃O d,SR Z g f O H e d/\t d λl=>∀a c b,Same H b->H a=none->b a=some (.lst c)->Reps Z (hide (a::O) b) l c->Q (.ref a) b
abbrev Mo{α:Type}(t:PSt->(α->Prop)->Prop):Prop:=∀a (A B:α->Prop),(∀p,A p->B p)->t a A->t a B
structure QE (Z:Zc) (X:Cx) (e:Expr) (t:ZE):Prop where
 mo:Mo t
 ok:∀H0 O0,PE X e (liE Z H0 O0 t)
structure QL (Z:Zc) (X:Cx) (e:Expr) (t:ZA):Prop where
 mo:Mo t
 ok:∀H0 O0,PE X e (liL Z H0 O0 t)
structure QA (Z:Zc) (X:Cx) (es:List Expr) (t:ZA):Prop where
 mo:Mo t
 ok:∀H0 O0,PA X es (liA Z H0 O0 t)
structure QT (Z:Zc) (X:Cx) (e:Expr) (t:ZT):Prop where
 mo:Mo t
 ok:∀H0 O0,PT X e (liT Z H0 O0 t)
structure QW (Z:Zc) (X:Cx) (e:Expr) (t:ZT):Prop where
 mo:Mo t
 ok:∀H0 O0,PW X e (liT Z H0 O0 t)
def QW.t{Z:Zc}{X:Cx}{e:Expr}{t:ZT}(h:QW Z X e t):QT Z X e t:=(h.mo,λa b=>(h.ok a b).pt)
def Zbi{t t':TE}(h:PE X e t)(m:∀a H Q,t' a H Q->t a H Q):PE X e t':=λb s a H Q I q=>h b s a H Q I<|m a H Q q
def Zq5{t t':TA}(h:PA X e t)(m:∀a H Q,t' a H Q->t a H Q):PA X e t':=λc b s a H Q I q=>h c b s a H Q I<|m a H Q q
def Zpy{t t':TT}(h:PT X e t)(m:∀a H Q,t' a H Q->t a H Q):PT X e t':=λb s a H Q I q=>h b s a H Q I<|m a H Q q
def Zq6{t t':TT}(h:PW X e t)(m:∀a H Q,t' a H Q->t a H Q):PW X e t':=λc b s a H Q I q=>h c b s a H Q I<|m a H Q q
variable{X:Cx}
section
variable{i j:Nat}{x:Str}{pos p2 p3:Pos}{a b e:Expr}{es:List Expr}{ta tb te:ZE}{t:ZA}
abbrev ZsL(t:ZA):ZE:=λc Q=>t c λl=>Q<|.lst l
def QL.toE(h:QL Z X e t):QE Z X e (ZsL t):=(λc A B f q=>h.mo c _ _ (λ_=>f _) q,λp o=>Zbi (h.ok p o) λv H Q ⟨O,c,s,q⟩=>(O,c,s,h.mo c _ _ (λl k a d u S n g r=>k _ u S (by
 unfold Rep;exact (a,d,rfl,by rw[hide_out<|s.ls.new n];exact g,r.same<|ZeY λb m=>W7 _ m))) q))
abbrev zV(i:Nat):ZE:=λc Q=>match sget c i with
 |some (.val p)=>Q p
 |_=>False
def qv(i:Nat)(d:X.N[i]?=some x:=by rfl)(h:Vis X.env.scope x:=by first|exact .inl rfl|exact .inr (.inl rfl)|exact .inr (.inr rfl))(g:(x==("__debug__":Str))=false:=by decide) (c:(x==("__classdict__":Str))=false:=by decide):QE Z X (.Name x pos) (zV i) :=
 (λk A B f q=>by
  unfold zV at *
  split at q
  ·exact f _ q
  ·exact q.elim,λo n=>Zbi (Zcm d h g c) λm H Q ⟨O,k,s,q⟩=>by
  unfold zV at q
  split at q
  ·next p e =>
   obtain ⟨v,l,r⟩:=s.rel i _ e
   cases r with|val r=>exact (v,l,q v H (λ_ _ z=>z) r)
  ·exact q.elim)
abbrev zC(p:PV):ZE:=λ_ Q=>Q p
def qc(h:PE X e (tC v))(r:∀H,Rep Z H p v):QE Z X e (zC p):=(λ_ _ _ f q=>f _ q,λg d=>Zbi h λc H Q ⟨O,k,s,q⟩=>q v H (λ_ _ z=>z)<|r _)
def Zas{i j}:QE Z X (.Constant (.int i) j pos) (zC<|.int i):=qc Zac λ_=>by unfold Rep;rfl
def Zsf{b j}:QE Z X (.Constant (.bool b) j pos) (zC<|.bl b):=qc ZdV λ_=>by unfold Rep;rfl
abbrev R2':=PV->PV->PK'->Prop
def LR(Z:Zc)(r:R2)(z:R2'):Prop:=(∀p q (A B:PK'),(∀r,A r->B r)->z p q A->z p q B)/\∀O H p q x y Q,Ls O H->Rep Z (hide O H) p x->Rep Z (hide O H) q y->z p q (Up Z O H Q)->r x y H Q
abbrev zOp(z:R2')(ta tb:ZE):ZE:=λc Q=>ta c λp=>tb c λq=>z p q Q
def two(l:LR Z r z)(D:Mo ta)(C:Mo tb){f:Hp}{d:ZZla}{g:L2.St}{H:Hp}{Q:VK}(h:liE Z f d (zOp z ta tb) g H Q):tOp r (liE Z f d ta) (liE Z f d tb) g H Q:=by
 obtain ⟨O,c,s,q⟩:=h;refine (O,c,s,D c _ _ (λp k v G m u=>(O,c,s.same m,C c _ _ (λy A B E S2 w=>?_) k)) q);have S:=λa o z=>S2 a o<|m a o z;exact l.2 O E p y v B Q (s.ls.same S) (u.h S2) w<|l.1 _ _ _ _ (λp k v F n=>k v F λa o z=>n a o<|S a o z) A
def mo2{z:R2'}(l:∀p q (A B:PK'),(∀r,A r->B r)->z p q A->z p q B)(h:Mo ta)(g:Mo tb):Mo (zOp z ta tb):=λc _ _ f q=>h c _ _ (λ_ k=>g c _ _ (λ_ d=>l _ _ _ _ f d) k) q
def ZeQ(m:OpR X (binaryOp k) r)(l:LR Z r z)(d:QE Z X a ta)(c:QE Z X b tb):QE Z X (.BinOp a k b pos) (zOp z ta tb) :=
 (mo2 l.1 d.mo c.mo,λg f=>Zbi (Zap m (d.ok g f)<|c.ok g f) λ_ _ _ h=>two l d.mo c.mo h)
abbrev zI(C:Int->Int->Prop)(g:Int->Int->PV):R2':=λp q Q=>match p,q with
 | .int i,.int j=>C i j/\Q (g i j)
 |_,_=>False
abbrev zI0(g:Int->Int->PV):R2':=λp q Q=>match p,q with
 | .int i,.int j=>Q<|g i j
 |_,_=>False
def Zax{i:Int}(h:Rep Z H (.int i) v):v = .int i:=by unfold Rep at h;exact h
def rep_bl{i:Bool}(h:Rep Z H (.bl i) v):v = .bl i:=by unfold Rep at h;exact h
def rep_i{i:Int}:Rep Z H (.int i) (.int i):=by unfold Rep;rfl
def ZfQ{i:Bool}:Rep Z H (.bl i) (.bl i):=by unfold Rep;rfl
def Zq7{g:Int->Int->V}{g':Int->Int->PV}(h:∀i j H,Rep Z H (g' i j)<|g i j):LR Z (rI0 g) (zI0 g') :=
 (λp q A B f h=>by
  unfold zI0 at *;split at h
  ·exact f _ h
  ·exact h.elim,λO H p q x y Q _ c d k=>by
  unfold zI0 at k;split at k
  ·exact (_,_,Zax c,Zax d,k _ H (λ_ _ z=>z)<|h _ _ _)
  ·exact k.elim)
def li{f:Int->Int->Int}:LR Z (rI0 λi j => .int<|f i j) (zI0 λi j => .int<|f i j):=Zq7 λ_ _ _=>rep_i
def lb{f:Int->Int->Bool}:LR Z (rI0 λi j => .bl<|f i j) (zI0 λi j => .bl<|f i j):=Zq7 λ_ _ _=>ZfQ
abbrev zN(ta:ZE):ZE:=λc Q=>ta c λp=>match p with
 | .int i=>Q<|.int<|-i
 |_=>False
abbrev Zkw:ZA:=λ_ Q=>Q []
abbrev ZbR(ta:ZE)(t:ZA):ZA:=λc Q=>ta c λp=>t c λl=>Q (p::l)
def Zdc:QA Z X [] Zkw:=(λ_ _ _ f q=>f _ q,λg d=>Zq5 Zaf λc H Q ⟨O,h,s,q⟩=>q [] H (λ_ _ z=>z) .nil)
def Zb7(g:QE Z X e te)(hr:QA Z X es t)(w:starEach (e::es) X.env=(false,eval e X.env)::starEach es X.env:=by rfl):QA Z X (e::es) (ZbR te t) :=
 (λc _ _ f q=>g.mo c _ _ (λ_ k=>hr.mo c _ _ (λ_ d=>f _ d) k) q,λn m=>Zq5 (Zaa (g.ok n m) (hr.ok n m) w) λA H Q ⟨O,c,s,q⟩ =>
  (O,c,s,g.mo c _ _ (λp k v C h r=>(O,c,s.same h,hr.mo c _ _ (λl d B y S2 u=>d _ y (λa o z=>S2 a o<|h a o z)<|.cons (r.h S2) u) k)) q))
section
variable{b c d:Expr}{tb tc td:ZE}
def qa1(g:QE Z X a ta)(f:starEach [a] X.env=(false,eval a X.env)::starEach [] X.env:=by rfl):QA Z X [a] (ZbR ta Zkw):=Zb7 g Zdc f
def qa2(k:QE Z X a ta)(h:QE Z X b tb)(f:starEach [a,b] X.env=(false,eval a X.env)::starEach [b] X.env:=by rfl)(g:starEach [b] X.env=(false,eval b X.env)::starEach [] X.env:=by rfl):QA Z X [a,b] (ZbR ta<|ZbR tb Zkw):=Zb7 k (qa1 h g) f
def qa3(h:QE Z X a ta)(g:QE Z X b tb)(f:QE Z X c tc)(m:starEach [a,b,c] X.env=(false,eval a X.env)::starEach [b,c] X.env:=by rfl)(l:starEach [b,c] X.env=(false,eval b X.env)::starEach [c] X.env:=by rfl)(k:starEach [c] X.env=(false,eval c X.env)::starEach [] X.env:=by rfl):QA Z X [a,b,c] (ZbR ta<|ZbR tb<|ZbR tc Zkw):=Zb7 h (qa2 g f l k) m
def qa4(m:QE Z X a ta)(g:QE Z X b tb)(l:QE Z X c tc)(f:QE Z X d td)(k:starEach [a,b,c,d] X.env=(false,eval a X.env)::starEach [b,c,d] X.env:=by rfl)(o:starEach [b,c,d] X.env=(false,eval b X.env)::starEach [c,d] X.env:=by rfl)(n:starEach [c,d] X.env=(false,eval c X.env)::starEach [d] X.env:=by rfl)(h:starEach [d] X.env=(false,eval d X.env)::starEach [] X.env:=by rfl):QA Z X [a,b,c,d] (ZbR ta<|ZbR tb<|ZbR tc<|ZbR td Zkw):=Zb7 m (qa3 g l f o n h) k
end
def LC(Z:Zc)(r:List V->Hp->VK->Prop)(z:List PV->PK'->Prop):Prop:=(∀p (A B:PK'),(∀r,A r->B r)->z p A->z p B)/\∀O H p x Q,Ls O H->Reps Z (hide O H) p x->z p (Up Z O H Q)->r x H Q
abbrev ZfR(z:List PV->PK'->Prop)(t:ZA):ZE:=λc Q=>t c λl=>z l Q
def one(l:LC Z r z)(m:Mo t){g:Hp}{f:ZZla}{d:L2.St}{H:Hp}{Q:VK}(h:liE Z g f (ZfR z t) d H Q):liA Z g f t d H λvs c=>r vs c Q:=by
 obtain ⟨O,u,s,q⟩:=h;exact (O,u,s,m u _ _ (λB k vs c n y=>l.2 O c B vs Q (s.ls.same n) y<|l.1 _ _ _ (λp k v A w=>k v A λa o z=>w a o<|n a o z) k) q)
def Ziy{m:String}{p:Pos}(l:LC Z r z)(n:ZeP X (.builtin m) r)(s:Gl X x)(o:X.mg x=none)(v:bootBuiltins x=some (.builtin m))(g:QA Z X (e::es) t)(A:x ≠ "__name__" := by decide) (c:(x==("__debug__" : Str))=false:=by decide)
    (u:starEach (e::es) X.env=(false,eval e X.env)::starEach es X.env:=by rfl) (d:(backTo pos<|starEach es X.env).any (·.1)=false:=by rfl):QE Z X (.Call (.Name x p) (e::es) [] pos) (ZfR z t) :=
  (λB _ _ f q=>g.mo B _ _ (λ_ k=>l.1 _ _ _ f k) q,λy w=>Zbi (Zao n s o v (g.ok y w) A c u d) λ_ _ _ h=>one l g.mo h)
end
def ZaT:Same H H:=λ_ _ z=>z
def ZaH(a:Same H d)(b:Same d c):Same H c:=λ_ _ z=>b _ _<|a _ _ z
def Za0{l:List PV}(h:Rep Z H (.lst l) v):∃a us,v = .ref a/\H a=some (.lst us)/\Reps Z H l us:=by unfold Rep at h;exact h
def Zfx{l:List PV}(h:Rep Z H (.tup l) v):∃a us,v = .ref a/\H a=some (.tup us)/\Reps Z H l us:=by unfold Rep at h;exact h
def Zpz{H:Hp}{us:List V}(h:H a=some (.tup us))(r:Reps Z H l us):Rep Z H (.tup l) (.ref a):=by unfold Rep;exact (a,us,rfl,h,r)
def Reps.at{p:PV}(h:Reps Z H l us)(e:atI l i=some p):∃u,atI us i=some u/\Rep Z H p u:=by
 unfold atI at *;rw[h.len]
 cases k:ixN l.length i with
 |none=>rw[k] at e;cases e
 |some j=>rw[k] at e;exact h.get e
def Znh{H:Hp}(n:H a=none):Same (hide O H) (hide (a::O)<|upd H a o):=λb u e=>by
 obtain ⟨m,e⟩:=Zbp e;have c:b≠a:=λz=>by rw[z,n] at e;cases e
 rw[hide_out,Zaj c]
 ·exact e
 ·rintro (_|z)
  ·exact c rfl
  ·exact m (by assumption)
section
variable{i j:Nat}{x:Str}{pos p2 p3:Pos}{a b e:Expr}{es:List Expr}{ta tb te:ZE}{t:ZA}
inductive At (l:List PV) (i:Int) (Q:PK'):Prop
 |mk (v:PV) (h:atI l i=some v) (q:Q v):At l i Q
def At.mo{i:Int}{A B:PK'}(f:∀p,A p->B p)(h:At l i A):At l i B:=let ⟨v,e,q⟩:=h;(v,e,f _ q)
abbrev zIx:R2':=λp q Q=>match p,q with
 | .lst l,.int i=>At l i Q
 | .tup l,.int i=>At l i Q
 |_,_=>False
def Zbs(m:QE Z X a ta)(o:QE Z X b tb)(N:Zib b:=by exact λ_ _=>rfl):QE Z X (.Subscript a b pos) (zOp zIx ta tb):=by
 have l:LR Z (λx y H Q=>Zsc X.K x y H Q\/Zsd X.K x y H Q) zIx:=(λp q A B f h=>by
  unfold zIx at *;split at h
  ·exact h.mo f
  ·exact h.mo f
  ·exact h.elim,λO H p q x y Q _ C F k=>by
  unfold zIx at k;split at k
  ·obtain ⟨a,d,e,h,r⟩:=Za0 C;obtain ⟨v,w,k⟩:=k;obtain ⟨u,g,n⟩:=r.at w;exact .inl (a,d,_,u,e,Zax F,.of<|Zaw _ _ h,g,k u H ZaT n)
  ·obtain ⟨a,d,e,h,r⟩:=Zfx C;obtain ⟨v,w,k⟩:=k;obtain ⟨u,g,n⟩:=r.at w;exact .inr (a,d,_,u,e,Zax F,.of<|Zaw _ _ h,g,k u H ZaT n)
  ·exact k.elim)
 have M:IxR X (λx y H Q=>Zsc X.K x y H Q\/Zsd X.K x y H Q):=λv s c G z H x y L u Q I E D h=>h.elim (λh=>Zct v s c G z H x y L u Q I E D h) λh=>Zau v s c G z H x y L u Q I E D h;exact (mo2 l.1 m.mo o.mo,λK J=>Zbi (ZaD M (m.ok K J) (o.ok K J) N) λ_ _ _ h=>two l m.mo o.mo h)
def SR.ow(s:SR Z f d O H c ρ){l:List PV}(e:sget ρ i=some (.own l)):∃a us,c[i]?=some (some<|.ref a)/\a∈O/\H a=some (.lst us)/\Reps Z (hide O H) l us:=by
 obtain ⟨v,g,r⟩:=s.rel i _ e
 cases r with|own m h r=>exact (_,_,g,m,h,r)
abbrev zO(i:Nat)(f:List PV->Prop)(ρ:PSt):Prop:=match sget ρ i with
 |some (.own l)=>f l
 |_=>False
def Ziz{f g:List PV->Prop}(h:∀l,f l->g l)(k:zO i f ρ):zO i g ρ:=by
 unfold zO at *
 split at k
 ·exact h _ k
 ·exact k.elim
def Zfy(k:zO i f ρ):∃l,sget ρ i=some (.own l)/\f l:=by
 unfold zO at k
 split at k
 ·exact (_,by assumption,k)
 ·exact k.elim
abbrev Zf7(p:PV)(f:Int->Prop):Prop:=match p with
 | .int i=>f i
 |_=>False
def Zbx{f g:Int->Prop}(h:∀l,f l->g l)(k:Zf7 p f):Zf7 p g:=by
 unfold Zf7 at *
 split at k
 ·exact h _ k
 ·exact k.elim
def Zbe(k:Zf7 p f):∃i,p = .int i/\f i:=by
 unfold Zf7 at k
 split at k
 ·exact (_,rfl,k)
 ·exact k.elim
abbrev Zue(i:Nat)(tb:ZE):ZE:=λc Q=>zO i (λl=>tb c λq=>Zf7 q λk=>At l k Q) c
def ZfS(i:Nat)(g:QE Z X b tb)(y:X.N[i]?=some x:=by rfl)(M:Vis X.env.scope x:=by first|exact .inl rfl|exact .inr (.inl rfl)|exact .inr (.inr rfl))(G:Zib b:=by exact λ_ _=>rfl)(L:(x==("__debug__":Str))=false:=by decide) (o:(x==("__classdict__":Str))=false:=by decide):QE Z X (.Subscript (.Name x p2) b pos) (Zue i tb) :=
 (λc A B f q=>Ziz (λl k=>g.mo c _ _ (λp k=>Zbx (λ_ k=>k.mo f) k) k) q,λP N=>Zbi (ZaD Zct (Zcm y M L o) (g.ok P N) G) λR H Q ⟨O,c,s,q⟩=>by
  obtain ⟨l,F,q⟩:=Zfy q;obtain ⟨a,z,D,m,h,r⟩:=s.ow F;refine (_,D,O,c,s,g.mo c _ _ (λp k v J d E=>?_) q);obtain ⟨n,rfl,w,I,k⟩:=Zbe k;obtain ⟨u,C,K⟩:=r.at I;exact (a,z,n,u,rfl,Zax E,.of<|d _ _ h,C,k u J d<|K.h d))
abbrev zSq(p:PV)(f:List PV->Prop):Prop:=match p with
 | .lst l=>f l
 | .tup l=>f l
 |_=>False
def Zof{f g:List PV->Prop}(h:∀l,f l->g l)(k:zSq p f):zSq p g:=by
 unfold zSq at *
 split at k
 ·exact h _ k
 ·exact h _ k
 ·exact k.elim
def Zlw{K:ZZfg}(r:Rep Z (hide O H) p v)(k:zSq p f):∃l a us,v = .ref a/\(SqL K H a us\/SqT K H a us)/\(∃o,H a=some o)/\Reps Z (hide O H) l us/\f l:=by
 unfold zSq at k
 split at k
 ·obtain ⟨a,us,e,h,r⟩:=Za0 r;exact (_,a,us,e,.inl<|.of<|Zaw _ _ h,(_,Zaw _ _ h),r,k)
 ·obtain ⟨a,us,e,h,r⟩:=Zfx r;exact (_,a,us,e,.inr<|.of<|Zaw _ _ h,(_,Zaw _ _ h),r,k)
 ·exact k.elim
abbrev Zqo(l:List PV)(f:PV->Prop):Prop:=match l with
 | [p]=>f p
 |_=>False
def ZpA{f g:PV->Prop}{l:List PV}(h:∀l,f l->g l)(k:Zqo l f):Zqo l g:=by
 unfold Zqo at *
 split at k
 ·exact h _ k
 ·exact k.elim
def Zni(k:Zqo l f):∃p,l=[p]/\f p:=by
 unfold Zqo at k
 split at k
 ·exact (_,rfl,k)
 ·exact k.elim
def Reps.one{p:PV}(h:Reps Z H [p] us):∃u,us=[u]/\Rep Z H p u:=by
 unfold Reps at h;obtain ⟨u,r,e,q,t⟩:=h;unfold Reps at t;exact (u,by rw[e,t],q)
abbrev ZsM:List PV->PK'->Prop:=λl Q=>Zqo l λp=>zSq p λl=>Q<|.int l.length
def ZsN:LC Z (λxs H Q=>∃p ys,xs=[.ref p]/\(SqL X.K H p ys\/SqT X.K H p ys)/\Q (.int ys.length) H) ZsM :=
 (λp A B f h=>ZpA (λ_ h=>Zof (λ_=>f _) h) h,λO H p x Q _ r k=>by
  obtain ⟨p,rfl,o⟩:=Zni k;obtain ⟨u,rfl,n⟩:=r.one;obtain ⟨l,a,d,rfl,m,_,g,c⟩:=Zlw (K:=X.K) n o;exact (a,d,rfl,m,by rw[g.len];exact c _ H ZaT rep_i))
def ZaP{p:Pos}(g:X.mg "len"=none) (f:QE Z X e te) (d:Gl X "len":= by rfl) (c:starEach [e] X.env=[(false,eval e X.env)]:=by rfl):QE Z X (.Call (.Name "len" p) [e] [] pos) (ZfR ZsM<|ZbR te Zkw) :=
 Ziy ZsN Za2 d g boot_len (Zb7 f Zdc c) ∅ ∅ c rfl
abbrev ZsO(i:Nat):ZE:=λc Q=>zO i (λl=>Q<|.int l.length) c
def Zf8{p:Pos}(i:Nat)(u:X.mg "len"=none) (v:Gl X "len":= by rfl) (d:X.N[i]?=some x:=by rfl) (w:Vis X.env.scope x:=by first|exact .inl rfl|exact .inr (.inl rfl)|exact .inr (.inr rfl)) (g:(x==("__debug__":Str))=false:=by decide) (c:(x==("__classdict__":Str))=false:=by decide):QE Z X (.Call (.Name "len" p) [.Name x p2] [] pos) (ZsO i) :=
 (λy A B f q=>Ziz (λl=>f _) q,λD C=>Zbi (Zao Za2 v u boot_len<|Zaa (Zcm d w g c) Zaf) λz H Q ⟨O,y,s,q⟩=>by
  obtain ⟨l,o,q⟩:=Zfy q;obtain ⟨a,k,n,m,h,r⟩:=s.ow o;exact (_,n,a,k,rfl,.inl<|.of h,by rw[r.len];exact q _ H ZaT rep_i))
def nw{O:ZZla}{Q:VK}(S:Same H c)(k:∀a us c,Same H c->H a=none->c a=some (.lst us)->Reps Z (hide (a::O) c) l us->Q (.ref a) c)(r:Reps Z (hide O c) l us):∀p,c p=none->Q (.ref p) (upd c p<|.lst us):=λp n =>
 k p us _ (ZaH S<|Zar n _) (S.free n) Zai (r.same<|Znh n)
abbrev ZsP(te:ZE):ZA:=λc Q=>te c λp=>zSq p Q
def Zjn{p:Pos}(u:X.mg "list"=none) (d:QE Z X e te) (w:Gl X "list":= by rfl) (g:starEach [e] X.env=[(false,eval e X.env)]:=by rfl):QL Z X (.Call (.Name "list" p) [e] [] pos) (ZsP te) :=
 (λc A B f q=>d.mo c _ _ (λp k=>Zof f k) q,λz y=>Zbi (Ze7 Zhy w u boot_list (Zaa (d.ok z y) Zaf g) ∅ ∅ g rfl) λC H Q ⟨O,c,s,q⟩ =>
  (O,c,s,d.mo c _ _ (λp k v D h r=>by
   obtain ⟨l,a,m,rfl,o,_,n,k⟩:=Zlw (K:=X.K) r k;exact (a,m,rfl,o,nw h k n)) q))
abbrev Zuf(t:ZA):ZE:=λc Q=>t c λl=>l.length<=1000/\Q (.tup l)
def Zlx{x1}(h:QA Z X es t):QE Z X (.Tuple es x1 pos) (Zuf t) :=
 (λc _ _ f q=>h.mo c _ _ (λl k=>(k.1,f _ k.2)) q,λo m=>Zbi (Zb0<|h.ok o m) λr H Q ⟨O,c,s,q⟩=>(O,c,s,h.mo c _ _ (λl k u v g d=>(by
  rw[d.len];exact Wl<|Zba k.1,λp n=>k.2 _ _ (ZaH g<|Zar n _)<|Zpz (by rw[hide_out<|(s.ls.same g).new n];exact Zai)<|d.h<|Zar n _)) q))
abbrev Zug(t:ZA):ZA:=λc Q=>t c λl=>l.length<=1000/\Q l
def Zdw(h:QA Z X es t):QL Z X (.List es pos) (Zug t) :=
 (λc _ _ f q=>h.mo c _ _ (λl k=>(k.1,f _ k.2)) q,λm g=>Zbi (ZeF<|h.ok m g) λo H Q ⟨O,c,s,q⟩=>(O,c,s,h.mo c _ _ (λl k p r n d=>(by
  rw[d.len];exact Wl<|Zba k.1,nw n k.2 d)) q))
abbrev ZO:=PSt->(Option Int->Prop)->Prop
def liO(Z:Zc)(h:Hp)(g:ZZla)(t:ZO):TO:=λf H Q=>∃O d,SR Z h g O H f d/\t d λb=>∀c,Same H c->Q b c
structure QO (Z:Zc) (X:Cx) (e:Option Expr) (t:ZO):Prop where
 mo:Mo t
 ok:∀H0 O0,PO X e (liO Z H0 O0 t)
def Zq8{X:Cx}{e:Option Expr}{t t':TO}(h:PO X e t)(m:∀c H Q,t' c H Q->t c H Q):PO X e t':=λd s c H Q I q=>h d s c H Q I<|m c H Q q
abbrev zNo:ZO:=λ_ Q=>Q none
abbrev zSo(te:ZE):ZO:=λc Q=>te c λp=>Zf7 p λi=>Q<|some i
def Znj:QO Z X none zNo:=(λ_ _ _ f q=>f _ q,λg d=>Zq8 Zgj λc H Q ⟨O,h,s,q⟩=>q H ZaT)
def Zly(h:QE Z X e te):QO Z X (some e) (zSo te):=(λc _ _ f q=>h.mo c _ _ (λp k=>Zbx (λ_=>f _) k) q,λl g=>Zq8 (Zgk<|h.ok l g) λo H Q ⟨O,c,s,q⟩=>(O,c,s,h.mo c _ _ (λp k v m n d=>by
 obtain ⟨i,rfl,k⟩:=Zbe k;exact (i,Zax d,k m n)) q))
def ZgO(xs:List PV)(lo c:Option Int):List PV:=(xs.drop<|HT.sIx xs.length 0 lo).take<|HT.sIx xs.length xs.length c-HT.sIx xs.length 0 lo
def Reps.cut(h:Reps Z H l us)(lo c:Option Int):Reps Z H (ZgO l lo c) (Zh9 us lo c):=by
 unfold ZgO Zh9;rw[h.len];exact (h.drop _).take _
abbrev zL(p:PV)(f:List PV->Prop):Prop:=match p with
 | .lst l=>f l
 |_=>False
def ZgP{f g:List PV->Prop}(h:∀l,f l->g l)(k:zL p f):zL p g:=by
 unfold zL at *
 split at k
 ·exact h _ k
 ·exact k.elim
def Zd7(k:zL p f):∃l,p = .lst l/\f l:=by
 unfold zL at k
 split at k
 ·exact (_,rfl,k)
 ·exact k.elim
abbrev zSl(te:ZE)(f d:ZO):ZA:=λc Q=>te c λp=>zL p λl=>f c λh=>d c λg=>Q<|ZgO l h g
variable{lo hi:Option Expr}{tl th:ZO}
def Znk(d:QE Z X e te)(g:QO Z X lo tl)(m:QO Z X hi th):QL Z X (.Subscript e (.Slice lo hi none p2) pos) (zSl te tl th) :=
 (λc _ _ f q=>d.mo c _ _ (λp k=>ZgP (λl k=>g.mo c _ _ (λ_ k=>m.mo c _ _ (λ_ k=>f _ k) k) k) k) q,λu n=>Zbi (ZdX Ze8 (d.ok u n) (g.ok u n)<|m.ok u n) λA H Q ⟨O,c,s,q⟩ =>
  (O,c,s,d.mo c _ _ (λp k v D w z=>by
   obtain ⟨l,rfl,k⟩:=Zd7 k;obtain ⟨a,y,rfl,h,r⟩:=Za0 z;exact (O,c,s.same w,g.mo c _ _ (λlo k C S2=>(O,c,s.same<|ZaH w S2,m.mo c _ _ (λhi k B o=>(a,y,rfl,.of<|o _ _<|S2 _ _<|Zaw _ _ h,nw (ZaH w<|ZaH S2 o) k<|(r.cut lo hi).h<|ZaH S2 o)) k)) k)) q))
abbrev Zuh(i:Nat)(tl th:ZO):ZA:=λc Q=>zO i (λl=>tl c λlo=>th c λhi=>Q<|ZgO l lo hi) c
def ZsQ(i:Nat)(d:QO Z X lo tl)(g:QO Z X hi th)(v:X.N[i]?=some x:=by rfl)(B:Vis X.env.scope x:=by first|exact .inl rfl|exact .inr (.inl rfl)|exact .inr (.inr rfl))(w:(x==("__debug__":Str))=false:=by decide) (o:(x==("__classdict__":Str))=false:=by decide):QL Z X (.Subscript (.Name x p3) (.Slice lo hi none p2) pos) (Zuh i tl th) :=
 (λc _ _ f q=>Ziz (λl k=>d.mo c _ _ (λ_ k=>g.mo c _ _ (λ_ k=>f _ k) k) k) q,λu p=>Zbi (ZdX Ze8 (Zcm v B w o) (d.ok u p)<|g.ok u p) λC H Q ⟨O,c,s,q⟩=>by
  obtain ⟨l,A,k⟩:=Zfy q;obtain ⟨a,y,z,m,h,r⟩:=s.ow A;exact (_,z,O,c,s,d.mo c _ _ (λlo k E S2=>(O,c,s.same S2,g.mo c _ _ (λhi k D n=>(a,y,rfl,.of<|n _ _<|S2 _ _ h,nw (ZaH S2 n) k<|(r.cut lo hi).h<|ZaH S2 n)) k)) k))
abbrev Zui(ta tb:ZE):ZA:=λc Q=>ta c λp=>tb c λq=>zL p λl=>zL q λm=>l.length+m.length<=1000/\Q (l++m)
def Zq9(n:QE Z X a ta)(o:QE Z X b tb):QL Z X (.BinOp a .Add b pos) (Zui ta tb) :=
 (λg _ _ f q=>n.mo g _ _ (λp k=>o.mo g _ _ (λ_ k=>ZgP (λ_ k=>ZgP (λ_ k=>(k.1,f _ k.2)) k) k) k) q,λy w=>Zbi (Zap ZqL (n.ok y w)<|o.ok y w) λJ H Q ⟨O,g,s,q⟩ =>
  (O,g,s,n.mo g _ _ (λp k v K u C=>(O,g,s.same u,o.mo g _ _ (λL k M N S2 D=>by
   obtain ⟨l,rfl,F⟩:=Zd7 k;obtain ⟨m,rfl,E,A⟩:=Zd7 F;obtain ⟨c,B,rfl,h,r⟩:=Za0 C;obtain ⟨d,I,rfl,G,z⟩:=Za0 D;exact (c,d,B,I,rfl,rfl,S2 _ _<|Zaw _ _ h,Zaw _ _ G,by rw[r.len,z.len];exact Wl<|Zba E,nw (ZaH u S2) A<|(r.h S2).append z)) k)) q))
abbrev Br(b:Bool)(A B:Prop):Prop:=match b with
 |true=>A
 |false=>B
def Br.mo{b:Bool}{A B c d:Prop}(f:A->c)(g:B->d)(h:Br b A B):Br b c d:=by
 cases b with
 |true=>exact f h
 |false=>exact g h
def br[Decidable p]{A B:Prop}(f:p->A)(g:¬p->B):Br (decide p) A B:=by
 by_cases h:p
 ·rw[decide_eq_true h];exact f h
 ·rw[decide_eq_false h];exact g h
def brn[Decidable p]{A B:Prop}(f:¬p->A)(g:p->B):Br (!decide p) A B:=by
 by_cases h:p
 ·rw[decide_eq_true h];exact g h
 ·rw[decide_eq_false h];exact f h
def brT{b:Bool}{A B:Prop}(h:b=true)(k:A):Br b A B:=by rw[h];exact k
def brF{b:Bool}{A B:Prop}(h:b=false)(k:B):Br b A B:=by rw[h];exact k
abbrev zTs(te:ZE):ZT:=λc Q=>te c λp=>match p with
 | .bl b=>Q b
 |_=>False
def ZiA{Q:Bool->Prop}{p:PV}(k:match p with| .bl b=>Q b|_=>False):∃b,p = .bl b/\Q b:=by
 split at k
 ·exact (_,rfl,k)
 ·exact k.elim
def Zog(m:Mo te):Mo (zTs te):=λc A B f q=>m c _ _ (λp k=>by
 obtain ⟨b,rfl,k⟩:=ZiA k;exact f _ k) q
def Znl(m:OpR X (compareOp d) r)(l:LR Z r z)(f:QE Z X a ta)(c:QE Z X b tb)(n:behindInMarks d b=false:=by exact ZaC _):QE Z X (.Compare a [d] [b] pos) (zOp z ta tb) :=
 (mo2 l.1 f.mo c.mo,λk g=>Zbi (Zcr m (f.ok k g) (c.ok k g) n) λ_ _ _ h=>two l f.mo c.mo h)
def ZfK(w:OpR X (compareOp f) r)(l:LR Z r z)(d:QE Z X a ta)(c:QE Z X b tb)(u:behindInMarks f b=false:=by exact ZaC _):QT Z X (.Compare a [f] [b] pos) (zTs<|zOp z ta tb) :=
 (Zog<|mo2 l.1 d.mo c.mo,λh g=>Zpy (Zay w (d.ok h g) (c.ok h g) u) λA H Q ⟨O,m,s,q⟩=>two l d.mo c.mo (O,m,s,mo2 l.1 d.mo c.mo m _ _ (λp k v y n o=>by
  obtain ⟨b,rfl,k⟩:=ZiA k;exact (b,rep_bl o,k y n)) q))
def ZpB(h:QE Z X e te)(g:∀c,isTrue e X.env c=(do let v ← c;standAt e.pos;holding [v] (truthy v)):=by intro _;rfl):QT Z X e (zTs te) :=
 (Zog h.mo,λm l=>Zpy (ZaQ (h.ok m l) g) λr H Q ⟨O,d,s,q⟩=>(O,d,s,h.mo d _ _ (λp k v n o f=>by
  obtain ⟨b,rfl,k⟩:=ZiA k;exact (b,rep_bl f,k n o)) q))
def ZsR(i j:Int):decide (V.int i=V.int j)=decide (i=j):=decide_eq_decide.mpr (λh=>V.int.inj h,λh=>by rw[h])
def Zra(n:Bool):LR Z (λx y H Q=>Zsx x y=true/\Q (.bl<|n ^^ decide (x=y)) H) (zI0 λi j => .bl<|n ^^ decide (i=j)) :=
 (λp q A B f h=>by
  unfold zI0 at *;split at h
  ·exact f _ h
  ·exact h.elim,λO H p q x y Q _ c d k=>by
  unfold zI0 at k;split at k
  ·rw[Zax c,Zax d];refine (rfl,k _ H ZaT ?_);rw[ZsR];exact ZfQ
  ·exact k.elim)
def leq:LR Z rEq (zI0 λi j => .bl<|decide<|i=j):=by
 have:=Zra (Z:=Z) false
 simp only[Bool.false_xor] at this;exact this
def lne:LR Z rNe (zI0 λi j => .bl<|!decide (i=j)):=by
 have:=Zra (Z:=Z) true
 simp only[Bool.true_xor] at this;exact this
variable{tA tB':ZT}{rest:List Expr}
abbrev Zuj(t:ZT):ZT:=λc Q=>t c λb=>Q<|!b
def Zkf(h:QT Z X a tA):QT Z X (.UnaryOp .Not a pos) (Zuj tA):=(λg _ _ f q=>h.mo g _ _ (λ_=>f _) q,λd c=>Zpy (ZcP<|h.ok d c) λk H Q q=>q)
abbrev Zuk(t u:ZT):ZT:=λc Q=>t c λb=>Br b (u c Q)<|Q false
abbrev zOr(t u:ZT):ZT:=λc Q=>t c λb=>Br b (Q true)<|u c Q
def Zoh(h:QT Z X a tA):QW Z X (.BoolOp .And [a] pos) tA:=(h.mo,λd c=>Zkz<|h.ok d c)
def ZpC(h:QT Z X a tA):QW Z X (.BoolOp .Or [a] pos) tA:=(h.mo,λd c=>ZcO<|h.ok d c)
def Zrb(l:QT Z X a tA)(h:QW Z X (.BoolOp .And (b::rest) pos) tB'):QW Z X (.BoolOp .And (a::b::rest) pos) (Zuk tA tB') :=
 (λd A B f q=>l.mo d _ _ (λ_ k=>k.mo (h.mo d _ _ f)<|f _) q,λn m=>Zq6 (Zn0 (l.ok n m)<|h.ok n m) λr H Q ⟨O,d,s,q⟩=>(O,d,s,l.mo d _ _ (λc k o g=>by
  cases c with
  |true=>rw[if_pos rfl];exact (O,d,s.same g,h.mo d _ _ (λb k p S2=>k p<|ZaH g S2) k)
  |false=>rw[if_neg ∅];exact k o g) q))
def Zqp(l:QT Z X a tA)(h:QW Z X (.BoolOp .Or (b::rest) pos) tB'):QW Z X (.BoolOp .Or (a::b::rest) pos) (zOr tA tB') :=
 (λd A B f q=>l.mo d _ _ (λ_ k=>k.mo (f _)<|h.mo d _ _ f) q,λn m=>Zq6 (ZcW (l.ok n m)<|h.ok n m) λr H Q ⟨O,d,s,q⟩=>(O,d,s,l.mo d _ _ (λc k o g=>by
  cases c with
  |true=>rw[if_pos rfl];exact k o g
  |false=>rw[if_neg ∅];exact (O,d,s.same g,h.mo d _ _ (λb k p S2=>k p<|ZaH g S2) k)) q))
abbrev zIf(t:ZT)(ta tb:ZE):ZE:=λc Q=>t c λb=>Br b (ta c Q)<|tb c Q
def ZsS(l:QT Z X c tA)(o:QE Z X a ta)(h:QE Z X b tb):QE Z X (.IfExp c a b pos) (zIf tA ta tb) :=
 (λd A B f q=>l.mo d _ _ (λ_ k=>k.mo (o.mo d _ _ f)<|h.mo d _ _ f) q,λn m=>Zbi (ZmN (l.ok n m) (o.ok n m)<|h.ok n m) λr H Q ⟨O,d,s,q⟩=>(O,d,s,l.mo d _ _ (λc k u g=>by
  cases c with
  |true=>rw[if_pos rfl];exact (O,d,s.same g,o.mo d _ _ (λb k v p S2=>k v p<|ZaH g S2) k)
  |false=>rw[if_neg ∅];exact (O,d,s.same g,h.mo d _ _ (λb k v p S2=>k v p<|ZaH g S2) k)) q))
def ZgQ(h:QE Z X a ta):QE Z X (.UnaryOp .USub a pos) (zN ta) :=
 (λc A B f q=>h.mo c _ _ (λp k=>by
  split at k
  ·exact f _ k
  ·exact k.elim) q,λl g=>Zbi (ZjR Zf0<|h.ok l g) λo H Q ⟨O,c,s,q⟩=>(O,c,s,h.mo c _ _ (λp k v m n d=>by
  split at k
  ·exact (_,Zax d,k _ m n rep_i)
  ·exact k.elim) q))
end
abbrev ZF:=List PV->PK'->Prop
abbrev MoF(S:ZF):Prop:=∀a (A B:PK'),(∀p,A p->B p)->S a A->S a B
inductive liF (Z:Zc) (S:ZF) (vs:List V) (H:Hp) (Q:VK) (E:XK):Prop
 |mk (O:ZZla) (ps:List PV) (l:Ls O H) (r:Reps Z (hide O H) ps vs) (s:S ps (Up Z O H Q)):liF Z S vs H Q E
structure Fn (P:Program) (w:World) (K:ZZfg) (mg:ZZmg) (base:Heap) (Z:Zc) (x:Str) (k:Nat) (S:ZF):Prop where
 mo:MoF S
 has:∃ps,HasX P w K mg base x k ps (liF Z S)
def Fn.mono{K:ZZfg}{j k:Nat}(h:Fn P w K mg base Z x j S)(e:j<=k):Fn P w K mg base Z x k S:=(h.mo,let ⟨ps,a⟩:=h.has;(ps,a.mono e))
def Up.tr(c:Same H a)(p:PV)(k:Up Z O H Q p):Up Z O a Q p:=λv d b=>k v d<|ZaH c b
section
variable{i j k:Nat}{x m:Str}{pos p2 p3 apos:Pos}{a b e o:Expr}{es:List Expr}{ta tb te:ZE}{t:ZA}{S:ZF}
def Zal{p:Pos}(h:Fn X.prog X.w X.K X.mg X.base Z x k S)(l:QA Z X (e::es) t)(hr:Room k X.A:=by assumption)(v:Gl X x:=by rfl)(d:(x==("__debug__" : Str))=false:=by decide)
    (w:starEach (e::es) X.env=(false,eval e X.env)::starEach es X.env:=by rfl) (g:(backTo pos<|starEach es X.env).any (·.1)=false:=by rfl):QE Z X (.Call (.Name x p) (e::es) [] pos) (ZfR S t):=by
  obtain ⟨r,y⟩:=h.has;exact (λc _ _ f q=>l.mo c _ _ (λ_ k=>h.mo _ _ _ f k) q,λA z=>Zbi (Zeg y Zla hr v (l.ok A z) d w g) λB H Q ⟨O,c,s,q⟩ =>
    (O,c,s,l.mo c _ _ (λr k C D n u=>(O,r,s.ls.same n,u,h.mo _ _ _ (Up.tr n) k)) q))
abbrev ZK:=PV->Prop->Prop
abbrev zKd:ZK:=λp A=>match p with
 | .kd _=>A
 |_=>False
abbrev zKp:ZK:=λp A=>match p with
 | .kp _=>A
 |_=>False
structure Mt (P:Program) (w:World) (K:ZZfg) (mg:ZZmg) (base:Heap) (Z:Zc) (G:ZK) (m:Str) (k:Nat) (S:ZF):Prop where
 mo:MoF S
 g:∀p A B,(A->B)->G p A->G p B
 go:∀p A,G p A->A
 ok:∀(p:PV) (x:V) (H:Hp) (O:ZZla),Rep Z (hide O H) p x->G p True->∃a C dx fs ps dvs sp,x = .ref a/\H a=some (.ins C dx fs)/\Cls K C/\HasMX P w K mg base C m k ps dvs sp/\fs.lookup m=none ∧
  ∀H1 vs ws Q,Same H H1->Ls O H1->Reps Z (hide O H1) vs ws->S (p::vs) (Up Z O H1 Q)->sp (x::(ws++dvs)) H1 Q E0
def Mt.mono{K:ZZfg}{m:Str}{j k:Nat}{S:ZF}(h:Mt P w K mg base Z G m j S)(e:j<=k):Mt P w K mg base Z G m k S :=
 (h.mo,h.g,h.go,λp x H O r g=>let ⟨a,C,dx,fs,ps,dvs,sp,h1,h2,h3,h4,h5,h6⟩:=h.ok p x H O r g;(a,C,dx,fs,ps,dvs,sp,h1,h2,h3,h4.mono e,h5,h6))
abbrev zM(G:ZK)(S:ZF)(ta:ZE)(t:ZA):ZE:=λc Q=>ta c λo=>G o<|t c λl=>S (o::l) Q
def q_m(h:Mt X.prog X.w X.K X.mg X.base Z G m k S)(w:QE Z X o ta)(r:QA Z X (e::es) t)(hr:Room k X.A:=by assumption)
    (d:starEach (e::es) X.env=(false,eval e X.env)::starEach es X.env:=by rfl) (u:(backTo pos<|starEach es X.env).any (·.1)=false:=by rfl)
    (N:eval (.Call (.Attribute o m apos) (e::es) [] pos) X.env=(do
      let ov ← eval o X.env
      standAt apos.atName
      let (f,first) ← holding [ov] (getMethod ov m pl)
      callWith pos f first (backTo pos<|starEach (e::es) X.env) (backToKw pos<|keywordEach [] X.env)):=by rfl) :
    QE Z X (.Call (.Attribute o m apos) (e::es) [] pos) (zM G S ta t) :=
  (λc _ _ f q=>w.mo c _ _ (λ_ k=>h.g _ _ _ (λk=>r.mo c _ _ (λ_ k=>h.mo _ _ _ f k) k) k) q,λz y=>Zbi (Zgp (w.ok z y) Zla hr (r.ok z y) d u N) λY H Q ⟨O,c,s,q⟩ =>
    (O,c,s,w.mo c _ _ (λp k v I n D=>by
      obtain ⟨a,C,B,A,J,g,U,F,L,W,P,K,M⟩:=h.ok p v I O D<|h.g _ _ _ (λ_=>trivial) k;exact (a,C,B,A,J,g,U,F,L,W,P,K,O,c,s.same n,r.mo c _ _ (λl k R T S2 E=>M T l R Q S2 (s.ls.same<|ZaH n S2) E<|h.mo _ _ _ (Up.tr<|ZaH n S2) k)<|h.go _ _ k)) q))
def ZsT(Z:Zc)(d:ZZla)(f:Hp)(J:It)(l:List PV):Prop:=∀O H,Same (hide d f) (hide O H)->Ls O H->∀i:Nat,(i=l.length->J.stop i H)/\∀p,l[i]?=some p->J.go i H/\∀x c,J.yld i H x c->Same H c/\Rep Z (hide O c) p x
def liI(Z:Zc)(h:Hp)(g:ZZla)(t:ZA):TI:=λf H R=>∃O d,SR Z h g O H f d/\t d λl=>∀J c,Same H c->ZsT Z O c J l->R J c
structure QI (Z:Zc) (X:Cx) (tg it:Expr) (t:ZA):Prop where
 mo:Mo t
 ok:∀H0 O0,PI X tg it (liI Z H0 O0 t)
def Zkg{X:Cx}{f e:Expr}{t t':TI}(h:PI X f e t)(m:∀c H Q,t' c H Q->t c H Q):PI X f e t':=λd s c H Q I q=>h d s c H Q I<|m c H Q q
variable{tg:Expr}
abbrev zIt(te:ZE):ZA:=λc Q=>te c λp=>zL p Q
def ZfT(h:QE Z X e te):QI Z X tg e (zIt te) :=
 (λd _ _ f q=>h.mo d _ _ (λp k=>ZgP f k) q,λG F=>Zkg (ZcX<|h.ok G F) λJ H R ⟨O,d,s,q⟩=>(O,d,s,h.mo d _ _ (λp k v z A y=>by
  obtain ⟨l,rfl,k⟩:=Zd7 k;obtain ⟨a,c,rfl,w,r⟩:=Za0 y;refine (a,rfl,(c,.of<|Zaw _ _ w),k _ z A λK I S2 _ i=>?_);have g:I a=some (.lst c):=Zaw _ _<|S2 _ _ w;refine (λe=>(c,.of g,by rw[e,r.len];exact Q4 _),λp C=>?_);obtain ⟨u,n,D⟩:=r.get C;refine ((c,u,.of g,n),λx L ⟨E,B⟩=>?_);subst E;have:=B c<|.of g;rw[n] at this;cases this;exact (ZaT,D.same S2)) q))
def ZmM(lo:Int)(n:Nat):List PV:=(List.range n).map λi:Nat => .int<|lo+(i:Int)
def Zaz{lo:Int}:(ZmM lo n).length=n:=by unfold ZmM;rw[Q1,Qn]
def ZaO{lo:Int}{n i:Nat}{p:PV}(h:(ZmM lo n)[i]?=some p):i<n/\p = .int (lo+i):=by
 have l:i<n:=by have:=(Qp.mp h).1;rw[Zaz] at this;exact this
 unfold ZmM at h;rw[Q3,Qs l] at h;exact (l,(Option.some.inj h).symm)
def Zoi{lo:Int}:ZsT Z O H (Itr lo n) (ZmM lo n):=λg h _ _ i=>(λe=>by rw[Zaz] at e;exact Wo e.symm,λp d=>by
 obtain ⟨l,rfl⟩:=ZaO d;refine (l,λx q ⟨c,f⟩=>?_);subst c f;exact (ZaT,rep_i))
abbrev zR1(te:ZE):ZA:=λc Q=>te c λp=>Zf7 p λj=>j<2^62 /\ -(2^62)<=j/\Q (ZmM 0 j.toNat)
def Zdx{p:Pos}(n:X.mg "range"=none) (h:QE Z X e te) (r:Gl X "range":= by rfl) (d:starEach [e] X.env=[(false,eval e X.env)]:=by rfl):QI Z X tg (.Call (.Name "range" p) [e] [] pos) (zR1 te) :=
 (λc _ _ f q=>h.mo c _ _ (λp k=>Zbx (λ_ k=>(k.1,k.2.1,f _ k.2.2)) k) q,λy u=>Zkg (Ze2 r n (Zaa (h.ok y u) Zaf d) d) λB H R ⟨O,c,s,q⟩=>(O,c,s,h.mo c _ _ (λp k v z A l=>by
  obtain ⟨j,rfl,w,g,k⟩:=Zbe k;exact (j,by rw[Zax l],g,w,k _ z A Zoi)) q))
abbrev zR2(ta tb:ZE):ZA:=λc Q=>ta c λp=>tb c λq=>Zf7 p λi=>Zf7 q λj=>(-(2^62)<=i/\i<2^62 /\ -(2^62)<=j/\j<2^62)/\Q (ZmM i (j-i).toNat)
def Zrc{p:Pos}(A:X.mg "range"=none) (h:QE Z X a ta) (g:QE Z X b tb) (B:Gl X "range":= by rfl) (n:starEach [a,b] X.env=[(false,eval a X.env),(false,eval b X.env)]:=by rfl) (c:starEach [b] X.env=[(false,eval b X.env)]:=by rfl):QI Z X tg (.Call (.Name "range" p) [a,b] [] pos) (zR2 ta tb) :=
 (λd _ _ f q=>h.mo d _ _ (λp k=>g.mo d _ _ (λ_ k=>Zbx (λ_ k=>Zbx (λ_ k=>(k.1,f _ k.2)) k) k) k) q,λu r=>Zkg (ZkC B A (Zaa (h.ok u r) (Zaa (g.ok u r) Zaf c) (by rw[n,c])) n c) λF H R ⟨O,d,s,q⟩=>(O,d,s,h.mo d _ _ (λp k v J l y=>(O,d,s.same l,g.mo d _ _ (λG k I D S2 z=>by
  obtain ⟨i,rfl,E⟩:=Zbe k;obtain ⟨j,rfl,C,w⟩:=Zbe E;exact (i,j,by rw[Zax y,Zax z],C,w _ D (ZaH l S2) Zoi)) k)) q))
abbrev ZtJ(te:ZE):ZA:=λc Q=>te c λp=>zL p λl=>Q l.reverse
def Zrd{p:Pos}(I:X.mg "reversed"=none) (h:QE Z X e te) (J:Gl X "reversed":= by rfl) (n:starEach [e] X.env=[(false,eval e X.env)]:=by rfl):QI Z X tg (.Call (.Name "reversed" p) [e] [] pos) (ZtJ te) :=
 (λd _ _ f q=>h.mo d _ _ (λp k=>ZgP (λ_=>f _) k) q,λL K=>Zkg (ZqY J I (Zaa (h.ok L K) Zaf n) n) λN H R ⟨O,d,s,q⟩=>(O,d,s,h.mo d _ _ (λp k v C D A=>by
  obtain ⟨l,rfl,k⟩:=Zd7 k;obtain ⟨a,c,rfl,y,r⟩:=Za0 A;refine (a,c,rfl,.of<|Zaw _ _ y,k _ C D λP M S2 _ i=>?_);have z:M a=some (.lst c):=Zaw _ _<|S2 _ _ y;have w:=r.len;refine (λe=>by rw[Wd] at e;rw[w];exact e,λp g=>?_);have li:i<l.length:=by have:=(Qp.mp g).1;rw[Wd] at this;exact this
  rw[U4 li] at g;obtain ⟨u,B,F⟩:=r.get g;refine ((⋯,c,.of z,rfl),λx Q ⟨G,E⟩=>?_);subst G;have:=E c<|.of z;rw[w,B] at this;cases this;exact (ZaT,F.same S2)) q))
end
structure ZD where
 nx:PSt->Prop
 rt:PK'
 bk:PSt->Prop
 ct:PSt->Prop
abbrev ZS:=ZD->PSt->Prop
structure ZD.Le (D D':ZD):Prop where
 nx:∀ρ,D.nx ρ->D'.nx ρ
 rt:∀p,D.rt p->D'.rt p
 bk:∀ρ,D.bk ρ->D'.bk ρ
 ct:∀ρ,D.ct ρ->D'.ct ρ
abbrev MoS(t:ZS):Prop:=∀D b a,ZD.Le D b->t D a->t b a
def dnN(Z:Zc)(e:Hp)(d O:ZZla)(H:Hp)(q:L2.St->Hp->Prop):PSt->Prop:=λf=>∀c a b,SR Z e d c b a f->Same (hide O H) (hide c b)->q a b
def dn(Z:Zc)(b:Hp)(a O:ZZla)(H:Hp)(D:Ends):ZD :=
 (dnN Z b a O H D.nx,λp=>∀v c,Same b c->Rep Z (hide a c) p v->D.rt v c,dnN Z b a O H D.bk,dnN Z b a O H D.ct)
def ZhK(S:Same (hide O H) (hide b e))(ρ:PSt)(h:dnN Z d c O H q ρ):dnN Z d c b e q ρ:=λf a g s S2=>h f a g s<|ZaH S S2
def Znm(S:Same (hide O H) (hide a d)):ZD.Le (dn Z c b O H D) (dn Z c b a d D):=(ZhK S,λ_ h=>h,ZhK S,ZhK S)
def liS(Z:Zc)(b:Hp)(a:ZZla)(t:ZS):TS:=λD d H=>∃O c,SR Z b a O H d c/\t (dn Z b a O H D) c
structure QS (Z:Zc) (X:Cx) (s:Stmt) (t:ZS):Prop where
 mo:MoS t
 ok:∀H0 O0,PS X s (liS Z H0 O0 t)
structure QSs (Z:Zc) (X:Cx) (s:List Stmt) (t:ZS):Prop where
 mo:MoS t
 ok:∀H0 O0,PSs X s (liS Z H0 O0 t)
def QS.m{D a:ZD}(h:QS Z X b u)(q:u D ρ)(l:D.Le a):u a ρ:=h.mo _ _ _ l q
def QSs.m{D a:ZD}(h:QSs Z X b u)(q:u D ρ)(l:D.Le a):u a ρ:=h.mo _ _ _ l q
def ZcU{X:Cx}{t t':TS}(h:PS X e t)(m:∀D a H,t' D a H->t D a H):PS X e t':=λb s a H D I q=>h b s a H D I<|m D a H q
def Zoj{X:Cx}{t t':TS}(h:PSs X e t)(m:∀D a H,t' D a H->t D a H):PSs X e t':=λb s a H D I q=>h b s a H D I<|m D a H q
section
variable{i j k:Nat}{x m:Str}{pos p2 p3 apos:Pos}{a b e o:Expr}{es:List Expr}{ta tb te:ZE}{t:ZA}{tc:ZT}{st:Stmt}{ss s2:List Stmt}{u u2:ZS}
abbrev zNx:ZS:=λD c=>D.nx c
abbrev Zul(u u2:ZS):ZS:=λD c=>u (λc=>u2 D c,D.rt,D.bk,D.ct) c
def Zb8:QSs Z X [] zNx:=(λ_ _ _ l h=>l.nx _ h,λf d=>Zoj Zav λD c H ⟨O,g,s,q⟩=>q O c H s ZaT)
def Zak(h:QS Z X st u):QSs Z X [st] u:=(h.mo,λd c=>Zad<|h.ok d c)
def Zae(h:QS Z X st u)(c:QSs Z X ss u2):QSs Z X (st::ss) (Zul u u2) :=
 (λD B n l q=>h.m q (λ_ k=>c.mo _ _ _ l k,l.rt,l.bk,l.ct),λg f=>Zoj (Zag (h.ok g f)<|c.ok g f) λD y H ⟨O,n,s,q⟩ =>
  (O,n,s,h.m q (λd k p v A w r=>(p,d,w,c.mo _ _ _ (Znm r) k),λ_ z=>z,λ_ z=>z,λ_ z=>z)))
abbrev ZsU(i:Nat)(te:ZE):ZS:=λD c=>te c λp=>D.nx<|sset c i<|some<|.val p
def Zat(i:Nat)(f:X.N.Nodup)(h:QE Z X e te)(n:X.N[i]?=some x:=by rfl)(r:Loc X.env.scope x:=by first|exact .inl rfl|exact .inr rfl)(y:swapsWith e (some<|.Name x p2) pos.line X.env=pure false:=by rfl)(g:X.fn x=true\/X.env.scope.names.lookup x=some .local:=by first|exact .inl rfl|exact .inr rfl|assumption):QS Z X (.Assign [.Name x p2] e pos) (ZsU i te) :=
 (λD E c l q=>h.mo c _ _ (λp k=>l.nx _ k) q,λA z=>ZcU (ZaE f n r (h.ok A z) y g) λD C H ⟨O,c,s,q⟩=>(O,c,s,h.mo c _ _ (λp k v B d w=>k O _ B ((s.same d).set w)<|Zan d) q))
abbrev Znn(i:Nat)(t:ZA):ZS:=λD c=>t c λl=>D.nx<|sset c i<|some<|.own l
def ZcF(i:Nat)(d:X.N.Nodup)(h:QL Z X e t)(v:X.N[i]?=some x:=by rfl)(w:Loc X.env.scope x:=by first|exact .inl rfl|exact .inr rfl)(z:swapsWith e (some<|.Name x p2) pos.line X.env=pure false:=by rfl)(f:X.fn x=true\/X.env.scope.names.lookup x=some .local:=by first|exact .inl rfl|exact .inr rfl|assumption):QS Z X (.Assign [.Name x p2] e pos) (Znn i t) :=
 (λD J c l q=>h.mo c _ _ (λp k=>l.nx _ k) q,λC A=>ZcU (ZaE d v w (h.ok C A) z f) λD G H ⟨O,c,s,q⟩=>(O,c,s,h.mo c _ _ (λl k a I E F n g y=>by
  obtain ⟨B,r⟩:=s.own F (i:=i) n g y;exact k _ _ E B r) q))
abbrev ZsV(i:Nat)(u:ZS):ZS:=λD c=>zO i (λl=>u D<|sset c i<|some<|.val<|.lst l) c
def Zck(i:Nat)(h:QS Z X st u):QS Z X st (ZsV i u) :=
 (λD v p l q=>Ziz (λ_ k=>h.mo _ _ _ l k) q,λn f=>ZcU (h.ok n f) λD r H ⟨O,p,s,q⟩=>by
  obtain ⟨l,e,q⟩:=Zfy q;obtain ⟨d,g,c⟩:=s.free e;exact (d,_,g,h.mo _ _ _ (Znm c) q))
abbrev Zum(te:ZE):ZS:=λD c=>te c D.rt
def ZaA(h:QE Z X e te):QS Z X (.Return (some e) pos) (Zum te) :=
 (λD y c l q=>h.mo c _ _ l.rt q,λg f=>ZcU (Zaq<|h.ok g f) λD w H ⟨O,c,s,q⟩=>(O,c,s,h.mo c _ _ (λp k v n r d=>k v n (ZaH s.ext r)<|d.same<|ZeY s.sub) q))
abbrev Zun(c:ZT)(u u2:ZS):ZS:=λD d=>c d λb=>Br b (u D d)<|u2 D d
def ZdQ(g:QT Z X c tc)(h:QSs Z X ss u)(n:QSs Z X s2 u2):QS Z X (.If c ss s2 pos) (Zun tc u u2) :=
 (λD y d l q=>g.mo d _ _ (λ_ k=>k.mo (h.mo _ _ _ l)<|n.mo _ _ _ l) q,λr p=>ZcU (ZaY (g.ok r p) (h.ok r p)<|n.ok r p) λD v H ⟨O,d,s,q⟩=>(O,d,s,g.mo d _ _ (λc k w f=>by
  cases c with
  |true=>rw[if_pos rfl];exact (O,d,s.same f,h.mo _ _ _ (Znm<|Zan f) k)
  |false=>rw[if_neg ∅];exact (O,d,s.same f,n.mo _ _ _ (Znm<|Zan f) k)) q))
def ZpD:QS Z X st (λ_ _=>False):=(λ_ _ _ _ q=>q,λ_ _ _ _ _ _ _ _ ⟨_,_,_,q⟩=>q.elim)
inductive While (fs:List Nat) (c:ZT) (u:ZS) (D:ZD) (ρ:PSt):Prop
 |mk (W:Nat->PSt->Prop) (m:Nat) (h0:W m (sfg fs ρ)) (hs:∀m ρ,W m ρ->c ρ λb=>Br b (u ⟨λρ2=>∃m',m'<m/\W m' (sfg fs ρ2),D.rt,D.nx,λρ2=>∃m',m'<m/\W m' (sfg fs ρ2)⟩ ρ) (D.nx ρ)):While fs c u D ρ
def Zd8(q:List Nat){c:Expr}(I:QT Z X c tc)(h:QSs Z X ss u)(T:PassesOwn (model X.prog X.w) X.A X.env X.xe:=by exact PassesOwn.leaving):QS Z X (.While c ss [] pos) (While q tc u) :=
 (λD D' y l ⟨W,m,G,A⟩=>(W,m,G,λm y w=>by
  refine I.mo y _ _ (λb k=>?_)<|A m y w
  cases b with
  |true=>exact h.m (show u _ _ from k) (λ_ z=>z,l.rt,l.nx,λ_ z=>z)
  |false=>exact l.nx _ k),λv r=>ZcU (Zcc T (I.ok v r)<|h.ok v r) λD σ H ⟨O,y,s,W,m,G,A⟩=>by
  refine (λm g L=>∃p d,SR Z v r p L g d/\Same (hide O H) (hide p L)/\W m d,(m,O,_,s.fg q,ZaT,G),?_);rintro m g L ⟨p,d,K,U,w⟩;refine (p,d,K,I.mo d _ _ (λb k S E=>?_)<|A m d w);have S2:=ZaH U<|Zan E
  cases b with
  |true =>
   show if true=true then _ else _
   rw[if_pos rfl];refine (λM R=>∃n,n<m/\∃Q f,SR Z v r Q R M f/\Same (hide O H) (hide Q R)/\W n f,λ_ _ z=>z,p,d,K.same E,h.m k (?_,λ_ z=>z,?_,?_))
   ·rintro f ⟨n,P,F⟩ J N Y B C;exact (n,P,J,_,B.fg q,ZaH S2 C,F)
   ·exact ZhK S2
   ·rintro f ⟨n,P,F⟩ J N Y B C;exact (n,P,J,_,B.fg q,ZaH S2 C,F)
  |false =>
   show if false=true then _ else _
   rw[if_neg ∅];exact k p g S (K.same E) S2)
abbrev ZG:=PV->PSt->(PSt->Prop)->Prop
structure QG (Z:Zc) (X:Cx) (tg:Expr) (g:ZG):Prop where
 mo:∀p ρ (A B:PSt->Prop),(∀ρ,A ρ->B ρ)->g p ρ A->g p ρ B
 ok:∃g':TG,PG X tg g'/\∀H0 O0 O H σ ρ p v (Q:L2.St->Hp->Prop),SR Z H0 O0 O H σ ρ->Rep Z (hide O H) p v->g p ρ (λρ'=>∀σ',SR Z H0 O0 O H σ' ρ'->Q σ' H)->g' v σ H Q
abbrev gN(i:Nat):ZG:=λp c k=>k<|sset c i<|some<|.val p
def ZhL(i:Nat)(c:X.N.Nodup)(g:X.N[i]?=some x:=by rfl)(h:Loc X.env.scope x:=by first|exact .inl rfl|exact .inr rfl)(d:X.fn x=true\/X.env.scope.names.lookup x=some .local:=by first|exact .inl rfl|exact .inr rfl|assumption):QG Z X (.Name x pos) (gN i) :=
 (λp l A B f q=>f _ q,Zdv i,ZaL c g h d,λy w O H n l p v Q s r k=>k _<|s.set r)
inductive For (l:List PV) (fs:List Nat) (g:ZG) (u:ZS) (D:ZD) (ρ:PSt):Prop
 |mk (I:Nat->PSt->Prop) (h0:I 0 (sfg fs ρ)) (hs:∀i p ρ',l[i]?=some p->I i ρ'->g p ρ' λρ2=>u ⟨λρ3=>I (i+1) (sfg fs ρ3),D.rt,D.nx,λρ3=>I (i+1) (sfg fs ρ3)⟩ ρ2) (hd:∀ρ',I l.length ρ'->D.nx ρ'):For l fs g u D ρ
abbrev Zuo(d:List Nat)(f:ZA)(g:ZG)(u:ZS):ZS:=λD c=>f c λl=>For l d g u D c
def Zby(M:List Nat){tg it:Expr}{g:ZG}(Y:QI Z X tg it t)(hg:QG Z X tg g)(h:QSs Z X ss u)(hp:PassesOwn (model X.prog X.w) X.A X.env X.xe:=by exact PassesOwn.leaving)(hc:X.calm=true:=by rfl)(E:∀x,foldedSetIterable it X.env x=pure x:=by intro _;rfl):QS Z X (.For tg it ss [] pos) (Zuo M t g u):=by
 obtain ⟨mg,g',pg,a1⟩:=hg;refine (λD D' L l q=>Y.mo L _ _ (λls ⟨I,R,E,S⟩=>(I,R,λi p d e w=>by
  refine mg _ _ _ _ (λf k=>?_)<|E i p d e w;exact h.m k (λ_ z=>z,l.rt,l.nx,λ_ z=>z),λd w=>l.nx _<|S d w)) q,λC F=>ZcU (Zdz hp hc (Y.ok C F) pg (h.ok C F) E) λD σ H ⟨O,L,s,q⟩=>(O,L,s,Y.mo L _ _ (λl ⟨I,R,E,S⟩ J H1 S1 wk=>?_) q))
 refine (λi m n B=>m=l.length-i/\i<=l.length/\∃r d,SR Z C F r B n d/\Same (hide O H1) (hide r B)/\I i d,(_,rfl,Qg _,O,_,(s.same S1).fg M,ZaT,R),?_);rintro i m n B ⟨rfl,a2,r,d,s',G,w⟩;obtain ⟨w1,w2⟩:=wk r B G s'.ls i;have S0:Same (hide O H) (hide r B):=ZaH (Zan S1) G
 by_cases e:i=l.length
 ·refine .inl (w1 e,S d (e ▸ w) r n B s' S0)
 ·have N:i<l.length:=⋯;obtain ⟨go,yl⟩:=w2 l[i]<|Q6 N;refine .inr (go,λv A=>∃K f,SR Z C F K A v f/\Same (hide O H1) (hide K A)/\I (i+1) f,λv A ⟨K,f,a,b,c⟩=>(l.length-(i+1),⋯,rfl,N,K,f,a,b,c),λx A y=>?_);obtain ⟨S2,r2⟩:=yl x A y;refine a1 C F r A n d _ x _ (s'.same S2) r2<|mg _ _ _ _ (λf k v s2=>?_)<|E i _ d (Q6 N) w;refine (r,f,s2,h.m k (?_,λ_ z=>z,?_,?_))
  ·exact λa0 T U W H3 P Q=>(U,_,P.fg M,ZaH G<|ZaH (Zan S2) Q,T)
  ·exact ZhK (ZaH S0<|Zan S2)
  ·exact λa0 T U W H3 P Q=>(U,_,P.fg M,ZaH G<|ZaH (Zan S2) Q,T)
abbrev Zup(i:Nat)(f:Int->Int->Int)(te:ZE):ZS:=λD c=>zV i c λp=>te c λq=>Zf7 p λd=>Zf7 q λj=>D.nx<|sset c i<|some<|.val<|.int<|f d j
def Zre{A B:PK'}(f:∀p,A p->B p)(q:zV i ρ A):zV i ρ B:=by
 unfold zV at *
 split at q
 ·exact f _ q
 ·exact q.elim
def Zok(q:zV i ρ A):∃p,sget ρ i=some (.val p)/\A p:=by
 unfold zV at q
 split at q
 ·exact (_,by assumption,q)
 ·exact q.elim
def Zrf(i:Nat){w:Operator}{f:Int->Int->Int}(J:PIp X w (ipI f))(y:X.N.Nodup)(h:QE Z X e te)(B:X.N[i]?=some x:=by rfl)(C:Loc X.env.scope x:=by first|exact .inl rfl|exact .inr rfl)(z:X.fn x=true\/X.env.scope.names.lookup x=some .local:=by first|exact .inl rfl|exact .inr rfl|assumption):QS Z X (.AugAssign (.Name x p2) w e pos) (Zup i f te) :=
 (λD P g l q=>Zre (λp k=>h.mo g _ _ (λ_ k=>Zbx (λ_ k=>Zbx (λ_ k=>l.nx _ k) k) k) k) q,λL K=>ZcU (Zi6 y B C (h.ok L K) J z) λD N H ⟨O,g,s,q⟩=>by
  obtain ⟨p,I,q⟩:=Zok q;obtain ⟨v,M,r⟩:=s.rel i _ I
  cases r with|val r=>?_
  refine (v,M,O,g,s,h.mo g _ _ (λQ k R G n E=>?_) q);obtain ⟨c,rfl,F⟩:=Zbe k;obtain ⟨d,rfl,A⟩:=Zbe F;exact (c,d,Zax r,Zax E,A O _ G ((s.same n).set rep_i)<|Zan n))
abbrev Zuq(i:Nat)(te:ZE):ZS:=λD c=>zO i (λl=>te c λp=>l.length<1000/\D.nx (sset c i<|some<|.own<|l++[p])) c
def Zfz(i:Nat)(h:QE Z X e te)(F:X.N[i]?=some x:=by rfl)(L:Vis X.env.scope x:=by first | exact .inl rfl | exact .inr (.inl rfl) | exact .inr (.inr rfl))(J:(x==("__debug__" : Str))=false:=by decide) (z:(x==("__classdict__" : Str))=false:=by decide)
    (c:attributeBase (.Name x p3) "append" X.env (eval (.Name x p3) X.env)=eval (.Name x p3) X.env:=by rfl)
    (f:((backTo p2<|starEach [e] X.env).all (λx=>!x.1)&&(backToKw p2<|keywordEach [] X.env).all (λx=>x.1.isSome)&&decide (([e]:List Expr).length+([]:List Keyword).length+(if ([]:List Keyword).isEmpty then 0 else 1)<30))=true:=by rfl)
    (d:(apos.endLine==p2.line)=true:=by rfl) (E:starEach [e] X.env=[(false,eval e X.env)]:=by rfl) (y:swapsWith (.Call (.Attribute (.Name x p3) "append" apos) [e] [] p2) none pos.line X.env=pure false:=by rfl):QS Z X (.Expr (.Call (.Attribute (.Name x p3) "append" apos) [e] [] p2) pos) (Zuq i te) :=
  (λD R w l q=>Ziz (λ_ k=>h.mo w _ _ (λ_ k=>(k.1,l.nx _ k.2)) k) q,λP M=>ZcU (Zbm (Zic PySem.F.plainAttrs_list PySem.F.slot_list_append PySem.F.type_list_append Zcn (Zcm F L J z) (Zaa (h.ok P M) Zaf E) c f d E rfl) y) λD G H ⟨O,w,s,q⟩=>by
    obtain ⟨l,C,q⟩:=Zfy q;obtain ⟨a,A,B,m,g,r⟩:=s.ow C;refine (_,B,.inl (rfl,A,.of g),O,w,s,h.mo w _ _ (λp k v Q n I=>?_) q);obtain ⟨N,K⟩:=(s.same n).wr C B (n _ _ g) m<|(r.h n).append<|.cons I .nil;exact (a,A,v,rfl,rfl,n _ _ g,by rw[r.len]; exact Zba<|Wl k.1,k.2 O G _ N<|ZaH (Zan n) K))
abbrev Zur(i:Nat)(te tb:ZE):ZS:=λD c=>te c λp=>zO i (λl=>tb c λq=>Zf7 q λk=>∃j,ixN l.length k=some j/\D.nx (sset c i<|some<|.own<|l.set j p)) c
def ZhM(i:Nat)(h:QE Z X e te)(f:QE Z X b tb)(C:X.N[i]?=some x:=by rfl)(Q:Vis X.env.scope x:=by first | exact .inl rfl | exact .inr (.inl rfl) | exact .inr (.inr rfl))(N:(x==("__debug__" : Str))=false:=by decide) (w:(x==("__classdict__" : Str))=false:=by decide)
    (M:∀v,assign (.Subscript (.Name x p3) b p2) X.env v=(do
      let ov ← holding [v] (eval (.Name x p3) X.env)
      let iv ← holding [v,ov] (eval b X.env)
      standAt p2
      holding [v,ov,iv] (setItem ov iv v)
      release [v,ov,iv] []):=by intros; rfl)
    (J:swapsWithSole [.Subscript (.Name x p3) b p2] e pos.line X.env=pure false:=by rfl) (hw:swappedStores [.Subscript (.Name x p3) b p2] e X.env=pure none:=by rfl)
    (L:(assignEach [.Subscript (.Name x p3) b p2] X.env).map (·.2)=[assign (.Subscript (.Name x p3) b p2) X.env]:=by rfl):QS Z X (.Assign [.Subscript (.Name x p3) b p2] e pos) (Zur i te tb) :=
  (λD T c l q=>h.mo c _ _ (λ_ k=>Ziz (λ_ k=>f.mo c _ _ (λ_ k=>Zbx (λ_ ⟨j,e,k⟩=>(j,e,l.nx _ k)) k) k) k) q,λB A=>ZcU (Zqz (h.ok B A) (Zqy (Zcm C Q N w) (f.ok B A) ZmT M) J hw L) λD E H ⟨O,c,s,q⟩=>(O,c,s,h.mo c _ _ (λp k v S d G=>by
    obtain ⟨l,z,k⟩:=Zfy k;obtain ⟨a,F,y,m,g,r⟩:=(s.same d).ow z;refine (_,y,O,c,s.same d,f.mo c _ _ (λU k W Y S2 I=>?_) k);obtain ⟨n,rfl,j,K,k⟩:=Zbe k;obtain ⟨R,P⟩:=(s.same<|ZaH d S2).wr z y (S2 _ _ g) m<|(r.h S2).set j<|G.h S2;exact (a,F,n,j,rfl,Zax I,S2 _ _ g,by rw[r.len]; exact K,k O E _ R<|ZaH (Zan<|ZaH d S2) P)) q))
end
@[reducible] def ini:List Str->List PV->PSt
 | [],_=>[]
 |_::N,[]=>none::ini N []
 |_::N,v::vs=>some (.val v)::ini N vs
def ZgR:∀(N:List Str) (vs:List PV),(ini N vs).length=N.length
 | [],_=>rfl
 |_::N,[]=>congrArg (· + 1)<|ZgR N []
 |_::N,_::vs=>congrArg (· + 1)<|ZgR N vs
def Zlz:∀(N:List Str) (i:Nat),sget (ini N []) i=none
 | [],_=>rfl
 |_::_,0=>rfl
 |_::N,i+1=>Zlz N i
def ZdR:∀ {N:List Str} {vs:List PV} {i:Nat} {s:Sl},sget (ini N vs) i=some s->∃p,s = .val p/\vs[i]?=some p
 | [],_,_,_,h=>by cases h
 |_::N,[],i,s,h=>by rw[Zlz] at h;cases h
 |_::N,v::vs,0,s,h=>by cases h;exact (v,rfl,rfl)
 |_::N,v::vs,i+1,s,h=>ZdR (N:=N) (vs:=vs) (i:=i) h
def ZgS{N ps:List Str}{S:ZF}{t:ZS}{vs:List V}(c:∀vs Q,S vs Q->vs.length=ps.length)(f:QSs Z X body t)
    (C:ps.length<=N.length) (s:∀vs Q,S vs Q->t (λ_=>Q .non,Q,λ_=>False,λ_=>False) (ini N vs)) (h:liF Z S vs H Q E):∃t,PSs X body t/\t { nx:=λ_ b=>Q .non b,rt:=Q } (L2.start N vs) H:=by
  obtain ⟨O,pv,l,r,q⟩:=h;have D:=r.len;have F:=c _ _ q;refine (_,f.ok H O,O,ini N pv,(ZaT,λ_ m=>m,λ_ m => .inl m,l,?_,λi B e=>?_,λi j g m n x _=>?_,λi g a e _=>?_),f.m (s pv _ q) (λJ k G y b A I=>k .non b A.ext (by unfold Rep; rfl),λp k v b=>k v b,λ_ z=>z.elim,λ_ z=>z.elim))
  · unfold L2.start; rw[Qi,Q1,W8,ZgR]; omega
  · obtain ⟨p,rfl,o⟩:=ZdR e
    obtain ⟨u,d,w⟩:=r.get o;refine (u,?_,.val w);unfold L2.start;rw[Wr (by rw[Q1]; exact (Qp.mp d).1),Q3,d]; rfl
  · obtain ⟨p,z,_⟩:=ZdR x; cases z
  · obtain ⟨p,z,_⟩:=ZdR e; cases z
def Za9{K:ZZfg}{N ps:List Str}{t:ZS}(n:Here K mg x d)(b:∀f g,Fun K x x d f g->Binds K g ps [])(i:FnScope N ps (Zab d))(j:MoF S)(e:∀vs Q,S vs Q->vs.length=ps.length)
    (body:∀(f:Addr) (c:Value) (A:Around) (a:List Env) (s:Shared) (H:Hp) (E:XK),Room k (A.deeper<|envOfC x (Zab d) s.heap.objs.size f c)->QSs Z (cxX P w K mg base N x (Zab d) f c A a s H E) (ZaW d) t)
    (o:ps.length<=N.length) (m:∀vs Q,S vs Q->t (λ_=>Q .non,Q,λ_=>False,λ_=>False) (ini N vs)):Fn P w K mg base Z x (k+1) S :=
  (j,ps,n.hasX b λf g F=>F.okx i (λvs H Q E h=>by
    obtain ⟨O,pv,l,r,q⟩:=h;rw[r.len]; exact e _ _ q) λc A a s H vs Q E p h=>ZgS e (body f c A a s H E p) o m h)
variable{P:Program}{w:World}{K:ZZfg}{mg:ZZmg}{base:Heap}
@[irreducible] def num:(κ:KX)->κ.F->PV
 | .q,x => .tup [.int x.num,.int x.den]
 | .r _ _,x => .int x.val
abbrev nums(κ:KX)(xs:ZZlk κ):PV:=.lst<|xs.map<|num κ
def nr_rep{κ:KX}{x:κ.F}(l:Ls O H)(h:NR κ H v x):Rep Z (hide O H) (num κ x) v:=by
 unfold num
 cases κ with
 |q =>
  obtain ⟨a,rfl,h⟩:=h;have b:a∉O:=λm=>by obtain ⟨c,q⟩:=l a m;rw[h] at q;cases q
  exact Zpz (by rw[hide_out b];exact h)<|.cons rep_i<|.cons rep_i .nil
 |r p d=>cases h;exact rep_i
def Zdd{κ:KX}{x:κ.F}(h:Rep Z (hide O H) (num κ x) v):NR κ H v x:=by
 unfold num at h
 cases κ with
 |q =>
  obtain ⟨a,d,rfl,h,r⟩:=Zfx h;unfold Reps at r;obtain ⟨u,g,rfl,b,r⟩:=r;obtain ⟨f,rfl,c⟩:=r.one;rw[Zax b,Zax c] at h;exact (a,rfl,Zaw _ _ h)
 |r p e=>exact Zax h
def Zd9{κ:KX}(h:Rep Z (hide O H) (.kd κ) v):∃a,v = .ref a/\KdX Z.f Z.r κ H a:=by
 unfold Rep at h;obtain ⟨a,e,h⟩:=h;exact (a,e,h.1.same Zaw)
def Zol{κ:KX}(h:Rep Z H (.kd κ) v):Gd Z H:=by
 unfold Rep at h;obtain ⟨a,e,h⟩:=h;exact h.2
def Reps.two{p q:PV}(h:Reps Z H [p,q] us):∃u v,us=[u,v]/\Rep Z H p u/\Rep Z H q v:=by
 unfold Reps at h;obtain ⟨u,r,e,b,t⟩:=h;obtain ⟨v,a,c⟩:=t.one;exact (u,v,by rw[e,a],b,c)
inductive S2 (g:(κ:KX)->κ.F->κ.F->κ.F):ZF
 |mk {Q:PK'} {κ:KX} {x y:κ.F} (h1:B1 κ x) (h2:B1 κ y) (q:Q (num κ (g κ x y))):S2 g [.kd κ,num κ x,num κ y] Q
inductive Snz:ZF
 |mk {Q:PK'} {κ:KX} {x:κ.F} (q:∀b:Bool,(b=true↔x=0)->Q (.bl b)):Snz [.kd κ,num κ x] Q
inductive Zkh:ZF
 |mk {Q:PK'} {κ:KX} {x:κ.F} (h:x≠0) (q:Q (num κ (Fd.inv x))):Zkh [.kd κ,num κ x] Q
inductive Snum:ZF
 |mk {Q:PK'} {κ:KX} {t:Int} (x:κ.F) (h:NumV κ t x) (q:Q (num κ x)):Snum [.kd κ,.int t] Q
def Zom(p:PV)(A B:Prop)(f:A->B)(h:zKd p A):zKd p B:=by cases p <;> first|exact f h|exact h
def ZhN(p:PV)(A:Prop)(h:zKd p A):A:=by cases p <;> first|exact h|exact h.elim
def ZhO(h:zKd p A):∃κ,p = .kd κ:=by cases p <;> first|exact (_,rfl)|exact h.elim
def mt_2{g:(b:KX)->b.F->b.F->b.F}(h:Zpv P w K mg base Z.f Z.r m g):Mt P w K mg base Z zKd m 2 (S2 g) :=
 (λj A B f ⟨c,d,q⟩=>(c,d,f _ q),Zom,ZhN,λp x H O r o=>by
  obtain ⟨b,rfl⟩:=ZhO o;obtain ⟨a,rfl,R⟩:=Zd9 r;obtain ⟨C,s,k,j,D,U,J,W,S,z,rfl,M⟩:=h b H a R;refine (a,C,s,k,j,_,U,rfl,J,W,S.toX,z,λF N Y Q G L y i=>?_);generalize e:PV.kd b::N=l at i;obtain ⟨c,d,q⟩:=i
  cases e
  obtain ⟨u,v,rfl,I,E⟩:=y.two;exact M F u v _ _ Q G (Zdd I) (Zdd E) c d λt T S2 n=>q t T S2<|nr_rep (L.same S2) n)
def mt_m(h:Zq4 P w K mg base Z.f Z.r):Mt P w K mg base Z zKd "minus" 3 (S2 λ_ x y=>x-y) :=
 (λi A B f ⟨b,c,q⟩=>(b,c,f _ q),Zom,ZhN,λp x H O r k=>by
  obtain ⟨d,rfl⟩:=ZhO k;obtain ⟨a,rfl,N⟩:=Zd9 r;obtain ⟨C,m,j,i,z,T,I,U,R,s,rfl,L⟩:=h d H a N;refine (a,C,m,j,i,_,T,rfl,I,U,R.toX,s,λE M W Q F J o g=>?_);generalize e:PV.kd d::M=l at g;obtain ⟨b,c,q⟩:=g
  cases e
  obtain ⟨u,v,rfl,G,D⟩:=o.two;exact L E u v _ _ Q F (Zdd G) (Zdd D) b c λt S S2 n=>q t S S2<|nr_rep (J.same S2) n)
def NoughtZ(P:Program)(w:World)(K:ZZfg)(mg:ZZmg)(base:Heap)(g CR:Addr):Prop :=
 ∀(c:KX) (H:Hp) (s:Addr),KdX g CR c H s->∃C h e i a f,H s=some (.ins C h e)/\Cls K C/\HasM P w K mg base C "is_nought" 2 i a f/\e.lookup ("is_nought":Str)=none/\a=[] ∧
  ∀(d:Hp) (u:V) (x:c.F) (Q:VK),NR c d u x->(∀b:Bool,(b=true↔x=0)->Q (.bl b) d)->f [.ref s,u] d Q E0
def mt_nz(h:NoughtZ P w K mg base Z.f Z.r):Mt P w K mg base Z zKd "is_nought" 2 Snz :=
 (λg A B f ⟨q⟩=>⟨λb e=>f _<|q b e⟩,Zom,ZhN,λp x H O r k=>by
  obtain ⟨c,rfl⟩:=ZhO k;obtain ⟨a,rfl,E⟩:=Zd9 r;obtain ⟨C,m,j,g,s,G,v,I,F,o,rfl,z⟩:=h c H a E;refine (a,C,m,j,g,_,G,rfl,v,I,F.toX,o,λd D J Q L M n i=>?_);generalize e:PV.kd c::D=l at i;obtain ⟨q⟩:=i
  cases e
  obtain ⟨u,rfl,t⟩:=n.one;exact z d u _ Q (Zdd t) λb y=>q b y _ d ZaT ZfQ)
def mt_back(h:Zjm P w K mg base Z.f Z.r):Mt P w K mg base Z zKd "back" 4 Zkh :=
 (λg A B f ⟨b,q⟩=>(b,f _ q),Zom,ZhN,λp x H O r j=>by
  obtain ⟨c,rfl⟩:=ZhO j;obtain ⟨a,rfl,I⟩:=Zd9 r;obtain ⟨C,k,i,g,s,M,D,N,J,o,rfl,F⟩:=h c H a I;refine (a,C,k,i,g,_,M,rfl,D,N,J,o,λv G R Q y E m d=>?_);generalize e:PV.kd c::G=l at d;obtain ⟨b,q⟩:=d
  cases e
  obtain ⟨u,rfl,z⟩:=m.one;exact F v u _ Q _ y (Zdd z) b λt L S2 n=>q t L S2<|nr_rep (E.same S2) n)
def mt_num(h:Zlu P w K mg base Z.f Z.r):Mt P w K mg base Z zKd "number" 3 Snum :=
 (λg A B f ⟨x,b,q⟩=>(x,b,f _ q),Zom,ZhN,λp x H O r j=>by
  obtain ⟨c,rfl⟩:=ZhO j;obtain ⟨a,rfl,I⟩:=Zd9 r;obtain ⟨C,k,i,g,s,M,D,N,J,o,rfl,F⟩:=h c H a I;refine (a,C,k,i,g,_,M,rfl,D,N,J,o,λv G R Q y E m d=>?_);generalize e:PV.kd c::G=l at d;obtain ⟨x,b,q⟩:=d
  cases e
  obtain ⟨u,rfl,z⟩:=m.one;rw[Zax z];exact F v _ _ Q _ y b λt L S2 n=>q t L S2<|nr_rep (E.same S2) n)
abbrev ZpE(s:Option Sl):Option Sl:=match s with
 |some (.val p)=>some<|.val p
 |_=>none
@[reducible] def cap:List (Nat×Str)->PSt->PSt
 | [],_=>[]
 |c::r,ρ=>ZpE (sget ρ c.1)::cap r ρ
def ZlA:∀(caps:List (Nat×Str)) (ρ:PSt),(cap caps ρ).length=caps.length
 | [],_=>rfl
 |_::r,ρ=>congrArg (· + 1)<|ZlA r ρ
def ZlB:∀ {caps:List (Nat×Str)} {ρ:PSt} {i:Nat} {s:Sl},sget (cap caps ρ) i=some s->∃p c,s = .val p/\caps[i]?=some c/\sget ρ c.1=some (.val p)
 | [],_,_,_,h=>by cases h
 |c::r,ρ,0,s,h=>by
  have h:ZpE (sget ρ c.1)=some s:=h;unfold ZpE at h
  split at h
  ·cases h;exact (_,c,rfl,rfl,by assumption)
  ·cases h
 |c::r,ρ,i+1,s,h=>ZlB (caps:=r) (i:=i) h
def SR.cap{t H d:Hp}(h:SR Z t o O H g ρ)(S:Same H d)(caps:List (Nat×Str)):∀ {vs:List V} {ps:List PV},Reps Z (hide O d) ps vs →
    SR Z t o O d (vs.map some++caps.map λp=>(g[p.1]?).join) (ps.map (λp=>some<|.val p)++Zp.cap caps ρ):=fun {vs ps} r=>by
  have y:=r.len;have b:∀(ps:List PV) (vs:List V),Reps Z (hide O d) ps vs->∀i s,sget (ps.map (λp=>some<|.val p)++Zp.cap caps ρ) i=some s->∃p v,s = .val p/\(vs.map some++caps.map λp=>(g[p.1]?).join)[i]?=some (some v)/\Rep Z (hide O d) p v:=by
    intro ps
    induction ps with
    | nil =>
      intro vs r i s e;have:vs=[]:=by unfold Reps at r; exact r
      subst this;obtain ⟨p,c,rfl,C,E⟩:=ZlB (ρ:=ρ) (i:=i) e;obtain ⟨v,k,f⟩:=h.rel _ _ E
      cases f with | val f=>exact (p,v,rfl,by show (List.map _ caps)[i]?=_; rw[Q3,C]; show some ((g[c.1]?).join)=_; rw[k]; rfl,f.h S)
    | cons q ps F =>
      intro vs r i s e;unfold Reps at r;obtain ⟨u,x,rfl,A,B⟩:=r
      cases i with
      | zero=>cases e; exact (q,u,rfl,rfl,A)
      | succ i=>exact F x B i s e
  refine (ZaH h.ext S,h.sub,h.new,h.ls.same S,?_,λi s e=>?_,λi j l m n D _=>?_,λi l a e _=>?_)
  · rw[Qi,Qi,Q1,Q1,Q1,ZlA,y]
  · obtain ⟨p,v,rfl,k,f⟩:=b ps vs r i s e; exact (v,k,.val f)
  · obtain ⟨p,v,z,_⟩:=b ps vs r i _ D; cases z
  · obtain ⟨p,v,z,_⟩:=b ps vs r i _ e; cases z
inductive Comp (l:List PV) (f:PV->PK'->Prop) (Q:List PV->Prop):Prop
 |mk (r:List PV) (h:r.length=l.length) (hz:l.length<=1000) (hs:∀(i:Nat) p,l[i]?=some p->f p λv=>r[i]?=some v) (q:Q r):Comp l f Q
section
variable{x y:Str}{pos p2 p3 apos:Pos}{a b e elt it tg:Expr}{es:List Expr}{ta tb te:ZE}{t ti:ZA}{scope:Scope}{caps:List (Nat×Str)}
def Comp.mo{f g:PV->PK'->Prop}{A B:List PV->Prop}(h:∀p (C:PK'),f p C->g p C)(k:∀r,A r->B r)(c:Comp l f A):Comp l g B:=let ⟨r,h1,h2,h3,h4⟩:=c;(r,h1,h2,λi p e=>h _ _<|h3 i p e,k _ h4)
def ZlC{g:TG}{Q:VK}(s:SR Z F E O H u ρ)(I:Same H j)(L:ZsT Z O j J l)(me:Mo te){f:PV->PK'->Prop}
    (c:Comp l f λr=>∀a us h,Same H h->H a=none->h a=some (.lst us)->Reps Z (hide (a::O) h) r us->Q (.ref a) h)
    (hg:∀p v d C N,Same j d->Rep Z (hide O d) p v->f p C->(∀q,C q->Up Z O d N q)->g v (st0 n caps u) d λo H3=>(∀(i:Nat) v,(st0 n caps u)[i]?=some (some v)->o[i]?=some (some v))/\liE Z F E te o H3 N) :
    Zfa n caps g (liE Z F E te) u J j λys d=>∀D,d D=none->Q (.ref D) (upd d D<|.lst ys):=by
  obtain ⟨r,lr,S,Y,q⟩:=c;refine (λi m ys h=>m=l.length-i/\i<=l.length/\Same j h/\Reps Z (hide O h) (r.take i) ys,(_,rfl,Qg _,ZaT,.nil),?_);rintro i m ys h ⟨rfl,hi,k,z⟩;have ly:ys.length=i:=by rw[z.len,Qr]; omega
  have l1:=Zba S;obtain ⟨T,w2⟩:=L O h (Zan k) ((s.ls.same I).same k) i;refine (⋯,?_)
  by_cases e:i=l.length
  · refine .inl (T e,nw (ZaH I k) q ?_)
    rw[e,<-lr,List.take_length] at z; exact z
  · have B:i<l.length:=⋯
    obtain ⟨R,yl⟩:=w2 l[i]<|Q6 B;refine .inr (R,⋯,λv A=>Same j A/\Reps Z (hide O A) (r.take<|i+1) (ys++[v]),λv A ⟨k1,k2⟩=>(l.length-(i+1),⋯,rfl,B,k1,k2),λx d yx=>?_);obtain ⟨S2,W⟩:=yl x d yx;refine hg _ x d _ _ (ZaH k S2) W (Y i _<|Q6 B) λq M v A G U=>(ZaH k<|ZaH S2 G,?_);rw[List.take_add_one,M];exact (z.h<|ZaH S2 G).append<|.cons U .nil
abbrev zCo(caps:List (Nat×Str))(ti:ZA)(te:ZE):ZA:=λc Q=>ti c λl=>Comp l (λp=>te (some (.val p)::cap caps c)) Q
def ZlD(o:Mo ti)(i:Mo te)(g:L2.St)(H:Hp)(Q:VK)(h:liL Z d c (zCo caps ti te) g H Q):ZjX 1 caps (liI Z d c ti) (Zdv 0) (liE Z d c te) g H Q:=by
 obtain ⟨O,m,s,q⟩:=h;refine (O,m,s,o m _ _ (λl k J A j n=>ZlC s j n i k λp v z C N S2 r f u=>?_) q);exact (ZmW,O,_,s.cap (ZaH j S2) caps (vs:=[v]) (ps:=[p])<|.cons r .nil,i _ _ _ u f)
def Zh6(x:Str)(caps:List (Nat×Str))(o:QI Z X (.Name x p2) it ti)(s:∀h d c C,QE Z (ZaN X scope (x::caps.map (·.2)) d c C h) elt te)(n:CapsOk X scope caps:=by repeat (first | exact trivial | refine And.intro (rfl,rfl,by first | exact .inl rfl | exact .inr rfl) ?_))(E:X.calm=true:=by rfl)
    (p:(x::caps.map (·.2)).Nodup:=by decide +kernel)
    (r:(scope.names.all λy=>!(y.2==NameKind.free)||(X.env.cells.lookup y.1).isSome)=true:=by rfl)
    (m:scope.kind = .function:=by rfl) (j:∀y∈scope.names,y.2 ≠ .cell:=by decide +kernel)
    (g:∀y∈scope.names,y.2 = .local->scope.names.lookup y.1=some .local:=by decide +kernel) (G:∀x,foldedSetIterable it X.env x=pure x:=by intro _; rfl)
    (u:∀h d c C,Loc (ZaN X scope (x::caps.map (·.2)) d c C h).env.scope x/\(ZaN X scope (x::caps.map (·.2)) d c C h).env.scope.names.lookup x=some .local:=by exact λ_ _ _ _=>(.inl rfl,rfl)) :
    QL Z X (.ListComp elt [(.Name x p2,it,[],0)] scope pos) (zCo caps ti te):=by
  have H:Mo te:=(s [] X.s₀ X.H₀ 0).mo;exact (λF A B f q=>o.mo F _ _ (λl k=>k.mo (λ_ _ z=>z) f) q,λD v=>Zbi (Zef [x] caps E (o.ok D v) (λh d c C=>ZaL (i:=0) p rfl (u h d c C).1<|.inr (u h d c C).2) (λh d c C=>(s h d c C).ok D v) n r m j g G)<|ZlD o.mo H)
def ZiB(i:Nat)(x:Str)(caps:List (Nat×Str)){j G:Pos}(M:X.N.Nodup)(r:QI Z X (.Name x p2) it ti)(I:∀h c d C,QE Z (ZaN X scope (x::caps.map (·.2)) c d C h) elt te)(hy:X.N[i]?=some y:=by rfl)(B:X.env.scope.names.lookup y=some .local:=by rfl)(p:CapsOk X scope caps:=by repeat (first | exact trivial | refine And.intro (rfl,rfl,by first | exact .inl rfl | exact .inr rfl) ?_))(Y:X.calm=true:=by rfl)
    (A:(x::caps.map (·.2)).Nodup:=by decide +kernel)
    (E:(scope.names.all λy=>!(y.2==NameKind.free)||(X.env.cells.lookup y.1).isSome)=true:=by rfl)
    (v:swapsWith (.ListComp elt [(.Name x p2,it,[],0)] scope pos) (some<|.Name y G) j.line X.env=pure true:=by rfl)
    (m:scope.kind = .function:=by rfl) (o:∀y∈scope.names,y.2 ≠ .cell:=by decide +kernel)
    (f:∀y∈scope.names,y.2 = .local->scope.names.lookup y.1=some .local:=by decide +kernel) (S:∀x,foldedSetIterable it X.env x=pure x:=by intro _; rfl)
    (F:∀h c d C,Loc (ZaN X scope (x::caps.map (·.2)) c d C h).env.scope x/\(ZaN X scope (x::caps.map (·.2)) c d C h).env.scope.names.lookup x=some .local:=by exact λ_ _ _ _=>(.inl rfl,rfl)) :
    QS Z X (.Assign [.Name y G] (.ListComp elt [(.Name x p2,it,[],0)] scope pos) j) (Znn i<|zCo caps ti te):=by
  have me:Mo te:=(I [] X.s₀ X.H₀ 0).mo;refine (λD D' u l q=>r.mo u _ _ (λR k=>k.mo (λ_ _ z=>z) λ_=>l.nx _) q,λL J=>ZcU (Zf4 [x] caps M hy B Y (r.ok L J) (λh c d C=>ZaL (i:=0) A rfl (F h c d C).1<|.inr (F h c d C).2) (λh c d C=>(I h c d C).ok L J) p E v m o f S) λD N H ⟨O,u,s,q⟩=>ZlD r.mo me N H _ (O,u,s,r.mo u _ _ (λR k=>k.mo (λ_ _ z=>z) λl k a us T U n g Q=>?_) q));obtain ⟨s',W⟩:=s.own U (i:=i) n g Q;exact k _ _ T s' W
def dnP(c:Int)(n:Nat):List PV:=(List.range n).map λi:Nat => .int<|c-(i:Int)
def ZiC{lo:Int}:(dnP lo n).length=n:=by unfold dnP;rw[Q1,Qn]
def ZlE{lo:Int}{n i:Nat}{p:PV}(h:(dnP lo n)[i]?=some p):i<n/\p = .int (lo-i):=by
 have l:i<n:=by have:=(Qp.mp h).1;rw[ZiC] at this;exact this
 unfold dnP at h;rw[Q3,Qs l] at h;exact (l,(Option.some.inj h).symm)
def Zkx:List PV->List PV->List PV
 |a::l,b::m => .tup [a,b]::Zkx l m
 |_,_=>[]
def ZcG:∀(l m:List PV),(Zkx l m).length=min l.length m.length
 | [],[]=>rfl
 | [],_::_=>by simp[Zkx]
 |_::_,[]=>by simp[Zkx]
 |a::l,b::m=>by simp only[Zkx,Wy,ZcG l m];omega
def ZeZ:∀ {l m:List PV} {i:Nat} {p:PV},(Zkx l m)[i]?=some p->∃a b,l[i]?=some a/\m[i]?=some b/\p = .tup [a,b]
 | [],[],i,p,h=>by simp[Zkx] at h
 | [],_::_,i,p,h=>by simp[Zkx] at h
 |_::_,[],i,p,h=>by simp[Zkx] at h
 |a::l,b::m,0,p,h=>by simp only[Zkx] at h;cases h;exact (a,b,rfl,rfl,rfl)
 |a::l,b::m,i+1,p,h=>by simp only[Zkx] at h;exact ZeZ (l:=l) (m:=m) (i:=i) h
abbrev Zus(ta tb:ZE):ZA:=λc Q=>ta c λp=>tb c λq=>zL p λl=>zL q λm=>Q<|Zkx l m
def ZlF{A:List Expr}{k0}{o p:Pos}(hm:X.mg "zip"=none) (F:QE Z X a ta) (I:QE Z X b tb) (hg:Gl X "zip":= by rfl) (Y:starEach [a,b] X.env=[(false,eval a X.env),(false,eval b X.env)]:=by rfl) (h:starEach [b] X.env=[(false,eval b X.env)]:=by rfl):QI Z X (.Tuple A k0 o) (.Call (.Name "zip" p) [a,b] [] pos) (Zus ta tb) :=
 (λg _ _ f q=>F.mo g _ _ (λ_ k=>I.mo g _ _ (λ_ k=>ZgP (λ_ k=>ZgP (λ_ k=>f _ k) k) k) k) q,λU O0=>Zkg (Zle hg hm (Zaa (F.ok U O0) (Zaa (I.ok U O0) Zaf h) (by rw[Y,h])) Y h) λσ H R ⟨O,g,s,q⟩=>(O,g,s,F.mo g _ _ (λp k v H1 L r1=>(O,g,s.same L,I.mo g _ _ (λp' k v' H2 S2 r2=>by
  obtain ⟨l,rfl,k2⟩:=Zd7 k;obtain ⟨m,rfl,k3⟩:=Zd7 k2;obtain ⟨c,j,rfl,hc,r⟩:=Za0 r1;obtain ⟨d,n,rfl,Q,r'⟩:=Za0 r2;have B:=Zan S2 _ _ hc;refine (c,d,rfl,(j,.of<|Zaw _ _ B),(n,.of<|Zaw _ _ Q),k3 _ H2 (ZaH L S2) λO3 H3 C L3 i=>?_);have G:H3 c=some (.lst j):=Zaw _ _<|C _ _ B;have D:H3 d=some (.lst n):=Zaw _ _<|C _ _ Q;have lr:=r.len;have a0:=r'.len;refine (λe=>(j,n,.of G,.of D,by rw[ZcG] at e;omega),λp hp=>?_);obtain ⟨x,y,hx,hy,rfl⟩:=ZeZ hp;obtain ⟨u,J,ru⟩:=r.get hx;obtain ⟨v,S,rv⟩:=r'.get hy;refine ((j,n,u,v,.of G,.of D,J,S),λz H4 ⟨T,W,ez,x',y',ex,ey,eH⟩=>?_);have N:=ex j<|.of G;have M:=ey n<|.of D;rw[J] at N;cases N;rw[S] at M;cases M;subst ez eH;have E:=Zar W<|HO.tup [u,v];exact (E,Zpz (by rw[hide_out<|L3.new W];exact Zai)<|.cons (((ru.h S2).same C).h E)<|.cons ((rv.same C).h E) .nil)) k)) q))
abbrev gT(i j:Nat):ZG:=λp c k=>match p with
 | .tup [a,b]=>k<|sset (sset c i<|some<|.val a) j<|some<|.val b
 |_=>False
def Zon(h:gT i j p ρ k):∃a b,p = .tup [a,b]/\k (sset (sset ρ i<|some<|.val a) j<|some<|.val b):=by
 unfold gT at h
 split at h
 ·exact (_,_,rfl,h)
 ·exact h.elim
def Zut(i j:Nat){k:Nat}(m:X.N.Nodup)(o:X.N[i]?=some x:=by rfl)(G:X.N[j]?=some y:=by rfl)(z:Loc X.env.scope x:=by first | exact .inl rfl | exact .inr rfl)(I:Loc X.env.scope y:=by first | exact .inl rfl | exact .inr rfl)(n:X.fn x=true\/X.env.scope.names.lookup x=some .local:=by first | exact .inl rfl | exact .inr rfl | assumption)(h:X.fn y=true\/X.env.scope.names.lookup y=some .local:=by first | exact .inl rfl | exact .inr rfl | assumption)(l:X.calm=true:=by rfl)
    (C:(assignEach [.Name x p2,.Name y p3] X.env).map (·.2)=assign (.Name x p2) X.env::(assignEach [.Name y p3] X.env).map (·.2):=by rfl) (g:(assignEach [.Name y p3] X.env).map (·.2)=assign (.Name y p3) X.env::(assignEach [] X.env).map (·.2):=by rfl)
    (D:(assignEach [.Name x p2,.Name y p3] X.env).length=2:=by rfl) (d:(assignEach [.Name x p2,.Name y p3] X.env).findIdx? (·.1)=none:=by rfl):QG Z X (.Tuple [.Name x p2,.Name y p3] k pos) (gT i j) :=
  (λp J A B f q=>by obtain ⟨a,b,rfl,k⟩:=Zon q; exact f _ k,_,Zho l (ZbH (ZaL m o z n) (ZbH (ZaL m G I h) Ze1 g) C) D d,λR N O H L J p v Q s r q=>by
    obtain ⟨a,b,rfl,k⟩:=Zon q;obtain ⟨c,M,rfl,l,r⟩:=Zfx r;obtain ⟨u,v,rfl,E,F⟩:=r.two;exact (c,[u,v],rfl,.of<|Zaw _ _ l,rfl,u,[v],rfl,v,[],rfl,rfl,k _<|(s.set E).set F))
abbrev Zrg(l:List PV)(f:Int->Int->Prop):Prop:=match l with
 | [.int i,.int j]=>f i j
 |_=>False
def Zjo(h:Zrg l f):∃i j,l=[.int i,.int j]/\f i j:=by
 unfold Zrg at h
 split at h
 ·exact (_,_,rfl,h)
 ·exact h.elim
def Zrh{f:Int->Int->Int}:LC Z (λxs H Q=>∃i j,xs=[.int i,.int j]/\Q (.int<|f i j) H) (λl Q=>Zrg l λi j=>Q<|.int<|f i j) :=
 (λp A B g h=>by obtain ⟨i,j,rfl,k⟩:=Zjo h;exact g _ k,λO H p x Q _ r h=>by
  obtain ⟨i,j,rfl,k⟩:=Zjo h;obtain ⟨u,v,rfl,d,c⟩:=r.two;exact (i,j,by rw[Zax d,Zax c],k _ H ZaT rep_i))
def Zri{p:Pos}(n:X.mg "max"=none) (m:QE Z X a ta) (h:QE Z X b tb) (g:Gl X "max":= by rfl) (k:X.calm=true:=by rfl) (f:starEach [a,b] X.env=(false,eval a X.env)::starEach [b] X.env:=by rfl) (c:starEach [b] X.env=[(false,eval b X.env)]:=by rfl) (d:(backTo pos<|starEach [b] X.env).any (·.1)=false:=by rfl):QE Z X (.Call (.Name "max" p) [a,b] [] pos) (ZfR (λl Q=>Zrg l λi j=>Q<|.int (if j>i then j else i))<|ZbR ta<|ZbR tb Zkw) :=
 Ziy Zrh (ZkI k) g n PyProof.Rows.Boot.«max» (Zb7 m (Zb7 h Zdc c) f) ∅ ∅ f d
def Zrj{p:Pos}(n:X.mg "min"=none) (m:QE Z X a ta) (h:QE Z X b tb) (g:Gl X "min":= by rfl) (k:X.calm=true:=by rfl) (f:starEach [a,b] X.env=(false,eval a X.env)::starEach [b] X.env:=by rfl) (c:starEach [b] X.env=[(false,eval b X.env)]:=by rfl) (d:(backTo pos<|starEach [b] X.env).any (·.1)=false:=by rfl):QE Z X (.Call (.Name "min" p) [a,b] [] pos) (ZfR (λl Q=>Zrg l λi j=>Q<|.int (if j<i then j else i))<|ZbR ta<|ZbR tb Zkw) :=
 Ziy Zrh (ZkJ k) g n PyProof.Rows.Boot.«min» (Zb7 m (Zb7 h Zdc c) f) ∅ ∅ f d
abbrev Zuu(i:Nat)(te:ZE):ZS:=λD c=>zO i (λl=>te c λp=>zL p λm=>l.length+m.length<=1000/\D.nx (sset c i<|some<|.own<|l++m)) c
def Zrk(i:Nat)(h:QE Z X e te)(G:X.N[i]?=some x:=by rfl)(R:Vis X.env.scope x:=by first | exact .inl rfl | exact .inr (.inl rfl) | exact .inr (.inr rfl))(M:(x==("__debug__" : Str))=false:=by decide) (z:(x==("__classdict__" : Str))=false:=by decide)
    (c:attributeBase (.Name x p3) "extend" X.env (eval (.Name x p3) X.env)=eval (.Name x p3) X.env:=by rfl)
    (f:((backTo p2<|starEach [e] X.env).all (λx=>!x.1)&&(backToKw p2<|keywordEach [] X.env).all (λx=>x.1.isSome)&&decide (([e]:List Expr).length+([]:List Keyword).length+(if ([]:List Keyword).isEmpty then 0 else 1)<30))=true:=by rfl)
    (d:(apos.endLine==p2.line)=true:=by rfl) (E:starEach [e] X.env=[(false,eval e X.env)]:=by rfl) (u:swapsWith (.Call (.Attribute (.Name x p3) "extend" apos) [e] [] p2) none pos.line X.env=pure false:=by rfl):QS Z X (.Expr (.Call (.Attribute (.Name x p3) "extend" apos) [e] [] p2) pos) (Zuu i te) :=
  (λD D' o l q=>Ziz (λ_ k=>h.mo o _ _ (λ_ k=>ZgP (λ_ k=>(k.1,l.nx _ k.2)) k) k) q,λW S=>ZcU (Zbm (Zic PySem.F.plainAttrs_list PySem.F.slot_list_extend PySem.F.type_list_extend ZkT (Zcm G R M z) (Zaa (h.ok W S) Zaf E) c f d E rfl) u) λD I H ⟨O,o,s,q⟩=>by
    obtain ⟨l,C,q⟩:=Zfy q;obtain ⟨a,A,B,m,g,r⟩:=s.ow C;refine (_,B,.inl (rfl,A,.of g),O,o,s,h.mo o _ _ (λp k v Y j J=>?_) q);obtain ⟨n,rfl,L,k⟩:=Zd7 k;obtain ⟨b,T,rfl,N,F⟩:=Za0 J;obtain ⟨U,Q⟩:=(s.same j).wr C B (j _ _ g) m<|(r.h j).append F;exact (a,b,A,T,rfl,rfl,j _ _ g,Zaw _ _ N,by rw[r.len,F.len]; exact Wl<|Zba L,k O I _ U<|ZaH (Zan j) Q))
end
end Zp
namespace My
open PySem L2 PyProof.Rows
section
variable{κ:KX}
def ZiD{R:ZZll κ}(b:Wid m R){i j:Nat}(a:i<R.length)(c:j<m):ent R i j∈R.getD i []:=by
 have l:=b.get a;unfold ent;generalize R.getD i []=f at *;rw[Q2,Q6 ⋯];exact Qu _
end
end My
namespace My
end My
namespace My
open PySem L2 PyProof.Rows
section
variable{κ:KX}
noncomputable def Zrl(f v:Nat->κ.F):Nat->κ.F
 |0=>0
 |m+1=>Zrl f v m+f m*v m
def ZlG{f v:Nat->κ.F}:∀ {m},(∀j<m,f j*v j=0)->Zrl f v m=0
 |0,_=>rfl
 |m+1,h=>by
  show Zrl f v m+f m*v m=0;rw[ZlG λj a=>h j ⋯,h m ⋯];grind
def ZiE{c s:κ.F}(a:c≠0)(h:c*s=0):s=0:=by
 have e:=Fd.mul_inv c a;have:s=Fd.inv c*(c*s):=by grind
 rw[this,h];grind
end
end My
namespace L2
open PySem PySem.Spec PyProof.Rows
def Zjp{α e:Type}{f g:α->Option e}:∀ {l:List α},(∀a∈l,f a=g a)->l.filterMap f=l.filterMap g
 | [],_=>rfl
 |a::l,h=>by
  have d:=Zjp (l:=l) λb c=>h b<|W7 _ c;rw[Ur,Ur,h a W6,d]
def ZfU(its:List Value):slicePick its.toArray none none (some<|-1)=its.reverse.toArray:=by
  have e:sliceBounds none none (some<|-1) its.toArray.size=((its.length:Int)-1,-1,-1):=by
    simp[sliceBounds]
  unfold slicePick;rw[e]
  congr 1
  show (sliceRange ((its.length:Int)-1) (-1)<|-1).filterMap _=_;have f:sliceRange ((its.length:Int)-1) (-1) (-1)=(List.range its.length).map λ(k:Nat)=>its.length-1-k:=by
    unfold sliceRange
    by_cases h:0<its.length
    · have c:(((its.length:Int)-1 - -1 - -1-1)/(- -1))=(its.length:Int):=by
        rw[show (- -1:Int)=1 from rfl,Int.ediv_one]; omega
      simp only[show ¬((-1:Int)>0) by decide,if_false,show (its.length:Int)-1 > -1 by omega,if_true,c,Ws]
      apply List.map_congr_left
      intro k a;have:=Uh.mp a;omega
    · have z:its.length=0:=⋯
      rw[z]
      rfl
  rw[f];have b:=pick_run its.reverse.toArray 0 its.length;rw[List.drop_zero,U1 (by simp)] at b;have d:its.reverse.toArray.toList=its.reverse:=rfl;rw[d] at b;rw[<-b,List.filterMap_map,List.filterMap_map];refine Zjp ?_;intro k a;have a:=Uh.mp a;show its.toArray[its.length-1-k]?=its.reverse.toArray[0+k]?;rw[Nat.zero_add,List.getElem?_toArray,List.getElem?_toArray,U4 a]
section
variable{X:Cx}{e st:Expr}{te ts:TE}{pos p2:Pos}
def ZlH{xs:List V}:∀ {us:List Value},Vals xs us->Vals xs.reverse us.reverse:=by
 induction xs with
 |nil=>intro us r;cases r;exact .nil
 |cons x xs a =>
  intro us r
  cases r with
  |cons b c =>
   rw[List.reverse_cons,List.reverse_cons];exact (a c).append<|.cons b .nil
def Zuv(K:ZZfg)(te ts:TE):TE:=λc H Q=>te c H λx f=>ts c f λy b=>y = .int (-1)/\∃a d,x = .ref a/\SqL K b a d/\∀p,b p=none->Q (.ref p) (upd b p<|.lst d.reverse)
def Zrm(C:PE X e te)(B:PE X st ts):PE X (.Subscript e (.Slice none none (some st) p2) pos) (Zuv X.K te ts):=by
 intro c s f H Q I h;refine Subscript_<|thn (C c s f H _ I h) λv J ⟨x,G,F,A,l⟩=>?_;refine wpAny_Slice ?_;rw[evalPart_none];refine wpAny_pure<|wpAny_pure ?_;rw[evalPart_some];refine thn (B c J f G _ F l) λK d ⟨y,D,k,z,u⟩=>?_;obtain ⟨rfl,a,E,rfl,p,q⟩:=u;obtain ⟨t,rfl⟩:=z
 cases A
 have g:Inv X c f D { d with heap:=d.heap.push { cls:=.type "slice", data:=.fields #[.none,.none,.int (-1) t] } }:=k.kept (t':=d.toks) λb w q=>Heap.get?_push_of_some _ q;obtain ⟨n,r,j,m⟩:=g.list p;have i:=r.length;show wpAny (model X.prog X.w) X.A (subscriptTail e (.Slice none none (some st) p2) (.ref a)<|.ref d.heap.objs.size) (EP X c f Q) X.xe { d with heap:=d.heap.push { cls:=.type "slice", data:=.fields #[.none,.none,.int (-1) t] } };refine tail_any (ops:=[.ref a,.ref d.heap.objs.size]) j.isList.typeIs slot_list_getitem.lookup ?_ (by with_unfolding_all rfl);refine wpAny_getItem_list_slice j.isList (Heap.IsSliceOf.new ..) .none .none (.int (-1) t) (by simp) ?_ (by rw[Qh];omega);rw[ZfU];refine (.ref _,_,g.laid (t':=d.toks) (o:=.lst E.reverse) (λb w q=>Heap.get?_push_of_some _ q) (Q4 _) ?_,rfl,q _<|g.hok.fresh<|Q4 _);exact (by rw[Wd];exact m,_,0,ZlH r,Heap.get?_push_size _ rfl)
end
def Itd(a:Int)(n:Nat):It:=(λi _=>i<n,λi H x b=>b=H/\x = .int (a-i),λi _=>n<=i)
def ZlI{K:ZZfg}(it:Addr)(lo:Int)(n:Nat):Turn P w K G (Itd lo n) [it] it (λi h=>IsRangeIter h it (lo+(i:Nat)*(-1)) ((n:Int)-(i:Nat))<|-1) where
 mem:=by simp
 obj:=λi h a b d=>by
  have e:b=it:=by simpa using d
  subst e;exact (_,a,λv z=>by
   have J:Data.fields _=Data.cell v:=z
   cases J)
 keep:=λi h j a k=>k it (by simp) _ a
 item:=by
  intro X r p q x i c s C H E I g a y;subst r p q;obtain ⟨l,u,O,B,m,A⟩:=g it (by simp);have W:=Walks.range (prog:=X.prog) (w:=X.w) (I.ok.hd x) it lo (-1) n;refine W.item i s _ _ y a λv j D M f N=>?_;obtain ⟨t,rfl⟩:=M;have F:Inv X c C H { s with heap:=j,toks:=D }:=I.turned (λb o d e=>N b o (by simpa using d) e) l u B m A;refine (_,rfl,ZkA (s:={ s with heap:=j,toks:=D }) (n :="range_iterator") f rfl rfl ∅ (.int<|lo-i,H,F,(t,?_),(rfl,rfl),f,λb d=>(g b d).1))
  congr 1
  omega
 done:=by
  intro X r p q x i c s C H E I g a y;subst r p q;obtain ⟨l,u,O,B,m,A⟩:=g it (by simp);exact wpAny_pyNext_range_end (I.ok.hd x) a (by have:n<=i:=y;omega) λj L=>(rfl,I.turned (t':=s.toks) (λb o d e=>L b o d e) l u B m A)
 self:=λ_ _ _ _ _ a h=>wpAny_pyIter_rangeiter a h
section
variable{X:Cx}{tg:Expr}
def ZhP(a b:Int):Builtin.Range.rangeSize a b (-1)=((a-b).toNat:Int):=by
 unfold Builtin.Range.rangeSize
 simp only[show ¬((-1:Int)>0) by decide,if_false,show (-(-1):Int)=1 from rfl,Int.ediv_one]
 split <;> omega
def Zno{a b:Int}(e:-(2^62)<=a)(d:a<2^62)(f:-(2^62)<=b)(c:b<2^62):Builtin.Range.small a b (-1)=true:=by
 unfold Builtin.Range.small;rw[ZhP]
 simp only[Builtin.Range.rangeFitsLong,Bool.and_eq_true,Bool.or_eq_true,decide_eq_true_eq,beq_iff_eq,show ¬((-1:Int)>0) by decide,if_false]
 omega
def Znp{s:Shared}{R:It->Hp->Prop}{lo a:Int}{t u v:Tok}{f:Nat}(I:Inv X c d H s)(m:-(2^62)<=lo)(k:lo<2^62)(n:-(2^62)<=a)(l:a<2^62)
    (q:R (Itd lo (lo-a).toNat) H):wpAny (model X.prog X.w) X.A (pyIter<|.ref s.heap.objs.size) (PIE X c d tg R) E { s with heap:=s.heap.push { cls:=.type "range", data:=.fields #[.int lo t,.int a u,.int (-1) v] },toks:=f }:=by
  refine wpAny_pyIter_range (IsRange.new ..) (Zno m k n l) ?_;have g:Inv X c d H { s with heap:=s.heap.push { cls:=.type "range", data:=.fields #[.int lo t,.int a u,.int (-1) v] },toks:=f }:=I.kept λb o e=>Heap.get?_push_of_some _ e;refine ((s.heap.push { cls:=.type "range", data:=.fields #[.int lo t,.int a u,.int (-1) v] }).objs.size,[(s.heap.push { cls:=.type "range", data:=.fields #[.int lo t,.int a u,.int (-1) v] }).objs.size],_,_,H,rfl,
    g.kept (t':=f) λb o e=>Heap.get?_push_of_some _ e,ZlI _ lo (lo-a).toNat,?_,λb i=>?_,q)
  · have h:lo+((0:Nat):Int)*(-1)=lo:=by simp
    have j:(((lo-a).toNat:Nat):Int)-((0:Nat):Int)=Builtin.Range.rangeSize lo a (-1):=by rw[ZhP]; omega
    show IsRangeIter _ _ (lo+((0:Nat):Int)*(-1)) ((((lo-a).toNat:Nat):Int)-((0:Nat):Int)) (-1);rw[h,j];exact Heap.get?_push_size _ rfl
  · have e:b=(s.heap.push { cls:=.type "range", data:=.fields #[.int lo t,.int a u,.int (-1) v] }).objs.size:=by simpa using i
    subst e;exact g.fpOk (Q4 _)<|g.hok.fresh<|Q4 _
inductive Zoo (vs:List V) (H1:Hp) (R:It->Hp->Prop):Prop
 |mk (i j:Int) (_:vs=[.int i,.int j,.int (-1)]) (_:-(2^62)<=i/\i<2^62 /\ -(2^62)<=j/\j<2^62) (_:R (Itd i (i-j).toNat) H1):Zoo vs H1 R
def ZsW(a:TA):TI:=λb H R=>a b H λd c=>Zoo d c R
def ZlJ{a b c:Expr}{p k:Pos}(D:Gl X "range") (C:X.mg "range" = none) (y:PA X [a,b,c] n) (v:starEach [a,b,c] X.env=[(false,eval a X.env),(false,eval b X.env),(false,eval c X.env)]:=by rfl) (f:starEach [b,c] X.env=[(false,eval b X.env),(false,eval c X.env)]:=by rfl) :
    PI X tg (.Call (.Name "range" p) [a,b,c] [] k) (ZsW n):=by
  intro g s o H R I h;refine Call_<|Zdy I D C boot_range<|PyProof.Rows.callWith_type1 (thn (y k g s o H _ I h) λF K ⟨L,J,x,u,m⟩=>?_) (by rw[v,f]) (by rw[f]; rfl);obtain ⟨i,j,e,⟨m,w,B,z⟩,q⟩:=m;subst e
  cases u with
  | cons r d =>
    cases d with
    | cons E d =>
      cases d with
      | cons l d =>
        cases d
        obtain ⟨t,rfl⟩:=r;obtain ⟨G,rfl⟩:=E;obtain ⟨A,rfl⟩:=l;exact call_range_3 ∅ (Znp x m w B z q)<|Or.inl<|PyProof.noPylong_of_log2 ‹4›
end
def Zki:typeLookup (.type "list_reverseiterator") "__len__"=pure none:=by rw[typeLookup_type,builtinLookup_eq_fast];kernel_rfl
def Znq:typeLookup (.type "list_reverseiterator") "__length_hint__"=pure (some<|.builtin "list_reverseiterator.__length_hint__"):=by rw[typeLookup_type,builtinLookup_eq_fast];kernel_rfl
section
variable{prog:Program}{w:World}{A:Around}{s:Shared}{R:Result->Shared->Prop}
def Zkj{I l:Addr}{items:Array Value}(H:A.handled=none)(z:l≠I)(S:Addr)(g:Value)(d:Nat)(j:s.heap.IsRevIter I l ((items.size:Int)-1))(B:s.heap.IsList l items)(m:S≠I)(y:S≠l)(J:items.size<=sizeLine)
    (G:s.heap.get? S=some { cls:=.type "list", data:=.seq #[] d })
    (K:∀h' C c k,(∀b o,b≠S->b≠I->s.heap.get? b=some o->h'.get? b=some o)->h'.get? S=some { cls:=.type "list", dict:=none,data:=.seq c k,slots:=#[] }->ItemsOf (λi v=>items[items.size-1-i]?=some v) c items.size->R (.ok<|.ret g) { s with heap:=h',toks:=C }) :
    wpAny (model prog w) A.in1 (Builtin.List.listExtendWith (.ref S) (.ref I) g)
      (λr h=>match r with | .done f=>R (.ok f) h | .again k=>k.quiet=true/\codeAny (model prog w) A k R h) (λe h=>R (.error e) h) s:=by
  have W:=(Walks.listRev (prog:=prog) (w:=w) (A:=A.in1) H I l z items).toS;unfold Builtin.List.listExtendWith;refine wpAny_bind<|wpAny_typeOf j.typeIs ?_;have D:Builtin.List.listSameRef (.ref S) (.ref I)=false:=by simp[Builtin.List.listSameRef,m]
  have M:(Value.type "list_reverseiterator" == Value.type "list")=false:=∅;have E:(Value.type "list_reverseiterator" == Value.type "tuple")=false:=∅
  simp only[D,M,E,Bool.or_false,Bool.false_eq_true,if_false]
  refine wpAny_bind<|wpAny_pyIter_revIter j ?_;refine wpAny_bind<|wpAny_holding ?_;unfold Builtin.List.listLengthHint;refine wpAny_bind<|wpAny_specialOf j.typeIs Zki ?_;show wpAny _ A.in1 (specialOf (Value.ref I) (Str.ofString "__length_hint__") >>= _) _ _ _;refine wpAny_bind<|wpAny_specialOf j.typeIs Znq ?_;generalize hid:("list_reverseiterator.__length_hint__" : String)=x
  wp_delta
  rw[show splitId x=some ("list_reverseiterator", "__length_hint__") from by subst hid; decide +kernel];subst hid;refine wpAny_bind<|wpAny_isInstance (T := "list_reverseiterator") (b:=true) j.typeIs (by rw[isSubtype_type]; kernel_rfl) ?_;refine wpAny_ite_split (λa=>absurd a ∅)<|λ_=>?_;refine wpAny_ite_split (λ_=>?_)<|λa=>absurd ‹4› a;refine wpAny_ite_split (λa=>absurd a ‹4›)<|λ_=>?_;refine wpAny_pure ?_;have q:(0:Nat)<=items.size/\s.heap.IsRevIter I l ((items.size:Int)-1-((0:Nat):Int))/\s.heap.IsList l items:=(Qg _,by simpa using j,B);refine wpAny_ite_split (λa=>absurd a ‹4›)<|λ_=>wpAny_pure (plainId_quiet F.plain_extend_loop _,?_);refine codeAny_extend_loopS W J S ?_ g items.size 0 s #[] d rfl (Qg _) q G (ItemsOf.nil _) λh c k p u n=>?_
  · intro p
    rcases Qe.mp p with e | e
    · exact m e
    · exact y (Qf.mp e)
  rw[Moved.eq_with p];refine K h.heap h.toks c k (λb o L t e=>p.heap b o (λhmem=>?_) e) u n;rcases Qe.mp hmem with e' | hmem
  · exact L e'
  · exact t (Qf.mp hmem)
def ZgT{I l:Addr}{items:Array Value}(z:A.handled=none)(q:l≠I)(S:Addr)(y:s.heap.IsRevIter I l ((items.size:Int)-1))(B:s.heap.IsList l items)(h:S≠I)(k:S≠l)(D:items.size<=sizeLine)
    (r:s.heap.get? S=some { cls:=.type "list", data:=.seq #[] })
    (E:∀h' x a g,(∀b o,b≠S->b≠I->s.heap.get? b=some o->h'.get? b=some o)->h'.get? S=some { cls:=.type "list", dict:=none,data:=.seq a g,slots:=#[] }->ItemsOf (λi v=>items[items.size-1-i]?=some v) a items.size->R (.ok<|.ret .none) { s with heap:=h',toks:=x }) :
    wpAny (model prog w) A.in1 (Builtin.«list.__init__» ([.ref S,.ref I],[]))
      (λt n=>match t with | .done f=>R (.ok f) n | .again g=>g.quiet=true/\codeAny (model prog w) A g R n) (λe n=>R (.error e) n) s:=by
  show wpAny _ _ (do let old ← Builtin.List.listItems (.ref S); Builtin.List.listUpdate (.ref S) (λ_=>#[]); letGo old.toList.reverse; Builtin.List.listExtendWith (.ref S) (.ref I) .none) _ _ s;refine wpAny_bind ?_;unfold Builtin.List.listItems;refine wpAny_bind<|wpAny_seqItems r rfl<|wpAny_pure ?_;show wpAny _ _ (updateSeq S (λ_=>#[]) >>= λ_=>letGo (#[]:Array Value).toList.reverse >>= λ_=>Builtin.List.listExtendWith (.ref S) (.ref I) .none) _ _ s;refine wpAny_bind<|wpAny_updateSeq r rfl ?_;have d:=Heap.get?_update_self (Obj.mapSeq<|λ_=>(#[]:Array Value)) r rfl;have c:∀b o,b≠S->s.heap.get? b=some o->(s.heap.update S<|Obj.mapSeq<|λ_=>(#[]:Array Value)).get? b=some o :=
    λb o m e=>(Heap.get?_update_other _ _<|Ne.symm m).trans e
  refine wpAny_bind<|wpAny_letGo ?_;refine Zkj z q S .none _ (y.at λo e=>c I o (Ne.symm h) e) (B.at λo e=>c l o (Ne.symm k) e) h k D d λh' x a g C p j=>?_;exact E h' x a g (λb o m u e=>C b o m u<|c b o m e) p j
end
section
variable{prog:Program}{w:World}{A:Around}{E:Value->Shared->Prop}{s:Shared}
def Zey{Q:Value->Shared->Prop}{I l:Addr}{items:Array Value}(y:A.handled=none)(j:l≠I)(q:s.heap.IsRevIter I l ((items.size:Int)-1))(t:s.heap.IsList l items)(B:items.size<=sizeLine)
    (x:∀h' n a k,(∀b o,b≠I->s.heap.get? b=some o->h'.get? b=some o) →
      h'.get? s.heap.objs.size=some { cls:=.type "list", dict:=none,data:=.seq a k,slots:=#[] }->ItemsOf (λi v=>items[items.size-1-i]?=some v) a items.size->Q (.ref s.heap.objs.size) { s with heap:=h',toks:=n }) :
    wpAny (model prog w) A (call (.type "list") [.ref I]) Q E s:=by
  refine callType_codes (Q₁:=λd c=>d = .ref s.heap.objs.size/\c={ s with heap:=s.heap.push { cls:=.type "list", data:=.seq #[] } }) F.called_list (F.typeCall_list_1 _) F.entry_list_init
    (code_list_new _ (rfl,rfl)) λd c f=>?_
  obtain ⟨rfl,rfl⟩:=f;have r:(s.heap.push { cls:=.type "list", data:=.seq #[] }).get? s.heap.objs.size=some { cls:=.type "list", data:=.seq #[] }:=Heap.get?_push_size _ rfl;obtain ⟨D,p,_⟩:=id q;obtain ⟨C,m,_⟩:=id t;refine ((_,r,rfl),F.args_list_init_2 _ _,ZgT (A:=A.in1) y j _ (q.at λo e=>Heap.get?_push_of_some _ e) (t.at λo e=>Heap.get?_push_of_some _ e) (Ne.symm<|Qc<|Heap.lt_size p) (Ne.symm<|Qc<|Heap.lt_size m) B r λh' n a k z h g=>?_);exact (rfl,x h' n a k (λb o u e=>z b o (Qc<|Heap.lt_size e) u<|Heap.get?_push_of_some _ e) h g)
end
section
variable{X:Cx}{e1:Expr}{ta:TA}{p p2 pos pos2:Pos}
inductive Zop (K:ZZfg) (vs:List V) (H1:Hp) (Q:VK):Prop
 |mk (a:Addr) (xs:List V) (_:vs=[.ref a]) (_:SqL K H1 a xs) (_:∀p,H1 p=none->Q (.ref p) (upd H1 p (.lst xs.reverse))):Zop K vs H1 Q
def ZsX(K:ZZfg)(ta:TA):TE:=λa H Q=>ta a H λc b=>Zop K c b Q
def ZlK{its:List Value}(h:ItemsOf (λi v=>its.toArray[its.toArray.size-1-i]?=some v) a its.toArray.size):a=its.reverse.toArray:=by
 obtain ⟨j,c⟩:=h;have g:its.toArray.size=its.length:=Qh;have f:its.reverse.toArray.size=its.length:=Qh.trans Wd;refine Array.ext ⋯ λi b d=>?_;have:=c i a[i]<|Array.getElem?_eq_getElem b;have e:its.reverse.toArray[i]?=some a[i]:=by
  rw[List.getElem?_toArray,U4 ⋯,<-List.getElem?_toArray,<-this,Qh]
 rw[Array.getElem?_eq_getElem d] at e;exact (Option.some.inj e).symm
def Zkk(t:Gl X "list") (m:X.mg "list" = none) (R:Gl X "reversed") (P:X.mg "reversed" = none) (g:X.calm=true) (K:PA X [e1] ta) (E:starEach [e1] X.env=[(false,eval e1 X.env)]:=by rfl) (i:starEach [.Call (.Name "reversed" p) [e1] [] pos] X.env=[(false,eval (.Call (.Name "reversed" p) [e1] [] pos) X.env)]:=by rfl) :
    PE X (.Call (.Name "list" p2) [.Call (.Name "reversed" p) [e1] [] pos] [] pos2) (ZsX X.K ta):=by
  intro f s w H Q I h;refine wpAny_Call_Name_kw<|Zdy I t m boot_list ?_;refine PyProof.Rows.callWith_type1 ?_ (by rw[i]; rfl) (by rfl);rw[i];show wpAny _ _ (spliced ((false,eval (.Call (.Name "reversed" p) [e1] [] pos) X.env)::backTo pos2 (starEach [] X.env))) _ _ s;refine Calls.spliced_cons ?_;refine wpAny_Call_Name_kw<|Zdy I R P PyProof.Rows.Boot.«reversed»<|PyProof.Rows.callWith_type1 (thn (K pos f s w H _ I h) λT d ⟨Y,J,j,C,M⟩=>?_) (by rw[E]; rfl) (by rfl);obtain ⟨a,Z,e,A,q⟩:=M;subst e;obtain ⟨u,rfl,L⟩:=Zhp C
  cases (show u=Value.ref a from L)
  obtain ⟨c,z,n,B⟩:=j.list A;have W:=z.length;obtain ⟨U,v,_⟩:=id n.isList;refine call_reversed_list n.isList ?_;refine Calls.spliced_nil ?_;have N:({ d with heap:=d.heap.push (revObj a<|(c.toArray.size:Int)-1) }:Shared).heap.IsRevIter d.heap.objs.size a ((c.toArray.size:Int)-1):=(_,Heap.get?_push_size _ rfl,rfl,rfl);have I2:Inv X f w J { d with heap:=d.heap.push (revObj a<|(c.toArray.size:Int)-1) }:=j.kept (t':=d.toks) λb o e=>Heap.get?_push_of_some _ e;refine Zey (j.ok.hd g) (Qc<|Heap.lt_size v) N (n.isList.at λo e=>Heap.get?_push_of_some _ e) (by rw[Qh]; omega) λh' G x O S r k=>?_;have D:=ZlK k;subst D;have F:∀b l,d.heap.get? b=some l->h'.get? b=some l:=λb l e=>S b l (Qc<|Heap.lt_size e)<|Heap.get?_push_of_some _ e;have y:d.heap.objs.size<=(d.heap.push<|revObj a<|(c.toArray.size:Int)-1).objs.size:=by rw[Heap.size_push]; omega
  refine (.ref _,_,j.laid (t':=G) (h':=h') F y ?_,rfl,q _<|j.hok.fresh y);exact (by rw[Wd]; exact B,_,O,ZlH z,r)
end
end L2
namespace My
open PySem L2 PyProof.Rows
section
variable{κ:KX}
def QN(κ:KX)(D:Int)(M:Nat)(x:κ.F):Prop:=match κ with
 | .q=>∃X:Int,x=Rat.divInt X D/\X.natAbs<=M
 | .r _ _=>True
def QN.mono{M N:Nat}{x:κ.F}(h:QN κ D M x)(l:M<=N):QN κ D N x:=by
 cases κ with
 |r p b=>exact trivial
 |q=>obtain ⟨X,e,a⟩:=h;exact (X,e,Q0 a l)
def QN.mul{x y:κ.F}(h:QN κ D M x)(g:QN κ E N y):QN κ (D*E) (M*N) (x*y):=by
 cases κ with
 |r p c=>exact trivial
 |q =>
  obtain ⟨X,rfl,b⟩:=h;obtain ⟨Y,rfl,a⟩:=g;exact (X*Y,Ua _ _,by rw[Ql];exact Qj b a)
def QN.add{D:Int}(a:0<D){M N:Nat}{x y:κ.F}(h:QN κ D M x)(g:QN κ D N y):QN κ D (M+N) (x+y):=by
 cases κ with
 |r p d=>exact trivial
 |q =>
  obtain ⟨X,rfl,c⟩:=h;obtain ⟨Y,rfl,b⟩:=g;refine (X+Y,?_,Q0 (Int.natAbs_add_le X Y)<|Nat.add_le_add c b);show Rat.divInt X D+Rat.divInt Y D=_;rw[Rat.divInt_add_divInt _ _ ⋯ ⋯,Wb (Int.ne_of_gt<|Wa a a) ⋯,<-Int.add_mul,Qx]
def QN.zero:QN κ D M 0:=by
 cases κ with
 |r p a=>exact trivial
 |q=>exact (0,(Rat.zero_divInt D).symm,Qg _)
def QN.b1{D:Int}(a:0<D)(e:D.natAbs<2^3000){M:Nat}(d:M<2^3000){x:κ.F}(h:QN κ D M x):B1 κ x:=by
 cases κ with
 |r p g=>exact trivial
 |q =>
  obtain ⟨X,rfl,f⟩:=h;obtain ⟨b,c⟩:=Zc9 X a;refine (?_,?_)
  ·show Bits 1000000 (Rat.divInt X D).num;exact Zjh c ((Bits.of (n:=3000)<|Q7 f d).up ∅)<|Zji X a
  ·show Bits 4000 ((Rat.divInt X D).den:Int);exact Zjh b ((Bits.of (n:=3000) e).up ∅)<|λz=>⋯
def qn_one{κ:KX}:QN κ 1 1 1:=by
 cases κ with
 |r p a=>exact trivial
 |q=>exact (1,rfl,Q4 _)
def Znr{κ:KX}:QN κ 12 108 1:=by
 cases κ with
 |r p a=>exact trivial
 |q=>exact (12,by show (1:Rat)=Rat.divInt 12 12;rfl,∅)
def ZtK{t b:Int}(a:1<=b)(h:b<=4)(c:t.natAbs<=9):QN .q 12 108 (Rat.divInt t b):=by
 rcases (by omega:b=1\/b=2\/b=3\/b=4) with rfl|rfl|rfl|rfl
 ·exact (t*12,by rw[Wb ∅ ∅];omega,⋯)
 ·exact (t*6,by rw[Wb ∅ ∅];omega,⋯)
 ·exact (t*4,by rw[Wb ∅ ∅];omega,⋯)
 ·exact (t*3,by rw[Wb ∅ ∅];omega,⋯)
noncomputable def pI(F G:ZZlk κ)(i:Nat):Nat->Nat->κ.F
 |0,_=>0
 |j+1,k=>pI F G i j k+(if i+j=k then F.getD i 0*G.getD j 0 else 0)
noncomputable def pO(F G:ZZlk κ):Nat->Nat->κ.F
 |0,_=>0
 |i+1,k=>pO F G i k+pI F G i G.length k
def add00{κ:KX}:(0:κ.F)+0=0:=by grind
def Zrn{F G:ZZlk κ}{D E:Int}(c:0<D*E)(f:∀x∈F,QN κ D M x)(g:∀x∈G,QN κ E N x)(i:Nat)(d:i<F.length):∀(j k:Nat),j<=G.length->QN κ (D*E) (j*(M*N)) (pI F G i j k)
 |0,k,_=>QN.zero
 |j+1,k,h=>by
  have l:=Zrn c f g i d j k ⋯;have e:(j+1)*(M*N)=j*(M*N)+M*N:=Uz _ _;rw[e];refine QN.add c l ?_
  split
  ·have a:F.getD i 0∈F:=by rw[Q2,Q6 d];exact Qu d
   have b:G.getD j 0∈G:=by rw[Q2,Q6 (show j<G.length by omega)];exact Qu _
   exact QN.mul (f _ a)<|g _ b
  ·exact QN.zero
def Zro{F G:ZZlk κ}{D E:Int}(a:0<D*E)(b:∀x∈F,QN κ D M x)(c:∀x∈G,QN κ E N x):∀(i k:Nat),i<=F.length->QN κ (D*E) (i*(G.length*(M*N))) (pO F G i k)
 |0,k,_=>QN.zero
 |i+1,k,h=>by
  have e:(i+1)*(G.length*(M*N))=i*(G.length*(M*N))+G.length*(M*N):=Uz _ _;rw[e];exact QN.add a (Zro a b c i k ⋯)<|Zrn a b c i ⋯ _ k<|Q4 _
def Zrp{F G:ZZlk κ}{i k:Nat}:∀ {j:Nat},i+j<=k->pI F G i j k=0
 |0,_=>rfl
 |j+1,h=>by
  show pI F G i j k+(if i+j=k then F.getD i 0*G.getD j 0 else 0)=0;rw[Zrp ⋯,if_neg ⋯];exact add00
def Zrq{F G:ZZlk κ}{k:Nat}:∀ {i:Nat},i+G.length<=k+1->pO F G i k=0
 |0,_=>rfl
 |i+1,h=>by
  show pO F G i k+pI F G i G.length k=0;rw[Zrq ⋯,Zrp ⋯];exact add00
def ZpF{F G:ZZlk κ}{k:Nat}(h:F.length+G.length<=k+1):pO F G F.length k=0:=Zrq h
def Mon(F:ZZlk κ):Prop:=1<=F.length/\F.getD (F.length-1) 0=1
end
def Zkl{p:Int}(h:p=2\/p=3\/p=5\/p=7\/p=11\/p=97):M2.Prm p:=by
 refine (⋯,λd c f b=>?_);have g:d<10:=by
  refine Uy λz=>?_;have:=M2.sq_mono (a:=10) ⋯ z;omega
 have e:=U9 b;have i:=M2.sq_mono (a:=2) ⋯ c;rcases (by omega:d=2\/d=3\/d=4\/d=5\/d=6\/d=7\/d=8\/d=9) with rfl|rfl|rfl|rfl|rfl|rfl|rfl|rfl <;> omega
def ZsY(c:Int):∃m:Int,atI [V.int 2,V.int 3,V.int 5,V.int 7,V.int 11,V.int 97] (c/3%6)=some (.int m)/\PK m:=by
 rcases (by omega:c/3%6=0\/c/3%6=1\/c/3%6=2\/c/3%6=3\/c/3%6=4\/c/3%6=5) with e|e|e|e|e|e <;> rw[e]
 ·exact (2,rfl,.inr (Zkl ⋯,∅))
 ·exact (3,rfl,.inr (Zkl ⋯,∅))
 ·exact (5,rfl,.inr (Zkl ⋯,∅))
 ·exact (7,rfl,.inr (Zkl ⋯,∅))
 ·exact (11,rfl,.inr (Zkl ⋯,∅))
 ·exact (97,rfl,.inr (Zkl ⋯,∅))
inductive ZdS (vs:List V) (H:Hp) (Q:VK) (zE:XK):Prop
 |mk (n:Int) (_:vs=[.int n]) (_:2<=n) (_:n<=999983) (_:∀p:Int,PK p->Q (.int p) H):ZdS vs H Q zE
inductive ZcH (vs:List V) (H:Hp) (Q:VK) (zE:XK):Prop
 |mk (c:Int) (_:vs=[.int c]) (_:∀(H':Hp) (p:Int),Same H H'->PK p->Q (.int p) H'):ZcH vs H Q zE
inductive Zez (vs:List V) (H:Hp) (Q:VK) (zE:XK):Prop
 |mk (κ:KX) (t:Int) (x:κ.F) (_:vs=[.int κ.P,.int t]) (_:NumV κ t x) (_:∀H' v,Same H H'->NR κ H' v x->Q v H'):Zez vs H Q zE
inductive Zde (vs:List V) (H:Hp) (Q:VK) (zE:XK):Prop
 |mk (κ:KX) (u:V) (x:κ.F) (_:vs=[.int κ.P,u]) (_:NR κ H u x) (_:Q (.bl true) H):Zde vs H Q zE
def Zoq[Decidable p]{Q:V->Hp->Prop}{H:Hp}(h:p)(k:Q (.bl true) H):Q (.bl<|decide p) H:=by rw[decide_eq_true h];exact k
inductive ZcI (vs:List V) (H:Hp) (Q:VK) (zE:XK):Prop
 |mk (κ:KX) (a:Addr) (xs:List V) (f:ZZlk κ) (_:vs=[.int κ.P,.ref a,.int (f.length:Int)]) (_:H a=some (.lst xs)) (_:AllG (NR κ H) xs f) (_:Q (.bl true) H):ZcI vs H Q zE
def ZgU(K:ZZfg):PySem.W.kitOne K (.type "int") (.type "tuple")=some false:=Zcu K ‹4› ‹4› ‹4›
def ZeL(K:ZZfg):PySem.W.kitOne K (.type "int") (.type "list")=some false:=Zcu K ‹4› ‹4› ‹4›
def ZfV(K:ZZfg):PySem.W.kitOne K (.type "tuple") (.type "list")=some false:=Zcu K ‹4› ‹4› ‹4›
def ZfW(K:ZZfg):PySem.W.kitOne K (.type "list") (.type "tuple")=some false:=Zcu K ‹4› ‹4› ‹4›
def spF:Sp:=λ_ _ _ _=>False
def Zdf{κ:KX}{l:ZZlk κ}{i:Nat}(h:i<l.length):l[i]?=some (l.getD i 0):=by
 rw[Q2,Q6 h];rfl
inductive ZdT (vs:List V) (H:Hp) (Q:VK) (zE:XK):Prop
 |mk (κ:KX) (c:Int) (_:vs=[.int κ.P,.int c]) (_:∀H' v (x:κ.F),Same H H'->NR κ H' v x->QN κ 12 108 x->Q v H'):ZdT vs H Q zE
noncomputable abbrev Km1(κ:KX):κ.F:=0-1
def Zrr{κ:KX}:NumV κ (-1) (Km1 κ):=by
  cases κ with
  | q =>
    show Rat.num (0-1:Rat) = -1/\Rat.den (0-1:Rat)=1;have e:(0-1:Rat) = -1:=by grind
    rw[e]; exact (rfl,rfl)
  | r p h=>exact (∅,by
      show ((Fin.val (Km1<|.r p h):Nat):Int)=_;have a:=h.two;have e:Fin.val (Km1<|.r p h)=(p-Fin.val (K1<|.r p h)+Fin.val (K0<|.r p h))%p:=rfl;rw[e,ZgL,ZeX,Nat.add_zero,Nat.mod_eq_of_lt ⋯];have:(-1:Int)%p=(p:Int)-1:=by
        rw[<-Int.add_emod_right,Uk ⋯ ⋯]; omega
      rw[this]; omega)
def Zns{κ:KX}(x:κ.F):Km1 κ*x=0-x:=by grind
def ZsZ{κ:KX}:B1 κ (Km1 κ):=Zlt<|(qn_one (κ:=κ)).b1 ∅ ∅ ∅
section
variable{κ:KX}
noncomputable def ZfL(f g:ZZlk κ):Nat->κ.F
 |0=>0
 |k+1=>ZfL f g k+f.getD k 0*g.getD k 0
noncomputable def Zh7(f g:ZZlk κ):κ.F:=ZfL f g f.length
def ZlL{f g:ZZlk κ}{i:Nat}{x y:κ.F}(a:f[i]?=some x)(b:g[i]?=some y):ZfL f g (i+1)=ZfL f g i+x*y:=by
 show ZfL f g i+f.getD i 0*g.getD i 0=_;rw[Q2,Q2,a,b];rfl
def ZgV{D E:Int}{f g:ZZlk κ}(c:0<D*E)(e:∀x∈f,QN κ D M x)(d:∀x∈g,QN κ E N x):∀k,k<=f.length->k<=g.length->QN κ (D*E) (k*(M*N)) (ZfL f g k)
 |0,_,_=>QN.zero
 |k+1,h1,h2=>by
  rw[Uz];have a:f.getD k 0∈f:=by rw[Q2,Q6 (show k<f.length by omega)];exact Qu _
  have b:g.getD k 0∈g:=by rw[Q2,Q6 (show k<g.length by omega)];exact Qu _
  exact QN.add c (ZgV c e d k ⋯ ⋯)<|QN.mul (e _ a)<|d _ b
end
def Zjq{x:Rat}{A:Int}(b:0<A)(h:(x.den:Int) ∣ A):x=Rat.divInt (x.num*(A/x.den)) A:=by
 have a:=(Zbf x).pos;obtain ⟨c,rfl⟩:=h;rw[Int.mul_ediv_cancel_left c ⋯];have:Rat.divInt x.num x.den=Rat.divInt (x.num*c) (x.den*c):=by
  rw[Wb ⋯ ⋯];rw[Qx,W1 c]
 rw[<-this,Qy]
def ZiF{X Y D:Int}(a:0<D):Rat.divInt X D+Rat.divInt Y D=Rat.divInt (X+Y) D:=by
 rw[Rat.divInt_add_divInt _ _ ⋯ ⋯,Wb (Int.ne_of_gt<|Wa a a) ⋯,<-Int.add_mul,Qx]
def tS(f g:List Rat)(A C:Int):Nat->Int
 |0=>0
 |k+1=>tS f g A C k+(f.getD k 0).num*(A/(f.getD k 0).den)*(g.getD k 0).num*(C/(g.getD k 0).den)
def Zor{f g:List Rat}{A C:Int}(c:0<A)(d:0<C)(h:∀x∈f,(x.den:Int) ∣ A)(e:∀x∈g,(x.den:Int) ∣ C):∀k,k<=f.length->k<=g.length->Rat.divInt (tS f g A C k) (A*C)=ZfL (κ:=.q) f g k
 |0,_,_=>Rat.zero_divInt _
 |k+1,h1,h2=>by
  have a:f.getD k 0∈f:=by rw[Q2,Q6 (show k<f.length by omega)];exact Qu _
  have b:g.getD k 0∈g:=by rw[Q2,Q6 (show k<g.length by omega)];exact Qu _
  have j:=Zor c d h e k ⋯ ⋯;have i:=Zjq c<|h _ a;have m:=Zjq d<|e _ b;have l:(f.getD k 0)*(g.getD k 0)=Rat.divInt ((f.getD k 0).num*(A/(f.getD k 0).den)*(g.getD k 0).num*(C/(g.getD k 0).den)) (A*C):=by
   conv=>lhs;rw[i,m]
   rw[Ua,<-Qx]
  show Rat.divInt (tS f g A C k+_) (A*C)=ZfL (κ:=.q) f g k+(f.getD k 0:Rat)*(g.getD k 0:Rat);rw[<-ZiF (Wa c d),j,l]
def W60(f:List Rat):Prop:=∀x∈f,x.num.natAbs<=10^500/\x.den<=10^200
inductive Zb9 (vs:List V) (H:Hp) (Q:VK) (zE:XK):Prop
 |mk (s:Addr) (t b:Int) (_:vs=[.ref s,.int t,.int b]) (_:0<b) (_:b.natAbs<=10^1000) (_:∀(r:Addr) (x y:Int),H r=none->Fc x y->x*b=t*y->Q (.ref r) (upd H r (.tup [.int x,.int y]))):Zb9 vs H Q zE
inductive ZgW (CF:Addr) (vs:List V) (H:Hp) (Q:VK) (zE:XK):Prop
 |mk (s r1 r2:Addr) (xs ys:List V) (f g:List Rat) (B C:Int) (_:vs=[.ref s,.ref r1,.ref r2]) (_:FrA CF H s) (_:H r1=some (.lst xs)) (_:H r2=some (.lst ys)) (_:AllG (NR .q H) xs f) (_:AllG (NR .q H) ys g) (_:f.length=g.length) (_:f.length<=100) (_:W60 f) (_:W60 g) (_:0<B) (_:B.natAbs<=10^200) (_:(∀x∈f,((Rat.den x:Nat):Int) ∣ B)) (_:0<C) (_:C.natAbs<=10^200) (_:(∀x∈g,((Rat.den x:Nat):Int) ∣ C)) (_:∀H' v,Same H H'->NR .q H' v (Zh7 (κ:=.q) f g)->Q v H'):ZgW CF vs H Q zE
inductive ZgX (CR:Addr) (vs:List V) (H:Hp) (Q:VK) (zE:XK):Prop
 |mk (p:Nat) (hp:PrN p) (s r1 r2:Addr) (xs ys:List V) (f g:List (KX.r p hp).F) (_:vs=[.ref s,.ref r1,.ref r2]) (_:ReA CR p H s) (_:H r1=some (.lst xs)) (_:H r2=some (.lst ys)) (_:AllG (NR (.r p hp) H) xs f) (_:AllG (NR (.r p hp) H) ys g) (_:f.length=g.length) (_:f.length<=100) (_:∀H' v,Same H H'->NR (.r p hp) H' v (Zh7 f g)->Q v H'):ZgX CR vs H Q zE
def ZlM(P:Program)(w:World)(K:ZZfg)(mg:ZZmg)(base:Heap)(m CR:Addr):Prop :=
 ∀(a:KX) (H:Hp) (s:Addr),KdX m CR a H s->∃C n e o d l,H s=some (.ins C n e)/\Cls K C/\HasM P w K mg base C "sum_of_products" 3 o d l/\e.lookup ("sum_of_products":Str)=none/\d=[] ∧
  ∀(c:Hp) (i j:Addr) (k h:List V) (f g:ZZlk a) (D E M N:Nat) (Q:VK),Same H c->c i=some (.lst k)->c j=some (.lst h)->AllG (NR a c) k f->AllG (NR a c) h g->f.length=g.length->f.length<=100->(∀x∈f,QN a (D:Int) M x)->(∀x∈g,QN a (E:Int) N x)->0<D->D<=10^200->0<E->E<=10^200->M<=10^500->N<=10^500->(∀b v,Same c b->NR a b v (Zh7 f g)->Q v b)->l [.ref s,.ref i,.ref j] c Q E0
def Zos{D M:Nat}(j:0<D)(i:D<=10^200)(g:M<=10^500){f:List Rat}(h:∀x∈f,QN .q (D:Int) M x):W60 f/\∀x∈f,((Rat.den x:Nat):Int) ∣ (D:Int):=by
 refine (λx a=>?_,λx a=>?_)
 ·obtain ⟨X,e,c⟩:=h x a;have e:x=Rat.divInt X D:=e;obtain ⟨b,d⟩:=Zc9 X (show (0:Int)<(D:Int) by omega);rw[<-e] at b d;refine (?_,?_)
  ·by_cases z:X=0
   ·have:=Zji X (show (0:Int)<(D:Int) by omega) z;rw[<-e] at this;rw[this];exact Qg _
   ·exact Q0 (Zbd d z) (Q0 c g)
  ·have:=Zbd b (show (D:Int)≠0 by omega);rw[Qo,Qo] at this;omega
 ·obtain ⟨X,e,c⟩:=h x a;have e:x=Rat.divInt X D:=e;rw[e];exact (Zc9 X (show (0:Int)<(D:Int) by omega)).1
def Zea{n i:Nat}(h:n<=10^i)(a:i<=1000:=by decide):n<=10^1000:=Q0 h<|Q5 ∅ a
def Zdr{n i:Nat}(h:n<=10^i)(a:i<=2000:=by decide):n<=10^2000:=Q0 h<|Q5 ∅ a
def Zot:10^2000<2^8000:=by decide +kernel
def ZpG{i j:Int}(h:i.natAbs<=10^2000)(h':j.natAbs<=10^2000):IntMulOk i j :=
 .of_bits (Q0 (ZdG (n:=8000)<|Q7 h Zot) ∅) (Q0 (ZdG (n:=8000)<|Q7 h' Zot) ∅)
def Zs0{a b:Int}{i j:Nat}(d:a.natAbs<=10^i)(c:b.natAbs<=10^j):(a*b).natAbs<=10^(i+j):=by
 rw[Ql,W4];exact Qj d c
def Zou{A b:Int}:(A/b).natAbs<=A.natAbs:=Int.natAbs_ediv_le_natAbs A b
end My
namespace Zp
open My
open PySem L2 PyProof.Rows
variable{Z:Zc}{X:Cx}
section
variable{x y m:Str}{pos p2 p3 p4 apos:Pos}{a b c e elt it tg o:Expr}{es:List Expr}{ta tb tc te:ZE}{t ti:ZA}{scope:Scope}{caps:List (Nat×Str)}
abbrev zR3(ta tb tc:ZE):ZA:=λd Q=>ta d λp=>tb d λq=>tc d λr=>Zf7 p λi=>Zf7 q λj=>Zf7 r λc=>c = -1/\(-(2^62)<=i/\i<2^62 /\ -(2^62)<=j/\j<2^62)/\Q (dnP i (i-j).toNat)
def Zs1{p:Pos}(S:X.mg "range"=none) (w:QE Z X a ta) (z:QE Z X b tb) (A:QE Z X c tc) (T:Gl X "range":= by rfl) (D:starEach [a,b,c] X.env=[(false,eval a X.env),(false,eval b X.env),(false,eval c X.env)]:=by rfl) (h:starEach [b,c] X.env=[(false,eval b X.env),(false,eval c X.env)]:=by rfl) (r:starEach [c] X.env=[(false,eval c X.env)]:=by rfl):QI Z X tg (.Call (.Name "range" p) [a,b,c] [] pos) (zR3 ta tb tc) :=
 (λg _ _ f q=>w.mo g _ _ (λp k=>z.mo g _ _ (λ_ k=>A.mo g _ _ (λ_ k=>Zbx (λ_ k=>Zbx (λ_ k=>Zbx (λ_ k=>(k.1,k.2.1,f _ k.2.2)) k) k) k) k) k) q,λC B=>Zkg (ZlJ T S (Zaa (w.ok C B) (Zaa (z.ok C B) (Zaa (A.ok C B) Zaf r) (by rw[h,r])) (by rw[D,h])) D h) λW H R ⟨O,g,s,q⟩=>(O,g,s,w.mo g _ _ (λp k v H1 u G=>(O,g,s.same u,z.mo g _ _ (λp' k v' H2 S2 I=>(O,g,s.same<|ZaH u S2,A.mo g _ _ (λp3 k v3 U K Q=>by
  obtain ⟨i,rfl,L⟩:=Zbe k;obtain ⟨j,rfl,E⟩:=Zbe L;obtain ⟨d,rfl,rfl,J,F⟩:=Zbe E;refine (i,j,by rw[Zax G,Zax I,Zax Q],J,F _ U (ZaH u<|ZaH S2 K) λY H4 _ _ n=>(λe=>by rw[ZiC] at e;exact Wo e.symm,λp N=>?_));obtain ⟨l,rfl⟩:=ZlE N;refine (l,λx H' ⟨P,M⟩=>?_);subst P M;exact (ZaT,rep_i)) k)) k)) q))
def ZlN{p B:Pos}{g:Pos}(j:X.mg "list"=none) (D:X.mg "reversed"=none) (h:QE Z X e te) (n:Gl X "list":= by rfl) (E:Gl X "reversed":= by rfl) (d:X.calm=true:=by rfl) (w:starEach [e] X.env=[(false,eval e X.env)]:=by rfl) (u:starEach [.Call (.Name "reversed" p) [e] [] pos] X.env=[(false,eval (.Call (.Name "reversed" p) [e] [] pos) X.env)]:=by rfl):QL Z X (.Call (.Name "list" B) [.Call (.Name "reversed" p) [e] [] pos] [] g) (ZtJ te) :=
 (λi _ _ f q=>h.mo i _ _ (λp k=>ZgP (λ_=>f _) k) q,λG F=>Zbi (Zkk n j E D d (Zaa (h.ok G F) Zaf w) w u) λJ H Q ⟨O,i,s,q⟩=>(O,i,s,h.mo i _ _ (λp k v K I C=>by
  obtain ⟨l,rfl,k⟩:=Zd7 k;obtain ⟨a,A,rfl,z,r⟩:=Za0 C;exact (a,A,rfl,.of<|Zaw _ _ z,nw I k r.reverse)) q))
abbrev zPr(p:PV)(f:PV->PV->Prop):Prop:=match p with
 | .tup [a,b]=>f a b
 |_=>False
def ZpH(h:zPr p f):∃a b,p = .tup [a,b]/\f a b:=by
 unfold zPr at h
 split at h
 ·exact (_,_,rfl,h)
 ·exact h.elim
abbrev Zs2(caps:List (Nat×Str))(ti:ZA)(te:ZE):ZA:=λd Q=>ti d λl=>Comp l (λp C=>zPr p λa b=>te (some (.val a)::some (.val b)::cap caps d) C) Q
def Zpp{u v:V}{d:List (Option V)}:∀(i:Nat) w,((none:Option V)::none::d)[i]?=some (some w)->(some u::some v::d)[i]?=some (some w)
 |0,_,h=>by simp at h
 |1,_,h=>by simp at h
 |i+2,_,h=>by simpa using h
def ZlO{K:ZZfg}(B:Mo ti)(w:Mo te)(j:L2.St)(H:Hp)(Q:VK)(h:liL Z i g (Zs2 caps ti te) j H Q):ZjX 2 caps (liI Z i g ti) (Zo1 K 2<|ZfM (Zdv 0)<|ZfM (Zdv 1) Zqx) (liE Z i g te) j H Q:=by
 obtain ⟨O,z,s,q⟩:=h;refine (O,z,s,B z _ _ (λl k J L n A=>ZlC s n A w k λp v M C N S2 r f D=>?_) q);obtain ⟨a,b,rfl,f⟩:=ZpH f;obtain ⟨d,I,rfl,F,r⟩:=Zfx r;obtain ⟨u,v,rfl,E,G⟩:=r.two;exact (d,[u,v],rfl,.of<|Zaw _ _ F,rfl,u,[v],rfl,v,[],rfl,rfl,Zpp,O,_,s.cap (ZaH n S2) caps (vs:=[u,v]) (ps:=[a,b])<|.cons E<|.cons G .nil,w _ _ _ D f)
def Zs3(x y:Str)(caps:List (Nat×Str)){k0:Nat}(v:QI Z X (.Tuple [.Name x p2,.Name y p3] k0 p4) it ti)(E:∀h d g C,QE Z (ZaN X scope (x::y::caps.map (·.2)) d g C h) elt te)(u:CapsOk X scope caps:=by repeat (first | exact trivial | refine And.intro (rfl,rfl,by first | exact .inl rfl | exact .inr rfl) ?_))(D:X.calm=true:=by rfl)
    (s:(x::y::caps.map (·.2)).Nodup:=by decide +kernel)
    (w:(scope.names.all λy=>!(y.2==NameKind.free)||(X.env.cells.lookup y.1).isSome)=true:=by rfl)
    (r:scope.kind = .function:=by rfl) (p:∀y∈scope.names,y.2 ≠ .cell:=by decide +kernel)
    (j:∀y∈scope.names,y.2 = .local->scope.names.lookup y.1=some .local:=by decide +kernel) (J:∀x,foldedSetIterable it X.env x=pure x:=by intro _; rfl)
    (K:∀h d g C,Loc (ZaN X scope (x::y::caps.map (·.2)) d g C h).env.scope x/\(ZaN X scope (x::y::caps.map (·.2)) d g C h).env.scope.names.lookup x=some .local/\Loc (ZaN X scope (x::y::caps.map (·.2)) d g C h).env.scope y/\(ZaN X scope (x::y::caps.map (·.2)) d g C h).env.scope.names.lookup y=some .local:=by exact λ_ _ _ _=>(.inl rfl,rfl,.inl rfl,rfl)) :
    QL Z X (.ListComp elt [(.Tuple [.Name x p2,.Name y p3] k0 p4,it,[],0)] scope pos) (Zs2 caps ti te):=by
  have I:∀h d g C,PG (ZaN X scope (x::y::caps.map (·.2)) d g C h) (.Tuple [.Name x p2,.Name y p3] k0 p4) (Zo1 X.K 2<|ZfM (Zdv 0)<|ZfM (Zdv 1) Zqx):=λh d g C=>let ⟨l1,l2,l3,l4⟩:=K h d g C; Zho (n:=2) D (ZbH (ZaL (i:=0) s rfl l1<|.inr l2)<|ZbH (ZaL (i:=1) s rfl l3<|.inr l4) Ze1);have L:Mo te:=(E [] X.s₀ X.H₀ 0).mo;exact (λH A B f q=>v.mo H _ _ (λl k=>k.mo (λ_ _ z=>z) f) q,λG F=>Zbi (Zef [x,y] caps D (v.ok G F) I (λh d g C=>(E h d g C).ok G F) u w r p j J)<|ZlO v.mo L)
abbrev zUn(te:ZE):ZE:=λd Q=>te d λp=>match p with
 | .kp κ=>Q<|.kd κ
 |_=>False
def Zqq(A:NoAttr X.K Z.p "under") (w:Cls X.K Z.p) (h:QE Z X e te) (l:attributeBase e "under" X.env (eval e X.env)=eval e X.env:=by rfl):QE Z X (.Attribute e "under" pos) (zUn te) :=
 (λg _ _ f q=>h.mo g _ _ (λp k=>by
  split at k
  ·exact f _ k
  ·exact k.elim) q,λz u=>Zbi (ZeE (h.ok z u) l) λD H Q ⟨O,g,s,q⟩=>(O,g,s,h.mo g _ _ (λp k v B C i=>by
  split at k
  ·unfold Rep at i;obtain ⟨a,r,d,rfl,n,j⟩:=i;exact (a,Z.p,r,_,.ref d,rfl,Zaw _ _ n,w,A,rfl,k _ B C (by unfold Rep;exact (d,rfl,j)))
  ·exact k.elim) q))
end
section
variable{x y:Str}{pos p2 p3 p4:Pos}{e elt it:Expr}{te:ZE}{ti:ZA}{scope:Scope}
def Znt{z:Str}(i:Nat)(x y:Str)(caps:List (Nat×Str)){k0:Nat}{h A:Pos}(I:X.N.Nodup)(r:QI Z X (.Tuple [.Name x p2,.Name y p3] k0 p4) it ti)(E:∀d b c C,QE Z (ZaN X scope (x::y::caps.map (·.2)) b c C d) elt te)(W:X.N[i]?=some z:=by rfl)(v:X.env.scope.names.lookup z=some .local:=by rfl)(p:CapsOk X scope caps:=by repeat (first | exact trivial | refine And.intro (rfl,rfl,by first | exact .inl rfl | exact .inr rfl) ?_))(B:X.calm=true:=by rfl)
    (o:(x::y::caps.map (·.2)).Nodup:=by decide +kernel)
    (w:(scope.names.all λy=>!(y.2==NameKind.free)||(X.env.cells.lookup y.1).isSome)=true:=by rfl)
    (u:swapsWith (.ListComp elt [(.Tuple [.Name x p2,.Name y p3] k0 p4,it,[],0)] scope pos) (some<|.Name z A) h.line X.env=pure true:=by rfl)
    (j:scope.kind = .function:=by rfl) (m:∀y∈scope.names,y.2 ≠ .cell:=by decide +kernel)
    (f:∀y∈scope.names,y.2 = .local->scope.names.lookup y.1=some .local:=by decide +kernel) (M:∀x,foldedSetIterable it X.env x=pure x:=by intro _; rfl)
    (N:∀d b c C,Loc (ZaN X scope (x::y::caps.map (·.2)) b c C d).env.scope x/\(ZaN X scope (x::y::caps.map (·.2)) b c C d).env.scope.names.lookup x=some .local/\Loc (ZaN X scope (x::y::caps.map (·.2)) b c C d).env.scope y/\(ZaN X scope (x::y::caps.map (·.2)) b c C d).env.scope.names.lookup y=some .local:=by exact λ_ _ _ _=>(.inl rfl,rfl,.inl rfl,rfl)) :
    QS Z X (.Assign [.Name z A] (.ListComp elt [(.Tuple [.Name x p2,.Name y p3] k0 p4,it,[],0)] scope pos) h) (Znn i<|Zs2 caps ti te):=by
  have S:∀d b c C,PG (ZaN X scope (x::y::caps.map (·.2)) b c C d) (.Tuple [.Name x p2,.Name y p3] k0 p4) (Zo1 X.K 2<|ZfM (Zdv 0)<|ZfM (Zdv 1) Zqx):=λd b c C=>let ⟨l1,l2,l3,l4⟩:=N d b c C; Zho (n:=2) B (ZbH (ZaL (i:=0) o rfl l1<|.inr l2)<|ZbH (ZaL (i:=1) o rfl l3<|.inr l4) Ze1);have T:Mo te:=(E [] X.s₀ X.H₀ 0).mo;refine (λD D' t l q=>r.mo t _ _ (λL k=>k.mo (λ_ _ z=>z) λ_=>l.nx _) q,λG F=>ZcU (Zf4 [x,y] caps I W v B (r.ok G F) S (λd b c C=>(E d b c C).ok G F) p w u j m f M) λD J H ⟨O,t,s,q⟩=>ZlO r.mo T J H _ (O,t,s,r.mo t _ _ (λL k=>k.mo (λ_ _ z=>z) λl k a Y P Q n g K=>?_) q));obtain ⟨U,R⟩:=s.own Q (i:=i) n g K;exact k _ _ P U R
end
def Zuw(p:PV)(A B:Prop)(f:A->B)(h:zKp p A):zKp p B:=by cases p <;> first|exact f h|exact h
def Zs4(p:PV)(A:Prop)(h:zKp p A):A:=by cases p <;> first|exact h|exact h.elim
section
variable{P:Program}{w:World}{K:ZZfg}{mg:ZZmg}{base:Heap}
def ZpI(o:Cls K Z.p)(g:MoF S)(h:HasMX P w K mg base Z.p m k ps [] (liF Z S))(n:(m==("under":Str))=false:=by decide):Mt P w K mg base Z zKp m k S :=
 (g,Zuw,Zs4,λp x H O r j=>by
  cases p <;> try exact j.elim
  unfold Rep at r;obtain ⟨a,c,d,rfl,b,f⟩:=r;refine (a,Z.p,c,_,ps,[],_,rfl,Zaw _ _ b,o,h,?_,λu t s Q e i l q=>?_)
  ·rw[W9,n];rfl
  ·rw[Wp];refine (O,_,i,.cons ?_ l,q);unfold Rep;exact (a,c,d,rfl,Zan e _ _ b,f.same<|Zan e))
def ZlP{N ps:List Str}{S:ZF}{t:ZS}(o:HereM K Z.p m c e)(b:∀f i,Fun K m c e f i->Binds K i ps [])(j:FnScope N ps (Zab e))(g:∀vs Q,S vs Q->vs.length=ps.length)
    (body:∀(f:Addr) (d:Value) (A:Around) (a:List Env) (s:Shared) (H:Hp) (E:XK),Room k (A.deeper<|envOfC c (Zab e) s.heap.objs.size f d)->QSs Z (cxX P w K mg base N c (Zab e) f d A a s H E) (ZaW e) t)
    (p:ps.length<=N.length) (n:∀vs Q,S vs Q->t (λ_=>Q .non,Q,λ_=>False,λ_=>False) (ini N vs)):HasMX P w K mg base Z.p m (k+1) ps [] (liF Z S) :=
  o.hasMX b λf i F=>F.okx j (λvs H Q E h=>by
    obtain ⟨O,pv,l,r,q⟩:=h;rw[r.len]; exact g _ _ q) λd A a s H vs Q E u h=>ZgS g (body f d A a s H E u) p n h
end
inductive Nx (D:ZD) (ρ:PSt) (i:Nat):PV->Prop
 |mk {a:Int} (b:Int) (e:a=b) (h:D.nx (sset ρ i (some (.val (.int b))))):Nx D ρ i (.int a)
def Nx.ok{D:ZD}(h:Nx D ρ i p):D.nx (sset ρ i<|some<|.val p):=by
 obtain ⟨b,e,h⟩:=h;rw[e];exact h
abbrev Zs5(i:Nat)(te:ZE):ZS:=λD a=>te a λp=>Nx D a i p
def ZlQ{x:Str}{p2 a:Pos}(i:Nat)(d:X.N.Nodup)(h:QE Z X e te)(j:X.N[i]?=some x:=by rfl)(m:Loc X.env.scope x:=by first|exact .inl rfl|exact .inr rfl)(n:swapsWith e (some<|.Name x p2) a.line X.env=pure false:=by rfl)(f:X.fn x=true\/X.env.scope.names.lookup x=some .local:=by first|exact .inl rfl|exact .inr rfl|assumption):QS Z X (.Assign [.Name x p2] e a) (Zs5 i te) :=
 have g:=Zat i d h j m n f
 (λD u c l q=>h.mo c _ _ (λp ⟨b,e,k⟩=>(b,e,l.nx _ k)) q,λr o=>ZcU (g.ok r o) λD t H ⟨O,c,s,q⟩=>(O,c,s,h.mo c _ _ (λp k=>k.ok) q))
inductive CompI (l:List PV) (f:PV->PK'->Prop) (Q:List PV->Prop):Prop
 |mk (Pv:Nat->List PV->Prop) (hz:l.length<=1000) (h0:Pv 0 []) (hs:∀(i:Nat) p r,l[i]?=some p->r.length=i->Pv i r->f p λv=>Pv (i+1) (r++[v])) (q:∀r,r.length=l.length->Pv l.length r->Q r):CompI l f Q
def CompI.mo{A B:List PV->Prop}(k:∀r,A r->B r)(c:CompI l f A):CompI l f B:=let ⟨Pv,h1,h2,h3,h4⟩:=c;(Pv,h1,h2,h3,λr a b=>k _<|h4 r a b)
section
variable{x:Str}{pos p2:Pos}{elt it:Expr}{te:ZE}{ti:ZA}{scope:Scope}{caps:List (Nat×Str)}
abbrev ZtL(caps:List (Nat×Str))(ti:ZA)(te:ZE):ZA:=λa Q=>ti a λl=>CompI l (λp=>te (some (.val p)::cap caps a)) Q
def ZpJ{t:ZZla}(K:Mo ti)(S:Mo te)(w:L2.St)(H:Hp)(Q:VK)(h:liL Z u t (ZtL caps ti te) w H Q):ZjX 1 caps (liI Z u t ti) (Zdv 0) (liE Z u t te) w H Q:=by
 obtain ⟨O,A,s,q⟩:=h;refine (O,A,s,K A _ _ (λl c J z o C=>?_) q);obtain ⟨B,E,P,L,q⟩:=c;refine (λi m d g=>m=l.length-i/\i<=l.length/\Same z g/\∃r,r.length=i/\B i r/\Reps Z (hide O g) r d,(_,rfl,Qg _,ZaT,[],rfl,P,.nil),?_);rintro i m d g ⟨rfl,hi,a,r,f,pv,j⟩;have ly:d.length=i:=by rw[j.len,f]
 have Y:=Zba E;obtain ⟨F,N⟩:=C O g (Zan a) ((s.ls.same o).same a) i;refine (⋯,?_)
 by_cases e:i=l.length
 ·refine .inl (F e,nw (ZaH o a) (q r (by rw[f,e]) (by rw[<-e];exact pv)) j)
 ·have n:i<l.length:=⋯;obtain ⟨D,U⟩:=N l[i]<|Q6 n;refine .inr (D,⋯,λv b=>Same z b/\∃r,r.length=i+1/\B (i+1) r/\Reps Z (hide O b) r (d++[v]),λv b ⟨R,M⟩=>(l.length-(i+1),⋯,rfl,n,R,M),λx W T=>?_);obtain ⟨S2,I⟩:=U x W T;refine (ZmW,O,_,s.cap (ZaH o<|ZaH a S2) caps (vs:=[x]) (ps:=[l[i]])<|.cons I .nil,S _ _ _ (λp k v b y G=>(ZaH a<|ZaH S2 y,r++[p],by rw[Qi,f];rfl,k,(j.h<|ZaH S2 y).append<|.cons G .nil))<|L i _ r (Q6 n) f pv)
def Zrs(x:Str)(caps:List (Nat×Str))(j:QI Z X (.Name x p2) it ti)(o:∀d b a C,QE Z (ZaN X scope (x::caps.map (·.2)) b a C d) elt te)(h:CapsOk X scope caps:=by repeat (first | exact trivial | refine And.intro (rfl,rfl,by first | exact .inl rfl | exact .inr rfl) ?_))(t:X.calm=true:=by rfl)
    (m:(x::caps.map (·.2)).Nodup:=by decide +kernel)
    (n:(scope.names.all λy=>!(y.2==NameKind.free)||(X.env.cells.lookup y.1).isSome)=true:=by rfl)
    (g:scope.kind = .function:=by rfl) (e:∀y∈scope.names,y.2 ≠ .cell:=by decide +kernel)
    (c:∀y∈scope.names,y.2 = .local->scope.names.lookup y.1=some .local:=by decide +kernel) (v:∀x,foldedSetIterable it X.env x=pure x:=by intro _; rfl)
    (p:∀d b a C,Loc (ZaN X scope (x::caps.map (·.2)) b a C d).env.scope x/\(ZaN X scope (x::caps.map (·.2)) b a C d).env.scope.names.lookup x=some .local:=by exact λ_ _ _ _=>(.inl rfl,rfl)) :
    QL Z X (.ListComp elt [(.Name x p2,it,[],0)] scope pos) (ZtL caps ti te):=by
  have w:Mo te:=(o [] X.s₀ X.H₀ 0).mo;exact (λu A B f q=>j.mo u _ _ (λl k=>k.mo f) q,λs r=>Zbi (Zef [x] caps t (j.ok s r) (λd b a C=>ZaL (i:=0) m rfl (p d b a C).1<|.inr (p d b a C).2) (λd b a C=>(o d b a C).ok s r) h n g e c v)<|ZpJ j.mo w)
end
def ZhQ:∀ {ρ:PSt} {i:Nat} {s:Option Sl},i<ρ.length->sget (sset ρ i s) i=s
 |_::_,0,_,_=>rfl
 |_::ρ,i+1,_,h=>ZhQ (ρ:=ρ) (i:=i)<|Nat.lt_of_succ_lt_succ h
def ZgY:∀ {ρ:PSt} {i:Nat} {s:Option Sl},ρ.length<=i->sset ρ i s=ρ
 | [],_,_,_=>rfl
 |a::ρ,i+1,_,h=>congrArg (a :: ·)<|ZgY (ρ:=ρ) (i:=i)<|Nat.le_of_succ_le_succ h
def Zf9:∀ {ρ:PSt} {i:Nat} {s t:Option Sl},sset (sset ρ i s) i t=sset ρ i t
 | [],_,_,_=>rfl
 |_::_,0,_,_=>rfl
 |a::ρ,i+1,_,_=>congrArg (a :: ·)<|Zf9 (ρ:=ρ) (i:=i)
def Zrt{t:ZA}(m:Mo t)(h:QS Z X g (Znn i t)):QS Z X g (ZsU i<|ZsL t) :=
 (λD v a l q=>m a _ _ (λ_=>l.nx _) q,λj f=>ZcU (h.ok j f) λD u H ⟨O,a,s,q⟩=>(O,a,s,m a _ _ (λl k p b o c d=>by
  by_cases e:i<a.length
  ·obtain ⟨r,n,S2⟩:=c.free<|ZhQ e;rw[Zf9] at n;exact k r b o n<|ZaH d S2
  ·rw[ZgY<|Wu e] at c;have k:dnN Z j f O H D.nx (sset a i<|some<|.val<|.lst l):=k;rw[ZgY<|Wu e] at k;exact k p b o c d) q))
abbrev zEx(te:ZE):ZS:=λD a=>te a λ_=>D.nx a
def Zs6{a:Pos}(h:QE Z X e te)(f:swapsWith e none a.line X.env=pure false:=by rfl):QS Z X (.Expr e a) (zEx te) :=
 (λD m b l q=>h.mo b _ _ (λ_ k=>l.nx _ k) q,λi g=>ZcU (Zbm (h.ok i g) f) λD d H ⟨O,b,s,q⟩=>(O,b,s,h.mo b _ _ (λ_ k v j c _=>k O d j (s.same c)<|Zan c) q))
abbrev Zs7(i:Nat)(te:ZE):ZS:=λD c=>zV i c λp=>te c λq=>Zf7 p λa=>Zf7 q λb=>IntMulOk a b/\D.nx (sset c i<|some<|.val<|.int<|a*b)
def ZpK(i:Nat){x:Str}{p2 b:Pos}{e:Expr}{te:ZE}{t:TIp}(F:PIp X .Mult t)(C:∀x y H Q,(∃i j,x = .int i/\y = .int j/\IntMulOk i j/\Q (.int<|i*j) H)->t x y H Q)(g:X.N.Nodup)(h:QE Z X e te)(u:X.N[i]?=some x:=by rfl)(w:Loc X.env.scope x:=by first|exact .inl rfl|exact .inr rfl)(m:X.fn x=true\/X.env.scope.names.lookup x=some .local:=by first|exact .inl rfl|exact .inr rfl|assumption):QS Z X (.AugAssign (.Name x p2) .Mult e b) (Zs7 i te) :=
 (λD L a l q=>Zre (λp k=>h.mo a _ _ (λ_ k=>Zbx (λ_ k=>Zbx (λ_ k=>(k.1,l.nx _ k.2)) k) k) k) q,λI G=>ZcU (Zi6 g u w (h.ok I G) F m) λD K H ⟨O,a,s,q⟩=>by
  obtain ⟨p,E,q⟩:=Zok q;obtain ⟨v,J,r⟩:=s.rel i _ E
  cases r with|val r=>?_
  refine (v,J,O,a,s,h.mo a _ _ (λM k N B f z=>C _ _ _ _ ?_) q);obtain ⟨c,rfl,A⟩:=Zbe k;obtain ⟨d,rfl,n,o⟩:=Zbe A;exact (c,d,Zax r,Zax z,n,o O _ B ((s.same f).set rep_i)<|Zan f))
section
variable{x y:Str}{pos p2:Pos}{elt it:Expr}{te:ZE}{ti:ZA}{scope:Scope}
def ZiG(i:Nat)(x:Str)(caps:List (Nat×Str)){d s:Pos}(t:X.N.Nodup)(r:QI Z X (.Name x p2) it ti)(E:∀j a b C,QE Z (ZaN X scope (x::caps.map (·.2)) a b C j) elt te)(F:X.N[i]?=some y:=by rfl)(o:X.env.scope.names.lookup y=some .local:=by rfl)(h:CapsOk X scope caps:=by repeat (first | exact trivial | refine And.intro (rfl,rfl,by first | exact .inl rfl | exact .inr rfl) ?_))(w:X.calm=true:=by rfl)
    (n:(x::caps.map (·.2)).Nodup:=by decide +kernel)
    (p:(scope.names.all λy=>!(y.2==NameKind.free)||(X.env.cells.lookup y.1).isSome)=true:=by rfl)
    (m:swapsWith (.ListComp elt [(.Name x p2,it,[],0)] scope pos) (some<|.Name y s) d.line X.env=pure true:=by rfl)
    (e:scope.kind = .function:=by rfl) (g:∀y∈scope.names,y.2 ≠ .cell:=by decide +kernel)
    (c:∀y∈scope.names,y.2 = .local->scope.names.lookup y.1=some .local:=by decide +kernel) (u:∀x,foldedSetIterable it X.env x=pure x:=by intro _; rfl)
    (v:∀j a b C,Loc (ZaN X scope (x::caps.map (·.2)) a b C j).env.scope x/\(ZaN X scope (x::caps.map (·.2)) a b C j).env.scope.names.lookup x=some .local:=by exact λ_ _ _ _=>(.inl rfl,rfl)) :
    QS Z X (.Assign [.Name y s] (.ListComp elt [(.Name x p2,it,[],0)] scope pos) d) (ZsU i<|ZsL<|zCo caps ti te) :=
  Zrt (λD A B f q=>r.mo D _ _ (λl k=>k.mo (λ_ _ z=>z) f) q) (ZiB i x caps t r E F o h w n p m e g c u v)
end
variable{P:Program}{w:World}{K:ZZfg}{mg:ZZmg}{base:Heap}
section
variable{pos:Pos}{e:Expr}{te:ZE}{t:ZA}
abbrev zG(i:Nat)(ρ:PSt)(A:Prop):Prop:=match sget ρ i with
 |some (.val<|.kd _)=>A
 |some (.val<|.kp _)=>A
 |_=>False
def Zru(s:SR Z d c O H b ρ)(h:zG i ρ A):A/\Gd Z (hide O H):=by
 unfold zG at h
 split at h
 ·next κ e =>
  obtain ⟨v,f,r⟩:=s.rel i _ e
  cases r with|val r =>
   unfold Rep at r;obtain ⟨a,_,r⟩:=r;exact (h,r.2)
 ·next κ e =>
  obtain ⟨v,f,r⟩:=s.rel i _ e
  cases r with|val r =>
   unfold Rep at r;obtain ⟨a,_,_,_,_,r⟩:=r;exact (h,r.2)
 ·exact h.elim
def Zs8{A B:Prop}(f:A->B)(h:zG i ρ A):zG i ρ B:=by
 unfold zG at *
 split at h
 ·exact f h
 ·exact f h
 ·exact h.elim
abbrev zFr(i:Nat)(t:ZA):ZE:=λa Q=>zG i a<|t a λl=>Q<|.fr l
def Zsg(i:Nat)(h:QL Z X e t):QE Z X e (zFr i t):=(λc A B f q=>Zs8 (λq=>h.mo c _ _ (λ_=>f _) q) q,λp o=>Zbi (h.ok p o) λv H Q ⟨O,c,s,q⟩=>by
 obtain ⟨q,g⟩:=Zru s q;exact (O,c,s,h.mo c _ _ (λl k a d u S n j r=>k _ u S (by
  unfold Rep;exact (a,d,rfl,λm=>g.1 a m (by by_cases e:a∈O;exact Zdb e;rw[hide_out e];exact n),by rw[hide_out<|s.ls.new n];exact j,r.same<|ZeY λb m=>W7 _ m))) q))
abbrev zF(p:PV)(f:List PV->Prop):Prop:=match p with
 | .fr l=>f l
 |_=>False
def Zs9{f g:List PV->Prop}(h:∀l,f l->g l)(k:zF p f):zF p g:=by
 unfold zF at *
 split at k
 ·exact h _ k
 ·exact k.elim
def ZpL(h:zF p λl=>Up Z O H Q<|.lst l):Up Z O H Q p:=λv c S r=>by
 unfold zF at h
 split at h
 ·refine h v c S ?_;unfold Rep at *;obtain ⟨a,b,e,_,q,r⟩:=r;exact (a,b,e,q,r)
 ·exact h.elim
abbrev zUf(te:ZE):ZE:=λa Q=>te a λp=>zF p λl=>Q<|.lst l
def ZpM(h:QE Z X e te):QE Z X e (zUf te):=(λa A B f q=>h.mo a _ _ (λp k=>Zs9 (λl=>f _) k) q,λc b=>Zbi (h.ok c b) λd H Q ⟨O,a,s,q⟩=>(O,a,s,h.mo a _ _ (λp k=>ZpL k) q))
end
def Zrv(h:Fn P w K mg base Z x k c)(d:MoF S)(f:∀ps Q,S ps Q->c ps λp=>zF p λl=>Q<|.lst l):Fn P w K mg base Z x k S :=
 (d,let ⟨ps,a⟩:=h.has;(ps,let ⟨f',fd,F,m,kp,b⟩:=a.ex;(f',fd,F.imp (λe H Q E q=>by
  obtain ⟨O,pv,l,r,s⟩:=q;exact (O,pv,l,r,h.mo _ _ _ (λp k=>ZpL k)<|f _ _ s)),m,kp,b)))
def Zta(h:Mt P w K mg base Z G m k b)(d:MoF S)(f:∀ps Q,S ps Q->b ps λp=>zF p λl=>Q<|.lst l):Mt P w K mg base Z G m k S :=
 (d,h.2,h.3,λp x H O r i=>let ⟨a,C,dx,fs,ps,dvs,sp,e,c1,c2,c3,c4,c5⟩:=h.4 p x H O r i;(a,C,dx,fs,ps,dvs,sp,e,c1,c2,c3,c4,λo n c Q q g j s=>c5 o n c Q q g j<|h.1 _ _ _ (λp k=>ZpL k)<|f _ _ s))
section
variable{X:Cx}{P:Program}{w:World}{H H':Hp}{h:Heap}{cs:ZZla}
def CellT(H:Hp)(c:Addr)(v:V):Prop:=∃o u,H c=some (.ext λg=>g.get? c=some o)/\o.data = .cell (some u)/\RelV v u
def CellT.same(x:CellT H c v)(S:Same H H'):CellT H' c v:=let ⟨o,u,a,b⟩:=x;(o,u,S _ _ a,b)
def ZlR(x:HOk P w H h)(d:∀c∈cs,∃a,H c=some (.ext a)):HOk P w (hide cs H) h:=λb u e=>by
 obtain ⟨n,f⟩:=Zbp e;refine (x b u f).stay (λ_ _ _ q=>q) (λc q=>?_) λc i q=>?_
 ·rw[hide_out λm=>by obtain ⟨a,z⟩:=d c m;rw[q] at z;cases z];exact q
 ·rw[hide_out λm=>by obtain ⟨a,z⟩:=d c m;rw[q] at z;cases i <;> cases z];exact q
variable{k:Nat}{ps:List Str}{sp:Sp}{x:Str}{p pos:Pos}{e:Expr}{es:List Expr}{t:TA}{cl:List (Str×Addr)}
def ZpN(h:HasX X.prog X.w X.K X.mg X.base x k ps sp)(hr:Room k X.A)(hg:Gl X x)(ha:PA X (e::es) t)(O:∀q∈cl,X.env.cells.lookup q.1=some q.2)(hk:∀q∈cl,X.env.scope.names.lookup q.1=some .cell)(a0:∀y,X.fn y=true)(a1:(x==("__debug__" : Str))=false:=by decide)
    (he:starEach (e::es) X.env=(false,eval e X.env)::starEach es X.env:=by rfl) (a3:(backTo pos<|starEach es X.env).any (·.1)=false:=by rfl) :
    PE X (.Call (.Name x p) (e::es) [] pos) (λσ H Q=>t σ H λvs E=>∀B,Same E B->(∀q∈cl,E q.2=none)->(∀q∈cl,∀(i:Nat) v,X.N[i]?=some q.1->σ[i]?=some (some v)->CellT B q.2 v)->(∀a,a∉cl.map (·.2)->B a=E a) →
      sp vs B (λv Y=>Same B Y/\Q v (hide (cl.map (·.2)) Y)) E0):=by
  obtain ⟨f,fd,F,hm,a2,W⟩:=h.ex;intro U s σ H Q I h;refine wpAny_Call_Name_kw<|ZcV I hg hm ?_ a1;refine PySem.W.callWith_K (h₀:=X.base) I.ok.mod.kin a2 (thn (ha pos U s σ H _ I h) λus J ⟨vs,E,d,r,q⟩=>(d.kIn,?_)) he a3;generalize hcs:cl.map (·.2)=cs at q;have D:∀c∈cs,∃y,X.env.cells.lookup y=some c:=λc m=>by
    rw[<-hcs] at m;obtain ⟨y,j,rfl⟩:=W5.mp m;exact (_,O y j)
  have c0:∀c∈cs,E c=none:=λc m=>let ⟨y,j⟩:=D c m; d.freeC y c j;have co:∀c∈cs,∃o,J.heap.get? c=some o:=λc m=>by
    obtain ⟨y,j⟩:=D c m;obtain ⟨v,o,C,_⟩:=d.cell y c j;exact (o,C)
  have cb:∀c∈cs,X.s₀.heap.objs.size<=c:=λc m=>let ⟨y,j⟩:=D c m; d.ok.cab y c (a0 y) j
  let B:Hp:=λa=>if a∈cs then (J.heap.get? a).map (λo => .ext λg=>g.get? a=some o) else E a
  have t2:∀c o,c∈cs->J.heap.get? c=some o->B c=some (.ext λg=>g.get? c=some o):=λc o m z=>by
    show (if c∈cs then _ else _)=_;rw[if_pos m,z]; rfl
  have L:∀a,a∉cs->B a=E a:=λa m=>if_neg m;have A:Same E B:=λa o z=>by
    rw[L a λm=>by rw[c0 a m] at z; cases z]; exact z
  have T:HOk X.prog X.w B J.heap:=λb u z=>by
    by_cases m:b∈cs
    · obtain ⟨o,C⟩:=co b m
      rw[t2 b o m C] at z; cases z;exact (C,(o,C),λh1 h2 a k=>k _ a)
    · rw[L b m] at z
      exact (d.hok b u z).stay (λ_ _ _ q=>q) (λc q=>A _ _ q) λc i q=>A _ _ q
  have e2:Env0 X.prog X.w X.K X.mg X.base X.A X.stack J B:=(d.ok.frames,d.ok.mod,λb o z=>((d.bs b o z).1,by
    rw[L b λm=>absurd (Qa (Heap.lt_size z)<|Q0 d.ok.bsz<|cb b m)<|W0 _];exact (d.bs b o z).2),Q0 d.ok.bsz d.sz,d.stack,λb z=>by
    rw[L b λm=>?_]
    · exact d.stkFree b z
    · obtain ⟨y,j⟩:=D b m
      rcases Qe.mp (d.stkSub b z) with z | z
      · exact d.cne y b j z
      · obtain ⟨_,o,C,_⟩:=d.ok.funs.mem z
        exact absurd (Qa (Heap.lt_size C)<|cb b m)<|W0 _,T,d.bare)
  have q2:=q B A (λy j=>c0 _ (by rw[<-hcs]; exact List.mem_map_of_mem j)) (λy j i v hi hv=>by
    obtain ⟨m,hn,hl⟩:=d.loc;obtain ⟨u,ru,l⟩:=hl i y.1 v hi hv<|.inr<|.inl<|hk y j;rcases l with ⟨kk,_⟩ | ⟨_,c,ec,o,C,hd⟩
    · have:=(hk y j).symm.trans kk; cases this
    · have:=(O y j).symm.trans ec; cases this
      exact (o,u,t2 _ o (by rw[<-hcs]; exact List.mem_map_of_mem j) C,hd,ru)) L
  have hl:us.length=ps.length:=by rw[<-r.length]; exact F.len _ _ _ _ q2
  refine wpAny_call<|codeAny_mono (F.run X.A X.stack J B (us,[]) us vs _ E0 hr e2 (by have:=W J us d.kIn (by rw[Wp]; exact hl); rwa [Wp] at this) r q2) λr s' R=>?_
  cases r with
  | error e=>obtain ⟨_,_,_,_,_,_,_,_,_,_,_,_,_,q⟩:=R; exact q.elim
  | ok fl =>
    cases fl with
    | next=>exact False.elim R
    | brk=>exact False.elim R
    | cont=>exact False.elim R
    | ret u =>
      obtain ⟨v,Y,os,S,M,G,rv,S3,qq⟩:=R;have x3:∀c∈cs,∃φ,Y c=some (.ext φ):=λc m=>let ⟨o,C⟩:=co c m; (_,S3 _ _<|t2 c o m C);have no:∀b u,E b=some u->b∉cs:=λb u z m=>by rw[c0 b m] at z; cases z
      have kc:∀b o,b∈cs->J.heap.get? b=some o->s'.heap.get? b=some o:=λb o m z=>(G b _<|S3 _ _<|t2 b o m z).1;refine d.after (v,hide cs Y,os,S,(λb o z n W N=>?_,λb o z n W N=>?_,λb o z n N=>?_,M.there,λb xs z=>?_,λb o u z=>?_,λb ps z=>?_),ZlR G x3,rv,qq)
      · by_cases m:b∈cs
        · exact kc b o m z
        · exact M.keep b o z (by rw[L b m]; exact n) W N
      · by_cases m:b∈cs
        · exact (o.slots,kc b o m z)
        · exact M.slot b o z (by rw[L b m]; exact n) W N
      · by_cases m:b∈cs
        · exact Zdb m
        · rw[hide_out m]; exact M.free b o z (by rw[L b m]; exact n) N
      · rw[hide_out<|no b _ z]; exact M.tups b xs<|A _ _ z
      · rw[hide_out<|no b _ z]; exact M.frzs b o u<|A _ _ z
      · rw[hide_out<|no b _ z]; exact M.tbls b ps<|A _ _ z
def Bm(mg:ZZmg)(base:Heap):Prop:=∃b a,mg "__builtins__"=some (.ref b)/\b≠builtinsNs/\base.get? b=some a/\a.cls = .type "module" /\ a.dict=some builtinsNs/\a.data = .plain
def Zrw{body:Expr}{c T:Addr}(F:closureFor g X.env=pure cl)(E:defaultsOf a X.env=([],[]))(r:X.env.code = .ref c)(C:PySem.W.CodeHd X.base c T)(B:Bm X.mg X.base) :
    PE X (.Lambda a body g pos) λ_ H Q=>H T=some (.tbl #[rawInt pos.line,rawInt pos.col,.str (X.env.qual ++ "<lambda>") 0])/\∀f d m vs t pm j H',Same H H'->H f=none →
      H' f=some (.frz (PySem.W.kla_obj "<lambda>" (X.env.qual ++ "<lambda>") a body g cl pm d j)<|.own f)->H' d=some (.frz m<|.own d)->m.data = .fields vs->vs[1]?=some (.str (X.env.qual ++ "<lambda>") t)->Q (.ref f) H':=by
  intro a0 s σ H Q I ⟨G,h⟩;have ne:∀b o,X.base.get? b=some o->b≠T:=λb o e z=>by
    subst z;have:=(I.bs _ _ e).2;rw[G] at this; cases this
  have ns:=I.mod.glob.keeps I.bk;obtain ⟨og,_,_,eg,dg,_⟩:=id I.mod.glob;obtain ⟨bm,ob,b1,b2,O,b4,b5,S⟩:=B;have hb:s.heap.BuiltinsAt X.mg T:=(bm,ob,b1,b2,(λz=>by rw[z,eg] at O; cases O; rw[dg] at S; cases S),ne _ _ O,I.bk _ _ O,b4,b5,S);have Ck:=C.keeps I.bk;refine PySem.W.kla_eval E ?_;rcases I.hok T _ G with e | ⟨l,c0,q,t,d,m,vs,t',e0,e,z,r1,r2⟩
  · refine PySem.W.kla_makeFunction (mg:=X.mg) F I.ok.glob ns r Ck e trivial rfl (ne _ _ eg) hb λd j h' tk hx D L J M=>?_
    obtain ⟨R,m,vs,t,e2,Y,hd,hv⟩:=J
    cases e2
    have lt:∀b u,H b=some u->b<s.heap.objs.size:=λb u z=>I.hok.lt z;have A:s.heap.objs.size<=h'.objs.size:=Q0 D<|Wl L;generalize ho:PySem.W.kla_obj "<lambda>" (X.env.qual ++ "<lambda>") a body g cl ((X.mg "__name__").getD .none) d j=y
    let H2:Hp:=upd (upd H d<|.frz m<|.own d) h'.objs.size<|.frz y<|.own h'.objs.size
    have S2:Same H H2:=λb u z=>by
      show upd (upd H d _) h'.objs.size _ b=_;rw[Zaj<|Qc<|Qa (lt b u z) A,Zaj<|Qc<|Qa (lt b u z) D]; exact z
    have N:∀b o,b≠T->s.heap.get? b=some o->(h'.push y).get? b=some o:=λb o n z=>Heap.get?_push_of_some _<|hx b o n z;have nt:∀b,H b=none->b≠T:=λb n z=>by rw[z,G] at n; cases n
    have f2:H2 h'.objs.size=some (.frz y<|.own h'.objs.size):=Zai;have R:H2 d=some (.frz m<|.own d):=by
      show upd (upd H d _) h'.objs.size _ d=_;rw[Zaj<|Qc L,Zai]
    have gc:(h'.push y).get? d=some m:=Heap.get?_push_of_some _ Y;have gf:(h'.push y).get? h'.objs.size=some y:=Heap.get?_push_size _ (by rw[<-ho]; rfl);refine (.ref h'.objs.size,H2,I.un (h':=h'.push y) (t':=tk) (λb o z n _ _=>N b o (nt b n) z,λb o z n _ _=>(o.slots,N b o (nt b n) z),λb o z n _=>?_,λb o z _=>?_,λb xs z=>S2 _ _ z,λb o u z=>S2 _ _ z,λb ps z=>(#[],by rw[S2 _ _ z]; simp)) λb u z=>?_,rfl,
      h _ d m vs t _ j H2 S2 (I.hok.fresh A) (by rw[f2,ho]) R hd hv)
    · show upd (upd H d _) h'.objs.size _ b=_
      rw[Zaj<|Qc<|Qa (Heap.lt_size z) A,Zaj<|Qc<|Qa (Heap.lt_size z) D]; exact n
    · by_cases n:b=T
      · exact (_,by rw[n]; exact Heap.get?_push_of_some _ M)
      · exact (o,N b o n z)
    · by_cases n1:b=h'.objs.size
      · subst n1; rw[f2] at z; cases z
        exact (gf,y,gf)
      · by_cases n2:b=d
        · subst n2; rw[R] at z; cases z
          exact (gc,m,gc)
        · have U:H b=some u:=by
            have:upd (upd H d<|.frz m<|.own d) h'.objs.size (.frz y<|.own h'.objs.size) b=some u:=z
            rwa [Zaj n1,Zaj n2] at this
          by_cases n3:b=T
          · subst n3; rw[G] at U; cases U
            exact .inr (_,_,_,_,d,m,vs,t,rfl,Heap.get?_push_of_some _ M,R,hd,hv)
          · refine (I.hok b u U).stay (λc v hc q=>N c v ?_ q) (λc q=>S2 _ _ q) λc i q=>S2 _ _ q
            rcases hc with rfl | hc
            · exact n3
            · intro e; rw[e,G] at hc; cases hc
  · have W:[rawInt pos.line,rawInt pos.col,Value.str (X.env.qual ++ "<lambda>") 0]=[l,c0,.str q t]:=congrArg Array.toList e0
    injection W with a1 a2
    injection a2 with a2 a3
    injection a3 with a3 _
    injection a3 with a3 _
    subst a1 a2 a3;refine PySem.W.kla_makeFunctionHit (cv:=.ref d) (mg:=X.mg) F I.ok.glob ns r Ck e (by simp[TriplesOk,rawInt]) (by simp[codeAmong,rawInt]) hb λj h' tk hk A=>?_;refine (.ref h'.objs.size,upd H h'.objs.size<|.frz _<|.own h'.objs.size,I.laid (λb u q=>Heap.get?_push_of_some _<|hk b u q) A (Heap.get?_push_size _ rfl,_,Heap.get?_push_size _ rfl),rfl,h _ d m vs t' _ j _ (λb u z=>?_) (I.hok.fresh A) Zai ?_ r1 r2)
    · rw[Zaj<|ZaF z<|I.hok.fresh A]; exact z
    · rw[Zaj<|ZaF z<|I.hok.fresh A]; exact z
end
section
def Zsh(X:Cx)(N:List Str)(b:Str)(a:Scope)(f:Addr)(c:Value)(cl:List (Str×Addr))(s:Shared)(H:Hp):Cx where
 prog:=X.prog
 w:=X.w
 K:=X.K
 mg:=X.mg
 base:=X.base
 A:=X.A.deeper<|PySem.W.envX b a s.heap.objs.size f c cl
 N:=N
 s₀:=s
 H₀:=H
 env:=PySem.W.envX b a s.heap.objs.size f c cl
 outer:=X.stack
 stack:=PySem.W.envX b a s.heap.objs.size f c cl::X.stack
 ex:=[]
 calm:=true
 fn:=λ_=>false
 pn:=[]
 xe:=λ_ _=>False
variable{X:Cx}{pins:List (Addr×Obj)}{σ:L2.St}{H:Hp}{s:Shared}{Q:VK}{f c':Addr}{name qual:Str}{params:Arguments}{body:Expr}{scope:Scope}{cl:List (Str×Addr)}{pm ctv:Value}{oc:Obj}{vs:Array Value}{t:Tok}{N:List Str}{x:Str}{us:List Value}{v:V}{u:Value}{te:TE}{k:Nat}
def ZpO(I:Inv X pins σ H s)(hr:Room (k+1) X.A)(hf:H f=some (.frz (PySem.W.kla_obj name qual params body scope cl pm c' ctv)<|.own f))(hc:H c'=some (.frz oc<|.own c'))(hd:oc.data = .fields vs)(hv:vs[1]?=some (.str qual t))
    (sk:scope.kind = .function) (sg:scope.isGenerator=false) (so:scope.isCoroutine=false) (sc:∀y∈scope.names,y.2 ≠ .cell) (sx:scope.names.lookup x=some .local) (sf:∀y,(scope.names.lookup y=some .cell\/scope.names.lookup y=some .free)->∃c,cl.lookup y=some c)
    (ap:cl.Pairwise λx y=>x.2≠y.2) {ws:List V} (Y:ws.length=cl.length) (cw:∀(i:Nat) y c w,cl[i]?=some (y,c)->ws[i]?=some w->CellT H c w) (O:bindArgs (PySem.W.kla_fn name qual params body scope cl pm (.ref c') ctv) ([u],[])=pure [(x,u)]) (ru:RelV v u)
    (hN:N=x::cl.map (·.1)) (vf:∀y∈cl,scope.names.lookup y.1=some .free) (nd:∀(i:Nat) y,cl[i]?=some y->cl.lookup y.1=some y.2)
    (he:PE (Zsh X N qual scope f (.ref c') cl s<|hide (cl.map (·.2)) H) body te) (h:te (some v::ws.map some) (hide (cl.map (·.2)) H) λv B=>Same (hide (cl.map (·.2)) H) B/\∀C,Same H C->Same B C->Q v C) :
    wpAny (model X.prog X.w) X.A (call (.ref f) [u]) (EP X pins σ Q) X.xe s:=by
  generalize hcs:cl.map (·.2)=j at he h;have ce:∀c∈j,∃o v,H c=some (.ext λg=>g.get? c=some o)/\o.data = .cell v:=λc m=>by
    rw[<-hcs] at m;obtain ⟨y,W,rfl⟩:=W5.mp m;obtain ⟨i,hi⟩:=List.getElem?_of_mem W;have il:i<ws.length:=by rw[Y]; exact (Qp.mp hi).1
    obtain ⟨o,u,a,b,_⟩:=cw i y.1 y.2 _ hi<|Q6 il;exact (o,_,a,b)
  have S:∀c∈j,∃φ,H c=some (.ext φ):=λc m=>let ⟨_,_,a,_⟩:=ce c m; (_,a);have nc:∀b,H b=none->b∉j:=λb n m=>by obtain ⟨φ,z⟩:=S b m; rw[n] at z; cases z
  have L:∀b,H b=none->hide j H b=none:=λb n=>by rw[hide_out<|nc b n]; exact n
  have a3:=(I.hok c' _ hc).1;have a0:=(I.hok f _ hf).1;refine wpAny_call (codeAny_mono (R:=λr s'=>∃u,r = .ok (.ret u)/\EP X pins σ Q u s') ?_ λr s' ⟨u,e,q⟩=>by subst e; exact q);refine PySem.W.kla_callFunE (by have:=hr.dp; omega) a0 rfl so sg rfl (c',oc,vs,t,rfl,a3,hd,hv) ?_;show wpAny _ _ (bindArgs (PySem.W.kla_fn name qual params body scope cl pm (.ref c') ctv) ([u],[])) _ _ _;rw[O];refine wpAny_pure<|wpAny_newFunctionEnv sc (λy W=>by rw[Qf.mp W]; exact sx) (λE a1 a2=>?_) sk;have d:∀b o,s.heap.get? b=some o->E.get? b=some o:=λb o e=>a2.extBut b o (Qc<|Heap.lt_size e)<|Heap.get?_push_of_some _ e;refine (I.nolimit.keeps d,?_);show codeAny _ _ (.expr body<|PySem.W.envX qual scope s.heap.objs.size f (.ref c') cl) _ _;have J:Inv (Zsh X N qual scope f (.ref c') cl s<|hide j H) [] (some v::ws.map some) (hide j H) { s with heap:=E,toks:=s.toks+1 }:=by
    have G:∀b:Addr,b∉(Zsh X N qual scope f (.ref c') cl s<|hide j H).ex:=λb z=>absurd (show b∈([]:ZZla) from z) (by simp);have a4:∀y c,cl.lookup y=some c->∃i:Nat,cl[i]?=some (y,c):=λy c z=>List.getElem?_of_mem<|PySem.mem_of_lookup z;have T:∀y c,cl.lookup y=some c->c∈j:=λy c z=>by rw[<-hcs]; exact List.mem_map_of_mem (f:=(·.2))<|PySem.mem_of_lookup z
    refine ((I.mod,sk,rfl,rfl,Q4 _,λy z c l A=>name_of_addr ap (PySem.mem_of_lookup l)<|PySem.mem_of_lookup A,λy W=>sf y W,λy c z _=>(nomatch z),λ_=>hr.hd,Around.frames_deeper I.ok.frames,.inr (rfl,rfl),λb z=>absurd z<|G b,λb o e=>((I.bs b o e).1,L b (I.bs b o e).2),Q0 I.ok.bsz I.sz,λb _ _=>G b,λb z=>absurd z<|G b,I.stack,λb z=>L b<|I.stkFree b z),
      rfl,I.bare,Un.kept d,(_,a1,λi y w l A h3=>?_),λy c z=>?_,L _<|I.hok.fresh<|Q4 _,λy c z=>Zdb<|T y c z,λp hp=>absurd (show p∈([]:List (Addr×Obj)) from hp) (by simp),(ZlR I.hok S).kept d,?_)
    · have l:N[i]?=some y:=l
      rw[hN] at l
      cases i with
      | zero =>
        cases l; cases A
        refine (u,ru,.inl (sx,?_));show List.lookup x [(x,u)]=some u
        simp
      | succ i =>
        have l:(cl.map (·.1))[i]?=some y:=l;have A:(ws.map some)[i]?=some (some w):=A;rw[Q3] at l A
        cases e1:cl[i]? with
        | none=>rw[e1] at l; cases l
        | some q =>
          rw[e1] at l; cases l
          cases e2:ws[i]? with
          | none=>rw[e2] at A; cases A
          | some w' =>
            rw[e2] at A; cases A;obtain ⟨o,u',a,b,r⟩:=cw i q.1 q.2 w e1 e2;exact (u',r,.inr (.inr<|vf q<|Qd e1,q.2,nd i q e1,o,d _ _ (I.hok _ _ a).1,b))
    · obtain ⟨o,w,a,b⟩:=ce c<|T y c z
      exact (w,o,d _ _ (I.hok _ _ a).1,b)
    · show _=N.length
      rw[hN,Wy,Wy,Q1,Q1,Y]
  refine PySem.W.kla_codeExpr<|wpAny_mono (he [] _ _ _ _ J h) (λu2 s3 ⟨v3,B,J3,r3,S3,q3⟩=>?_) λ_ _ z=>z.elim;refine (u2,rfl,I.after (v3,λa=>if a∈j then H a else B a,J3.os,J3.bare,?_));have U:Un (L2.frs X.stack) [] (hide j H) B s.heap s3.heap:=J3.base;have z3:∀c∈j,B c=none:=λc m=>by
    obtain ⟨o,w,a,b⟩:=ce c m;exact U.free c o (I.hok _ _ a).1 (Zdb m) (by simp)
  generalize h4:(λa=>if a∈j then H a else B a:Hp)=C;have i4:∀a,a∈j->C a=H a:=λa m=>by rw[<-h4]; exact if_pos m
  have D:∀a,a∉j->C a=B a:=λa m=>by rw[<-h4]; exact if_neg m
  have F:Same B C:=λa o z=>by rw[D a λm=>by rw[z3 a m] at z; cases z]; exact z
  have S4:∀a o,a∉j->B a=some o->C a=some o:=λa o m z=>by rw[D a m]; exact z
  refine ((λb o z n O M=>U.keep b o z (L b n) O M,λb o z n O M=>U.slot b o z (L b n) O M,λb o z n M=>?_,U.there,λb xs z=>?_,λb o w z=>?_,λb ps z=>?_),λb w z=>?_,r3,q3 C (λa o z=>?_) F)
  · rw[D b<|nc b n]; exact U.free b o z (L b n) M
  · have m:b∉j:=λm=>by obtain ⟨φ,y⟩:=S b m; rw[z] at y; cases y
    rw[D b m]; exact U.tups b xs (by rw[hide_out m]; exact z)
  · have m:b∉j:=λm=>by obtain ⟨φ,y⟩:=S b m; rw[z] at y; cases y
    rw[D b m]; exact U.frzs b o w (by rw[hide_out m]; exact z)
  · have m:b∉j:=λm=>by obtain ⟨φ,y⟩:=S b m; rw[z] at y; cases y
    rw[D b m]; exact U.tbls b ps (by rw[hide_out m]; exact z)
  · by_cases m:b∈j
    · rw[i4 b m] at z
      obtain ⟨o,v',a,_⟩:=ce b m;rw[z] at a; cases a;have g0:=(I.hok _ _ z).1;have g:s3.heap.get? b=some o:=U.keep b o g0 (Zdb m) (λy=>by have:=I.stkFree b y; rw[z] at this; cases this) (by simp);exact (g,(o,g),λl A a k=>k _ a)
    · rw[D b m] at z
      exact (J3.hok b w z).stay (λ_ _ _ q=>q) (λc q=>F _ _ q) λc i q=>F _ _ q
  · by_cases m:a∈j
    · rw[i4 a m]; exact z
    · rw[D a m]
      exact S3 _ _ (by rw[hide_out m]; exact z)
end
end Zp
namespace My
open PySem L2 PyProof.Rows
section
variable{P:Program}{w:World}{K:ZZfg}{mg:ZZmg}{base:Heap}{CF CR:Addr}
def sc_Fractions_common_bottom:FnScope ["self","some","bottom","one"] ["self","some"] (Zab ZaX):=‹2›
def ZiH(h:HereM K CF "common_bottom" "Fractions.common_bottom" ZaX) (c:Has P w K mg base "divisor" 1 ["one","other"] ZaZ):HasM P w K mg base CF "common_bottom" 2 ["self","some"] [] (ZbF K):=by
 refine h.hasM (λ_ _ F=>F.b2 λ_ _ _ _ _ _ _ _=>rfl) λf fd F=>F.ok sc_Fractions_common_bottom (λvs H Q E h=>?_)<|λZ A D s H vs Q E hr h=>?_
 ·obtain ⟨_,_,_,_,_,rfl,_⟩:=h
  rfl
 obtain ⟨W,r,xs,f,B,rfl,j,N,hB,J,g,k⟩:=h;have G:=sc_Fractions_common_bottom.nd;refine (_,(Zag (ZaE (i:=2) G rfl (Or.inl rfl) Zac)
  (Zag (Zdz PassesOwn.never rfl (ZcX<|pv 1) (ZaL (i:=3) G rfl<|Or.inl rfl)<|Zad<|ZaY (Zay Zgi (Zap Zbn (pv 2)<|ZaD Zau (pv 3) Zac<|λ_ _=>rfl) Zac<|ZaC _) (Zad<|ZaE (i:=2) G rfl (Or.inl rfl)<|Zap ZaK (Zap ZbV (pv 2)<|ZaG c hr (by rfl)<|Zaa (pv 2)<|Zaa (ZaD Zau (pv 3) Zac<|λ_ _=>rfl) Zaf)<|ZaD Zau (pv 3) Zac<|λ_ _=>rfl) Zav)
  (Zad<|Zaq<|pv 2))),?_)
 have la:=N.1;refine (_,rfl,r,rfl,(_,SqL.of j),?_);refine ZeT (xs:=xs) (λi p o=>∃(A:Int) (z:Option V),p=[some<|.ref W,some<|.ref r,some<|.int A,z]/\o=H/\Zoe .q (f.take i) A) (1,none,rfl,rfl,∅,λx m=>by simp at m,λB _=>Int.one_dvd _) ?_ ?_ ?_
 ·rintro i p o-⟨A,z,rfl,rfl,-⟩;exact SqL.of j
 ·rintro i v p o hv ⟨A,z,rfl,rfl,l,M,I⟩;obtain ⟨x,m,a,rfl,C⟩:=N.get hv;have Y:=(Zbf x).pos;have X:=Qd m;have u:A ∣ B:=I B λy e=>g y<|Uc e;have O:Bits 4000 A:=J.le<|Zbd u ⋯;have bd:Bits 4000 (Rat.den x:Int):=J.le<|Zbd (g x X) ⋯;have n:f.take (i+1)=f.take i++[x]:=by rw[List.take_succ,m];rfl
  refine (_,rfl,_,rfl,a,_,1,_,rfl,rfl,SqT.of C,rfl,_,_,rfl,rfl,(show (Rat.den x:Int)≠0 by omega),rfl,_,rfl,?_);refine Zf2 (λR=>?_)<|λR=>?_
  ·obtain ⟨p1,d1,d2,lm⟩:=Znf l Y;have L:(Int.gcd A (Rat.den x:Int):Int)≠0:=by have:=M3.gcd_ne (a:=A) (b:=(Rat.den x:Int)) ⋯;omega
   have U:Bits 4000 (Int.gcd A (Rat.den x:Int):Int):=O.le<|Zbd (U0 A (Rat.den x:Int)) ⋯;have T:=M3.fdiv_le (U0 A (Rat.den x:Int)) L;refine (_,rfl,_,rfl,_,rfl,a,_,1,_,rfl,rfl,SqT.of C,rfl,A,_,rfl,_,_,rfl,rfl,(L,U),_,rfl,a,_,1,_,rfl,rfl,SqT.of C,rfl,_,_,rfl,rfl,Bits.mulG ((O.le T).up ∅) bd,?_);refine (_,_,rfl,rfl,p1,λy e=>?_,λt d=>?_)
   ·rw[n] at e;rcases We.mp e with q|q
    ·exact Int.dvd_trans (M y q) d1
    ·rw[Qf.mp q];exact d2
   ·rw[n] at d;exact lm t (I t λy e=>d y<|We.mpr<|.inl e)<|d x<|We.mpr<|.inr<|Qf.mpr rfl
  ·refine (A,_,rfl,rfl,l,λy e=>?_,λt d=>?_)
   ·rw[n] at e;rcases We.mp e with q|q
    ·exact M y q
    ·rw[Qf.mp q];have S:A.fmod (Rat.den x:Int)=0:=R;rw[Wm _ ⋯] at S;exact Int.dvd_of_emod_eq_zero S
   ·rw[n] at d;exact I t λy e=>d y<|We.mpr<|.inl e
 ·rintro p o ⟨A,z,rfl,rfl,l⟩;rw[la,List.take_length] at l;exact (_,rfl,k A l)
def Zdg:FnScope ["self","some"] ["self","some"] (Zab Zbg):=‹2›
def Zkm(h:HereM K CR "common_bottom" "Kind.common_bottom" Zbg):HasM P w K mg base CR "common_bottom" 1 ["self","some"] [] Zex:=by
 refine h.hasM (λ_ _ F=>F.b2 λ_ _ _ _ _ _ _ _=>rfl) λf e F=>F.ok Zdg (λc H Q E h=>?_)<|λb A a s H c Q E d h=>?_
 ·obtain ⟨_,_,rfl,_⟩:=h
  rfl
 obtain ⟨g,r,rfl,k⟩:=h;exact (_,(Zad<|Zaq Zac),k)
end
section
variable{P:Program}{w:World}{K:ZZfg}{mg:ZZmg}{base:Heap}{CF CR cN:Addr}
def ZiI{q:Tok}(h:HereD K CF "number" "Fractions.number" ZaV #[.int 1 q]) (c:ExcC K mg "NoNumber" cN) (d:Has P w K mg base "divisor" 1 ["one","other"] ZaZ):HasMX P w K mg base CF "number" 2 ["self","top","bottom"] [] Zb9:=by
 refine h.hasMX (ds:=[]) .nil (λf D T F=>F.binds λ_ _ _ _ _ _ n p=>by obtain ⟨_,_,_,rfl⟩:=ZcZ (show n.length=3 by simpa using p);exact (_,rfl,rfl)) λf D T F=>?_;refine F.okx sc_Fractions_number (λG H Q E h=>?_)<|λy A g s H G Q E C h=>?_
 ·obtain ⟨_,_,_,rfl,_⟩:=h
  rfl
 obtain ⟨J,t,b,rfl,x,lb,k⟩:=h;have m:=sc_Fractions_number.nd;refine (_,(Zag (ZaY (Zay Zbr (pv 2) Zac<|ZaC _) (Zad<|Zd1 c ZhE rfl (by rfl)<|Zaa Zhl Zaf) Zav)
  (Zag (ZaE (i:=3) m rfl (Or.inl rfl)<|ZaG d C (by rfl)<|Zaa (pv 1)<|Zaa (pv 2) Zaf)
  (Zag (ZaY (Zay ZdW (pv 2) Zac<|ZaC _) (Zad<|ZaE (i:=3) m rfl (Or.inl rfl)<|ZjR Zf0<|pv 3) Zav)
  (Zad<|Zaq<|Zb0<|Zaa (Zap ZeU (pv 1)<|pv 3)<|Zaa (Zap ZeU (pv 2)<|pv 3) Zaf)))),?_)
 refine (_,rfl,rfl,_,rfl,?_);refine Zb1 (λz=>absurd z ⋯)<|λ_=>?_;refine (_,rfl,_,rfl,t,b,rfl,?_);refine (_,rfl,_,_,rfl,rfl,_,rfl,?_);refine ZcR (λl=>absurd l ⋯)<|λl=>?_;have M:=M3.gcd_ne (a:=t) (b:=b) ⋯;have u:Int.gcd t b<=b.natAbs:=Ub ⋯<|U2.mpr<|Wf t b;have e:(Int.gcd t b:Int)≠0/\((Int.gcd t b:Int)).natAbs<=10^1000:=(⋯,Q0 (show _<=b.natAbs from u) lb);obtain ⟨o,B,v,I,L⟩:=M3.low (t:=t) x;refine (_,rfl,_,rfl,_,_,rfl,rfl,e,_,rfl,_,rfl,_,_,rfl,rfl,e,(by show 2<=sizeLine;decide),λr j=>?_);exact k r _ _ j (B,o) v
def sc_Fractions_sum_of_products:FnScope ["self","some","others","ahead","behind","total","one","other"] ["self","some","others"] (Zab ZaR):=‹2›
def Znu(h:HereM K CF "sum_of_products" "Fractions.sum_of_products" ZaR) (cl:Cls K CF) (Tz:mg "zip"=none) (hB:HasM P w K mg base CF "common_bottom" 2 ["self","some"] [] (ZbF K)) (hN:HasMX P w K mg base CF "number" 2 ["self","top","bottom"] [] Zb9):HasM P w K mg base CF "sum_of_products" 3 ["self","some","others"] [] (ZgW CF):=by
 refine h.hasM (λ_ _ F=>F.b3 λ_ _ _ _ _ _ _ _ _=>rfl) λf fd F=>F.ok sc_Fractions_sum_of_products (λvs H Q E h=>?_)<|λa2 A T s H vs Q E hr h=>?_
 ·obtain ⟨_,_,_,_,_,_,_,_,_,rfl,_⟩:=h
  rfl
 obtain ⟨d,L,N,xs,ys,a,c,U,W,rfl,⟨Y,hs⟩,O,h2,g,j,a3,a1,w1,w2,b0,bl,bd,c0,o,cd,k⟩:=h;have l:=sc_Fractions_sum_of_products.nd;refine (_,(Zag (ZaE (i:=3) l rfl (Or.inl rfl)<|Zgo (pv 0) hr<|Zaa (pv 1) Zaf)
  (Zag (ZaE (i:=4) l rfl (Or.inl rfl)<|Zgo (pv 0) hr<|Zaa (pv 2) Zaf)
  (Zag (ZaE (i:=5) l rfl (Or.inl rfl) Zac)
  (Zag (Zdz PassesOwn.never rfl (Zle (by rfl) Tz<|Zaa (pv 1)<|Zaa (pv 2) Zaf) (Zho rfl<|ZbH (ZaL (i:=6) l rfl<|Or.inl rfl)<|ZbH (ZaL (i:=7) l rfl<|Or.inl rfl) Ze1)<|Zad<|Zi6 (i:=5) l rfl (Or.inl rfl) (Zap ZaK (Zap ZaK (Zap ZaK (ZaD Zau (pv 6) Zac<|λ_ _=>rfl)<|Zap ZeU (pv 3)<|ZaD Zau (pv 6) Zac<|λ_ _=>rfl)<|ZaD Zau (pv 7) Zac<|λ_ _=>rfl)<|Zap ZeU (pv 4)<|ZaD Zau (pv 7) Zac<|λ_ _=>rfl) Zn2)
  (Zad<|Zaq<|Zgp (pv 0) Zla hr<|Zaa (pv 5)<|Zaa (Zap ZaK (pv 3)<|pv 4) Zaf))))),?_)
 have lx:=g.1;have ly:=j.1;have b:∀ {Z:Int},Z.natAbs<=10^200->Bits 4000 Z:=fun {Z} hz=>Bits.of<|Q7 hz<|Qa (show 10^200<2^1000 by decide)<|Q5 ∅ ∅
 refine (_,rfl,d,CF,Y,[],_,_,ZbF K,rfl,hs,cl,hB,rfl,_,rfl,d,L,xs,a,U,rfl,O,g,b0,b bl,bd,λA ⟨hA,dA,mA⟩=>?_);refine (_,rfl,d,CF,Y,[],_,_,ZbF K,rfl,hs,cl,hB,rfl,_,rfl,d,N,ys,c,W,rfl,h2,j,c0,b o,cd,λC ⟨hC,dC,mC⟩=>?_);have X:A.natAbs<=10^200:=Q0 (Zbd (mA _ bd) ⋯) bl;have lC:C.natAbs<=10^200:=Q0 (Zbd (mC _ cd) ⋯) o;refine (_,rfl,_,rfl,L,N,rfl,(_,SqL.of O),(_,SqL.of h2),?_);refine Zpo (xs:=xs) (ys:=ys) (λi D p=>∃G I:Option V,D=[some<|.ref d,some<|.ref L,some<|.ref N,some<|.int A,some<|.int C,some<|.int<|tS a c A C i,G,I]/\Same H p) (none,none,rfl,Same.refl H) ?_ ?_ ?_
 ·rintro i D p ⟨G,I,rfl,S⟩;exact (SqL.of<|S _ _ O,SqL.of<|S _ _ h2)
 ·rintro i u v Tp D p hx hy nT ⟨G,I,rfl,S⟩;obtain ⟨x,z,t,rfl,ht⟩:=g.get hx;obtain ⟨y,m,n,rfl,a0⟩:=j.get hy;have ex:a.getD i 0=x:=by rw[Q2,z];rfl
  have ey:c.getD i 0=y:=by rw[Q2,m];rfl
  have hb:=(Zbf x).pos;have hd:=(Zbf y).pos;obtain ⟨la,lb⟩:=w1 x<|Qd z;obtain ⟨lc,ld⟩:=w2 y<|Qd m;have ST:=Zar nT<|.tup [.ref t,.ref n];refine (Tp,_,rfl,SqT.of Zai,rfl,_,_,rfl,_,_,rfl,rfl,?_);generalize upd p Tp (.tup [.ref t,.ref n])=H3 at *;have R:=S.trans ST;have qt:=SqT.of (K:=K)<|R _ _ ht;have qu:=SqT.of (K:=K)<|R _ _ a0;have eA:A.fdiv (x.den:Int)=A/x.den:=Int.fdiv_eq_ediv_of_nonneg _ ⋯;have eC:C.fdiv (y.den:Int)=C/y.den:=Int.fdiv_eq_ediv_of_nonneg _ ⋯;have B:(A.fdiv (x.den:Int)).natAbs<=10^200:=by rw[eA];exact Q0 Zou X
  have J:(C.fdiv (y.den:Int)).natAbs<=10^200:=by rw[eC];exact Q0 Zou lC
  have m1:=Zs0 la B;have m2:=Zs0 m1 lc;refine (_,rfl,_,rfl,t,_,_,_,rfl,rfl,qt,rfl,_,rfl,_,rfl,t,_,_,_,rfl,rfl,qt,rfl,_,_,rfl,rfl,((show (x.den:Int)≠0 by omega),Zea (by rw[Qo];exact lb)),_,_,rfl,rfl,ZpG (Zdr la)<|Zdr B,_,rfl,n,_,_,_,rfl,rfl,qu,rfl,_,_,rfl,rfl,ZpG (Zdr m1)<|Zdr lc,_,rfl,_,rfl,n,_,_,_,rfl,rfl,qu,rfl,_,_,rfl,rfl,((show (y.den:Int)≠0 by omega),Zea (by rw[Qo];exact ld)),_,_,rfl,rfl,ZpG (Zdr m2)<|Zdr J,_,_,rfl,rfl,?_);refine (some<|.ref t,some<|.ref n,?_,R);have e:tS a c A C (i+1)=tS a c A C i+x.num*(A.fdiv (x.den:Int))*y.num*(C.fdiv (y.den:Int)):=by
   show tS a c A C i+_=_;rw[ex,ey,eA,eC]
  rw[e]
  rfl
 ·rintro i D p hi ⟨G,I,rfl,S⟩;have hi:i=a.length:=⋯;subst hi;have M:0<A*C:=Wa hA hC;refine (_,rfl,d,CF,Y,[],_,_,Zb9,rfl,S _ _ hs,cl,hN,rfl,_,rfl,_,rfl,_,rfl,_,_,rfl,rfl,ZtF (Zea X)<|Zea lC,d,_,_,rfl,M,Zea<|Zs0 X lC,λr x y nr fc e=>?_);obtain ⟨q,q1,q2⟩:=Zjl fc;have y0:=fc.pos;have eq:q=Zh7 (κ:=.q) a c:=by
   have t:=Zor hA hC dA dC a.length (Q4 _) ⋯;have:q=Rat.divInt (tS a c A C a.length) (A*C):=by
    rw[<-Qy q,q1,q2,Wb ⋯ ⋯];exact e
   exact this.trans t
  refine k _ _ (S.trans<|Zar nr _) (r,rfl,?_);rw[Zai,<-eq];show some (HO.tup [V.int x,V.int y])=some (HO.tup [V.int<|Rat.num q,V.int ((Rat.den q:Nat):Int)]);rw[q1,q2]
def Zco:FnScope ["self","some","others"] ["self","some","others"] (Zab Za4):=‹2›
def Znv(h:HereM K CR "sum_of_products" "Rests.sum_of_products" Za4) (cl:Cls K CR) (nP:NoAttr K CR "prime") (Y:mg "zip"=none) (T:mg "sum"=none):HasM P w K mg base CR "sum_of_products" 3 ["self","some","others"] [] (ZgX CR):=by
 refine h.hasM (λ_ _ F=>F.b3 λ_ _ _ _ _ _ _ _ _=>rfl) λf fd F=>F.ok Zco (λvs H Q E h=>?_)<|λa0 A G s H vs Q E hr h=>?_
 ·obtain ⟨_,_,_,_,_,_,_,_,_,rfl,_⟩:=h
  rfl
 obtain ⟨p,m,sr,J,L,xs,ys,d,l,rfl,⟨U,hs⟩,M,O,e,g,a2,N,k⟩:=h;refine (_,(Zad<|Zaq<|Zap Zbn (Zao (Zm5 rfl) (by rfl) T boot_sum<|Zaa (Zef ["one","other"] [] rfl (Zle (by rfl) Y<|Zaa (pv 1)<|Zaa (pv 2) Zaf) (by exact λ_ _ _ _=>(Zpq (n:=2) K rfl rfl<|ZbH (ZaL (i:=0) (show (["one","other"]:List Str).Nodup by decide +kernel) rfl<|Or.inl rfl)<|ZbH (ZaL (i:=1) (show (["one","other"]:List Str).Nodup by decide +kernel) rfl<|Or.inl rfl) Ze1)) (by exact λ_ _ _ _=>(Zap ZaK (pv 0)<|pv 1)) trivial) Zaf)<|ZeE (pv 0) rfl),?_);have lx:=e.1;have ly:=g.1;have a1:=m.two;refine (_,rfl,_,rfl,J,L,rfl,(_,SqL.of M),(_,SqL.of O),?_);refine Zlf (K:=K) (a:=J) (b:=L) (xs:=xs) (ys:=ys) (λi o j=>Same H j/\∃c:List Int,o=c.map V.int/\(c.sum%p:Int)=((Fin.val (ZfL d l i:Fin p):Nat):Int)) ⋯ (Same.refl H,[],rfl,?_) (λi o j q=>(SqL.of<|q.1 _ _ M,SqL.of<|q.1 _ _ O)) ?_ ?_
 ·show (0:Int)%p=((Fin.val (K0<|.r p m):Nat):Int);rw[ZeX];simp
 ·rintro i u v Tp o j W hy hl R ⟨S,c,rfl,z⟩;obtain ⟨x,t,C⟩:=e.get W;obtain ⟨y,r,B⟩:=g.get hy;have C:u = .int (Fin.val (x:Fin p)):=C;have B:v = .int (Fin.val (y:Fin p)):=B;subst C B;have X:=Zar R<|.tup [.int<|Fin.val (x:Fin p),.int<|Fin.val (y:Fin p)];generalize upd j Tp (.tup [.int<|Fin.val (x:Fin p),.int<|Fin.val (y:Fin p)])=H3 at *;refine (_,rfl,_,rfl,_,_,rfl,rfl,Zbu (Za7 m x)<|Za7 m y,S.trans X,c++[(Fin.val (x:Fin p):Int)*Fin.val (y:Fin p)],by simp,?_);have ed:(ZfL d l (i+1):Fin p)=(ZfL d l i:Fin p)+(x:Fin p)*(y:Fin p):=ZlL t r;rw[ed,Fin.val_add,Fin.val_mul,List.sum_append]
  simp only[List.sum_cons,List.sum_nil,Int.add_zero]
  rw[Int.add_emod,z,Ww,Int.natCast_add,Ww,W2,Int.add_emod (Fin.val (ZfL d l i:Fin p):Int)]
  first|done|simp
 ·rintro o j hl ⟨S,c,rfl,z⟩ D Z;have I:=S.trans<|Zar Z<|.lst<|c.map V.int;refine (D,_,rfl,SqL.of Zai,?_);refine (_,rfl,sr,CR,U,_,_,rfl,I _ _ hs,cl,nP,Zb6 p,_,_,rfl,rfl,(show (p:Int)≠0 by omega),?_);show Q (V.int<|c.sum.fmod p) _;refine k _ _ I ?_;show V.int (c.sum.fmod p)=V.int ((Fin.val (ZfL d l d.length:Fin p):Nat):Int);rw[Wm _ ⋯,z]
  congr 4
  omega
def Znw(y:Kd K mg CF CR)(G:HasM P w K mg base CF "sum_of_products" 3 ["self","some","others"] [] (ZgW CF)) (O:HasM P w K mg base CR "sum_of_products" 3 ["self","some","others"] [] (ZgX CR)):ZlM P w K mg base CF CR:=by
 intro F H s B
 cases F with
 |q =>
  obtain ⟨c,h⟩:=B;refine (CF,c,[],_,_,_,h,y.clF,G,rfl,rfl,λU e j t n f g D E M N Q S l o d m b a z v C dl u i A x k=>?_);obtain ⟨I,R⟩:=Zos C dl A z;obtain ⟨L,T⟩:=Zos u i x v;exact (s,e,j,t,n,f,g,(D:Int),(E:Int),rfl,(c,S _ _ h),l,o,d,m,b,a,I,L,⋯,by rw[Qo];exact dl,R,⋯,by rw[Qo];exact i,T,k)
 |r p J =>
  obtain ⟨c,h⟩:=B;exact (CR,c,fsR p,_,_,_,h,y.clR,O,ZdB _ ∅,rfl,λU e j t n f g D E M N Q S l o d m b a z v C dl u i A x k=>(p,J,s,e,j,t,n,f,g,rfl,(c,S _ _ h),l,o,d,m,b,a,k))
end
section
variable{κ:KX}
noncomputable def ZhR(c:κ.F)(A:ZZll κ):ZZll κ:=A.map λr=>r.map (c * ·)
def Znx(c:κ.F)(A:ZZll κ):(ZhR c A).length=A.length:=by unfold ZhR;simp
def Zny{A:ZZll κ}(h:Wid m A)(c:κ.F):Wid m (ZhR c A):=λf a=>by
 unfold ZhR at a;obtain ⟨r,b,rfl⟩:=W5.mp a;rw[Q1];exact h r b
end
def ZpP{κ:KX}{D M:Nat}(a:0<D){x:κ.F}(h:QN κ (D:Int) M x):DvB κ (D:Int) x:=by
 cases κ with
 |r p b=>exact trivial
 |q =>
  obtain ⟨X,e,_⟩:=h;show ((Rat.den x:Nat):Int) ∣ D;have e:x=Rat.divInt X D:=e;rw[e];exact (Zc9 X (show (0:Int)<(D:Int) by omega)).1
def ZbS{κ:KX}{D M:Nat}(d:0<D)(c:D<=10^200)(a:M<=10^500){x:κ.F}(h:QN κ (D:Int) M x):B1 κ x:=by
 have l:(10:Nat)^500<2^3000:=Qa (show 10^500<2^2000 by decide)<|Q5 ∅ ∅;have b:(10:Nat)^200<2^3000:=Qa (show 10^200<2^1000 by decide)<|Q5 ∅ ∅;exact h.b1 ⋯ (by rw[Qo];omega) ⋯
def ZlS{κ:KX}{D M:Nat}(a:0<D){f:ZZlk κ}{A:Int}(h:∀x∈f,QN κ (D:Int) M x)(b:Zoe κ f A):0<A/\A.natAbs<=D:=by
 cases κ with
 |r p i =>
  have b:A=1:=b;subst b;exact (∅,a)
 |q =>
  obtain ⟨c,g,e⟩:=b;refine (c,?_);have:=Zbd (e (D:Int) λx d=>ZpP (κ:=.q) a<|h x d) ⋯;rw[Qo] at this;exact this
def ZpQ{κ:KX}{A:Int}(h:A.natAbs<=10^140):∃x:κ.F,NumV κ A x:=by
 cases κ with
 |q=>obtain ⟨x,c,e⟩:=Zjl (n:=A) (d:=1) (∅,by rw[Int.gcd_one]);exact (x,c,⋯)
 |r p f =>
  have e:=f.two;have a:=Int.emod_nonneg A (show (p:Int)≠0 by omega);have b:=Int.emod_lt_of_pos A (show 0<(p:Int) by omega);exact ((((A%p).toNat,⋯):Fin p),h,by show (((A%p).toNat:Nat):Int)=_;omega)
def ZlT{κ:KX}{A:Int}{x:κ.F}(h:NumV κ A x):QN κ 1 A.natAbs x:=by
 cases κ with
 |r p c=>exact trivial
 |q =>
  refine (A,?_,Q4 _);show (x:Rat)=_;have a:Rat.num x=A:=h.1;have b:Rat.den x=1:=h.2;rw[<-Qy x,a,b];rfl
end My
namespace My.Rg
open PySem L2 PyProof.Rows
section
variable{α:Type}[Lean.Grind.CommRing α]
def ZtM:(0:α)+0=0:=by grind
def Sg(h:Nat->α):Nat->α
 |0=>0
 |n+1=>Sg h n+h n
def Sg_congr{h g:Nat->α}:∀ {n:Nat},(∀i,i<n->h i=g i)->Sg h n=Sg g n
 |0,_=>rfl
 |n+1,e=>by
  show Sg h n+h n=Sg g n+g n;rw[Sg_congr (n:=n) λi a=>e i ⋯,e n ⋯]
def Sg_mul(c:α)(h:Nat->α):∀n,c*Sg h n=Sg (λi=>c*h i) n
 |0=>by show c*0=0;grind
 |n+1=>by
  show c*(Sg h n+h n)=Sg (λi=>c*h i) n+c*h n;rw[<-Sg_mul c h n];grind
def Sg_add(h g:Nat->α):∀n,Sg h n+Sg g n=Sg (λi=>h i+g i) n
 |0=>ZtM
 |n+1=>by
  show (Sg h n+h n)+(Sg g n+g n)=Sg (λi=>h i+g i) n+(h n+g n);rw[<-Sg_add h g n];grind
def Sg_zero:∀n,Sg (λ_=>(0:α)) n=0
 |0=>rfl
 |n+1=>by show Sg _ n+0=0;rw[Sg_zero n];exact ZtM
def ZeA(h:Nat->Nat->α)(m:Nat):∀n,Sg (λi=>Sg (λj=>h i j) m) n=Sg (λj=>Sg (λi=>h i j) n) m
 |0=>(Sg_zero m).symm
 |n+1=>by
  show Sg _ n+Sg (λj=>h n j) m=Sg (λj=>Sg (λi=>h i j) n+h n j) m;rw[ZeA h m n,Sg_add]
def ZbJ(h:Nat->α):∀n,Sg h (n+1)=h 0+Sg (λi=>h<|i+1) n
 |0=>by show 0+h 0=h 0+0;grind
 |n+1=>by
  show Sg h (n+1)+h (n+1)=h 0+(Sg (λi=>h<|i+1) n+h (n+1));rw[ZbJ h n];grind
def Sg_one(h:Nat->α)(i:Nat):∀n,Sg (λl=>h l*(if i=l then 1 else 0)) n=if i<n then h i else 0
 |0=>by rw[if_neg ⋯];rfl
 |n+1=>by
  show Sg _ n+h n*(if i=n then 1 else 0)=_;rw[Sg_one h i n]
  by_cases e:i=n
  ·subst e;rw[if_neg ⋯,if_pos rfl,if_pos ⋯];grind
  ·rw[if_neg e]
   by_cases l:i<n
   ·rw[if_pos l,if_pos ⋯];grind
   ·rw[if_neg l,if_neg ⋯];grind
def sgn(α:Type)[Lean.Grind.CommRing α]:Nat->α
 |0=>1
 |n+1=>0-sgn α n
def skip(j t:Nat):Nat:=if t<j then t else t+1
def ZlU{j k:Nat}(h:k<j)(t:Nat):skip j (skip k t)=skip k (skip (j-1) t):=by
 have b:∀ {j t:Nat},t<j->skip j t=t:=λh=>by unfold skip;rw[if_pos h]
 have a:∀ {j t:Nat},j<=t->skip j t=t+1:=λh=>by unfold skip;rw[if_neg ⋯]
 by_cases h1:t<k
 ·rw[b h1,b (show t<j by omega),b (show t<j-1 by omega),b h1]
 ·by_cases h2:t<j-1
  ·rw[a (show k<=t by omega),b (show t+1<j by omega),b h2,a (show k<=t by omega)]
  ·rw[a (show k<=t by omega),a (show j<=t+1 by omega),a (show j-1<=t by omega),a (show k<=t+1 by omega)]
def det:Nat->(Nat->Nat->α)->α
 |0,_=>1
 |n+1,a=>Sg (λj=>sgn α j*a 0 j*det n (λi k=>a (i+1)<|skip j k))<|n+1
def Zbc:∀ {n:Nat} {a b:Nat->Nat->α},(∀i j,i<n->j<n->a i j=b i j)->det n a=det n b
 |0,_,_,_=>rfl
 |n+1,a,b,h=>by
  show Sg _ (n+1)=Sg _ (n+1);refine Sg_congr λj c=>?_;rw[h 0 j ⋯ c,Zbc (n:=n) (a:=λi k=>a (i+1)<|skip j k) (b:=λi k=>b (i+1)<|skip j k) λi k e d=>h _ _ ⋯ (by unfold skip;split <;> omega)]
def Zbl(a:Nat->Nat->α)(r:Nat)(f:Nat->α):Nat->Nat->α:=λi j=>if i=r then f j else a i j
def ZeB:∀ {n:Nat} {a:Nat->Nat->α} {r:Nat} (f g:Nat->α) (c:α),r<n->det n (Zbl a r λj=>f j+c*g j)=det n (Zbl a r f)+c*det n (Zbl a r g)
 |0,_,_,_,_,_,h=>⋯
 |n+1,a,0,f,g,c,_=>by
  show Sg _ (n+1)=Sg _ (n+1)+c*Sg _ (n+1);rw[Sg_mul,Sg_add];refine Sg_congr λj b=>?_;have e:∀h:Nat->α,det n (λi k=>Zbl a 0 h (i+1)<|skip j k)=det n (λi k=>a (i+1)<|skip j k):=λh=>Zbc λi k _ _=>by unfold Zbl;rw[if_neg ⋯]
  rw[e,e,e];show sgn α j*(f j+c*g j)*_=sgn α j*f j*_+c*(sgn α j*g j*_);grind
 |n+1,a,r+1,f,g,c,hr=>by
  show Sg _ (n+1)=Sg _ (n+1)+c*Sg _ (n+1);rw[Sg_mul,Sg_add];refine Sg_congr λj b=>?_;have e:∀h:Nat->α,det n (λi k=>Zbl a (r+1) h (i+1)<|skip j k)=det n (Zbl (λi k=>a (i+1)<|skip j k) r λk=>h<|skip j k):=λh=>Zbc λi k _ _=>by
   unfold Zbl
   by_cases q:i=r
   ·rw[if_pos ⋯,if_pos q]
   ·rw[if_neg ⋯,if_neg q]
  rw[e,e,e,ZeB (n:=n) (a:=λi k=>a (i+1)<|skip j k) (r:=r) (λk=>f<|skip j k) (λk=>g<|skip j k) c ⋯];have z:∀h:Nat->α,Zbl a (r+1) h 0 j=a 0 j:=λh=>by unfold Zbl;rw[if_neg ⋯]
  rw[z,z,z];grind
def ZlV{f:Nat->Nat->α}:∀n,(∀j k,k<j->j<=n->f j k=0-f k (j-1))->Sg (λj=>Sg (λk=>f j k) n) (n+1)=0
 |0,_=>by
  show (0:α)+0=0;grind
 |n+1,h=>by
  have c:=ZlV n λj k a e=>h j k a ⋯;show Sg (λj=>Sg (λk=>f j k)<|n+1) (n+1)+Sg (λk=>f (n+1) k) (n+1)=0;have b:Sg (λj=>Sg (λk=>f j k)<|n+1) (n+1)=Sg (λj=>Sg (λk=>f j k) n) (n+1)+Sg (λj=>f j n) (n+1):=by
   rw[Sg_add];rfl
  have d:Sg (λk=>f (n+1) k) (n+1)=Sg (λj=>(0-1)*f j n) (n+1):=Sg_congr λk a=>by
   rw[h (n+1) k a<|Q4 _];show 0-f k n=(0-1)*f k n;grind
  rw[b,d,c,<-Sg_mul];grind
def ZiJ:∀ {n:Nat} {a:Nat->Nat->α} {r:Nat},r+1<n->(∀j,a r j=a (r+1) j)->det n a=0
 |0,_,_,h,_=>⋯
 |1,_,_,h,_=>⋯
 |n+2,a,0,_,e=>by
  show Sg (λj=>sgn α j*a 0 j*Sg (λk=>sgn α k*a 1 (skip j k)*det n (λi t=>a (i+2)<|skip j<|skip k t)) (n+1)) (n+2)=0;have c:∀j,j<n+2->sgn α j*a 0 j*Sg (λk=>sgn α k*a 1 (skip j k)*det n (λi t=>a (i+2)<|skip j<|skip k t)) (n+1)=Sg (λk=>sgn α j*a 0 j*(sgn α k*a 0 (skip j k)*det n (λi t=>a (i+2)<|skip j<|skip k t))) (n+1):=λj _=>by
   rw[Sg_mul];exact Sg_congr λk _=>by rw[e<|skip j k]
  rw[Sg_congr c];refine ZlV (n+1) λj k b o=>?_;have g:skip j k=k:=by unfold skip;rw[if_pos b]
  have l:skip k (j-1)=j:=by unfold skip;rw[if_neg ⋯];omega
  have d:det n (λi t=>a (i+2)<|skip j<|skip k t)=det n (λi t=>a (i+2)<|skip k<|skip (j-1) t):=Zbc λi t _ _=>by rw[ZlU b]
  have f:sgn α j=0-sgn α (j-1):=by
   obtain ⟨m,rfl⟩:∃m,j=m+1:=(j-1,⋯)
   rfl
  rw[g,l,d,f];grind
 |n+2,a,r+1,h,e=>by
  show Sg _ (n+2)=0;have z:∀j,j<n+2->sgn α j*a 0 j*det (n+1) (λi k=>a (i+1)<|skip j k)=0:=λj _=>by
   rw[ZiJ (n:=n+1) (a:=λi k=>a (i+1)<|skip j k) (r:=r) ⋯ λk=>e<|skip j k];grind
  rw[Sg_congr z,Sg_zero]
def Zcp(a:Nat->Nat->α)(r:Nat):Zbl a r (a r)=a:=by
 funext i j
 unfold Zbl
 split
 ·rename_i e;rw[e]
 ·rfl
def ZgZ{n:Nat}{a:Nat->Nat->α}{r:Nat}(f g:Nat->α)(h:r<n):det n (Zbl a r λj=>f j+g j)=det n (Zbl a r f)+det n (Zbl a r g):=by
 have:=ZeB (a:=a) f g (1:α) h;have e:(λj=>f j+(1:α)*g j)=λj=>f j+g j:=by funext j;grind
 rw[e] at this;rw[this];grind
def ZpR{n:Nat}{a:Nat->Nat->α}{r:Nat}(h:r+1<n):det n (Zbl (Zbl a r<|a<|r+1) (r+1)<|a r)=0-det n a:=by
 have z:∀x:Nat->α,det n (Zbl (Zbl a r x) (r+1) x)=0:=λx=>ZiJ h λj=>by
  unfold Zbl;rw[if_neg ⋯,if_pos rfl,if_pos rfl]
 have c:∀x y:Nat->α,Zbl (Zbl a r x) (r+1) y=Zbl (Zbl a (r+1) y) r x:=λx y=>by
  funext i j
  unfold Zbl
  by_cases b:i=r+1
  ·rw[if_pos b,if_neg ⋯,if_pos b]
  ·by_cases e2:i=r
   ·rw[if_neg b,if_pos e2,if_pos e2]
   ·rw[if_neg b,if_neg e2,if_neg e2,if_neg b]
 have d:=z λj=>a r j+a (r+1) j;rw[ZgZ _ _ ⋯,c,c,ZgZ _ _ ⋯,ZgZ _ _ ⋯,<-c,<-c,<-c,<-c] at d;have f:=z λj=>a r j;have e:=z λj=>a (r+1) j;have s:Zbl (Zbl a r λj=>a r j) (r+1) (λj=>a (r+1) j)=a:=by
  have b:Zbl a r (λj=>a r j)=a:=Zcp a r;rw[b];exact Zcp a<|r+1
 rw[f,e,s] at d;have t:det n (Zbl (Zbl a r λj=>a (r+1) j) (r+1) λj=>a r j)=det n (Zbl (Zbl a r<|a<|r+1) (r+1)<|a r):=rfl;rw[t] at d;generalize det n (Zbl (Zbl a r<|a<|r+1) (r+1)<|a r)=u at *;generalize det n a=v at *;grind
def ZiK{n:Nat}:∀ {d:Nat} {a:Nat->Nat->α} {r:Nat},r+d+1<n->(∀j,a r j=a (r+d+1) j)->det n a=0
 |0,a,r,h,e=>ZiJ h e
 |d+1,a,r,h,e=>by
  have s:=ZpR (a:=a) (r:=r+d+1) (n:=n) ⋯;have z:det n (Zbl (Zbl a (r+d+1)<|a<|r+d+1+1) (r+d+1+1)<|a<|r+d+1)=0:=by
   refine ZiK (d:=d) (r:=r) ⋯ λj=>?_;unfold Zbl;rw[if_neg ⋯,if_neg ⋯,if_neg ⋯,if_pos rfl];exact e j
  rw[z] at s;generalize det n a=v at *;grind
def Zjr{n:Nat}{a:Nat->Nat->α}{r s:Nat}(hr:r<n)(c:s<n)(b:r≠s)(e:∀j,a r j=a s j):det n a=0:=by
 rcases Nat.lt_or_gt_of_ne b with h|h
 ·refine ZiK (d:=s-r-1) (r:=r) ⋯ λj=>?_;rw[e j];congr 1;omega
 ·refine ZiK (d:=r-s-1) (r:=s) ⋯ λj=>?_;rw[<-e j];congr 1;omega
def Znz{n:Nat}{a:Nat->Nat->α}{r s:Nat}(c:α)(hr:r<n)(d:s<n)(b:r≠s):det n (Zbl a r λj=>a r j+c*a s j)=det n a:=by
 rw[ZeB _ _ _ hr,show Zbl a r (λj=>a r j)=a from Zcp a r,Zjr (a:=Zbl a r λj=>a s j) hr d b λj=>by unfold Zbl;rw[if_pos rfl,if_neg<|Ne.symm b]];grind
def Zjs{n:Nat}{a:Nat->Nat->α}{r:Nat}(c:α)(hr:r<n):det n (Zbl a r λj=>c*a r j)=c*det n a:=by
 have e:(λj=>c*a r j)=λj=>0*a r j+c*a r j:=by funext j;grind
 have z:det n (Zbl a r λj=>0*a r j)=0:=by
  have f:(λj=>(0:α)*a r j)=λj=>0+0*a r j:=by funext j;grind
  have:=ZeB (a:=a) (λ_=>(0:α)) (λ_=>0) (0-1) hr;have d:(λj:Nat=>(0:α)+(0-1)*0)=λ_=>0:=by funext j;grind
  rw[d] at this;have b:(λj=>(0:α)*a r j)=λ_=>0:=by funext j;grind
  rw[b];generalize det n (Zbl a r λ_=>(0:α))=v at *;grind
 rw[e,ZeB (λj=>0*a r j) (a r) c hr,z,Zcp];grind
def Zov(F:Nat->Nat->α):∀n,Sg (λk=>Sg (λi=>F k i)<|k+1) n=Sg (λi=>Sg (λj=>F (i+j) i)<|n-i) n
 |0=>rfl
 |n+1=>by
  show Sg _ n+Sg (λi=>F n i) (n+1)=Sg _ n+Sg (λj=>F (n+j) n) (n+1-n);rw[Zov F n,show n+1-n=1 by omega];have e:Sg (λi=>Sg (λj=>F (i+j) i)<|n+1-i) n=Sg (λi=>Sg (λj=>F (i+j) i)<|n-i) n+Sg (λi=>F n i) n:=by
   rw[Sg_add];refine Sg_congr λi a=>?_;rw[show n+1-i=(n-i)+1 by omega];show _+F (i+(n-i)) i=_;rw[show i+(n-i)=n by omega]
  rw[e];show _+(Sg (λi=>F n i) n+F n n)=_+(0+F (n+0) n);generalize Sg (λi=>Sg (λj=>F (i+j) i)<|n-i) n=S;generalize Sg (λi=>F n i) n=U;show _=_+(0+F n n);grind
def Zow(h:Nat->α):∀n,Sg h n=Sg (λi=>h<|n-1-i) n
 |0=>rfl
 |n+1=>by
  rw[ZbJ (λi=>h<|n+1-1-i) n];show Sg h n+h n=h n+_;rw[Zow h n];have e:Sg (λi=>h<|n-1-i) n=Sg (λi=>h<|n+1-1-(i+1)) n:=Sg_congr λi _=>by rw[show n+1-1-(i+1)=n-1-i by omega]
  rw[e];grind
end
structure Ps (α:Type) where
 c:Nat->α
namespace Ps
section
variable{α:Type}[Lean.Grind.CommRing α]
def nc(n:Nat):α:=@NatCast.natCast α Lean.Grind.Semiring.natCast n
def ic(i:Int):α:=@IntCast.intCast α Lean.Grind.Ring.intCast i
def ext{f g:Ps α}(h:∀n,f.c n=g.c n):f=g:=by
 cases f;cases g
 congr 1
 funext n
 exact h n
def add(f g:Ps α):Ps α:=⟨λn=>f.c n+g.c n⟩
def mul(f g:Ps α):Ps α:=⟨λn=>Sg (λi=>f.c i*g.c (n-i))<|n+1⟩
def neg(f:Ps α):Ps α:=⟨λn => - f.c n⟩
def con(x:α):Ps α:=⟨λn=>if n=0 then x else 0⟩
def pow(f:Ps α):Nat->Ps α
 |0=>con 1
 |n+1=>mul (pow f n) f
def con_mul(x:α)(f:Ps α)(n:Nat):(mul (con x) f).c n=x*f.c n:=by
 show Sg (λi=>(if i=0 then x else 0)*f.c (n-i)) (n+1)=_;rw[ZbJ];have e:Sg (λi=>(if i+1=0 then x else 0)*f.c (n-(i+1))) n=Sg (λ_=>(0:α)) n:=Sg_congr λi _=>by rw[if_neg ⋯];grind
 rw[e,Sg_zero,if_pos rfl];show x*f.c n+0=_;grind
def Zga(f g:Ps α):mul f g=mul g f:=ext λn=>by
 show Sg _ (n+1)=Sg _ (n+1);rw[Zow];refine Sg_congr λi a=>?_;rw[show n+1-1-i=n-i by omega,show n-(n-i)=i by omega];grind
def Zrx(f g h:Ps α):mul (mul f g) h=mul f (mul g h):=ext λn=>by
 show Sg (λk=>Sg (λi=>f.c i*g.c (k-i)) (k+1)*h.c (n-k)) (n+1)=Sg (λi=>f.c i*Sg (λj=>g.c j*h.c (n-i-j)) (n-i+1)) (n+1);have e:Sg (λk=>Sg (λi=>f.c i*g.c (k-i)) (k+1)*h.c (n-k)) (n+1)=Sg (λk=>Sg (λi=>f.c i*(g.c (k-i)*h.c (n-k)))<|k+1) (n+1):=Sg_congr λk _=>by
  have a:Sg (λi=>f.c i*g.c (k-i)) (k+1)*h.c (n-k)=h.c (n-k)*Sg (λi=>f.c i*g.c (k-i)) (k+1):=by grind
  rw[a,Sg_mul];refine Sg_congr λi _=>?_;grind
 rw[e,Zov (λk i=>f.c i*(g.c (k-i)*h.c (n-k)))<|n+1];refine Sg_congr λi b=>?_;rw[Sg_mul,show n+1-i=n-i+1 by omega];refine Sg_congr λj _=>?_;rw[show i+j-i=j by omega,show n-(i+j)=n-i-j by omega]
def Zjt(f g h:Ps α):mul f (add g h)=add (mul f g) (mul f h):=ext λn=>by
 show Sg _ (n+1)=Sg _ (n+1)+Sg _ (n+1);rw[Sg_add];refine Sg_congr λi _=>?_;show f.c i*(g.c (n-i)+h.c (n-i))=_;grind
def ZlW(f:Ps α):mul (con 1) f=f:=ext λn=>by rw[con_mul];grind
def Zju(f:Ps α):mul (con 0) f=con 0:=ext λn=>by
 rw[con_mul];show 0*f.c n=if n=0 then 0 else 0
 split <;> grind
def ZiL{x y:α}(h:x=y):con x=con y:=by rw[h]
instance instRing:Lean.Grind.CommRing (Ps α) where
 add:=add
 mul:=mul
 neg:=neg
 sub f g:=add f (neg g)
 natCast:=⟨λn=>con (nc n)⟩
 ofNat n:=⟨con (OfNat.ofNat n)⟩
 nsmul:=⟨λn f=>mul (con (nc n)) f⟩
 npow:=⟨pow⟩
 intCast:=⟨λi=>con (ic i)⟩
 zsmul:=⟨λi f=>mul (con (ic i)) f⟩
 add_zero f:=ext λn=>by
  show f.c n+(if n=0 then 0 else 0)=f.c n
  split <;> grind
 add_comm f g:=ext λn=>by show f.c n+g.c n=g.c n+f.c n;grind
 add_assoc f g h:=ext λn=>by show f.c n+g.c n+h.c n=f.c n+(g.c n+h.c n);grind
 mul_assoc:=Zrx
 mul_one f:=(Zga f (con 1)).trans (ZlW f)
 one_mul f:=ZlW f
 left_distrib:=Zjt
 right_distrib f g h:=by
  show mul (add f g) h=add (mul f h) (mul g h);rw[Zga,Zjt,Zga h f,Zga h g]
 zero_mul f:=Zju f
 mul_zero f:=(Zga f (con 0)).trans (Zju f)
 pow_zero f:=rfl
 pow_succ f n:=rfl
 ofNat_succ n:=ext λk=>by
  show (if k=0 then OfNat.ofNat (n+1) else 0)=(if k=0 then OfNat.ofNat n else 0)+(if k=0 then (1:α) else 0)
  split
  ·exact Lean.Grind.Semiring.ofNat_succ n
  ·grind
 ofNat_eq_natCast n:=ZiL (Lean.Grind.Semiring.ofNat_eq_natCast n)
 nsmul_eq_natCast_mul n f:=rfl
 neg_add_cancel f:=ext λn=>by
  show-f.c n+f.c n=if n=0 then 0 else 0
  split <;> grind
 sub_eq_add_neg f g:=rfl
 neg_zsmul i f:=ext λn=>by
  show (mul (con (ic (-i))) f).c n = - (mul (con (ic i)) f).c n;rw[con_mul,con_mul,show (ic (-i):α) = - ic i from Lean.Grind.Ring.intCast_neg i];grind
 zsmul_natCast_eq_nsmul n f:=by
  show mul (con (ic (n:Int))) f=mul (con (nc n)) f;rw[ZiL (show (ic (n:Int):α)=nc n from Lean.Grind.Ring.intCast_natCast n)]
 intCast_ofNat n:=ZiL (Lean.Grind.Ring.intCast_ofNat n)
 intCast_neg i:=ext λn=>by
  show (if n=0 then (ic (-i):α) else 0) = - (if n=0 then ic i else 0)
  split
  ·exact Lean.Grind.Ring.intCast_neg i
  ·grind
 mul_comm:=Zga
def c_add(f g:Ps α)(n:Nat):(f+g).c n=f.c n+g.c n:=rfl
def c_mul(f g:Ps α)(n:Nat):(f*g).c n=Sg (λi=>f.c i*g.c (n-i)) (n+1):=rfl
def c_sub(f g:Ps α)(n:Nat):(f-g).c n=f.c n-g.c n:=by
 show f.c n + - g.c n=_;grind
def c_zero(n:Nat):(0:Ps α).c n=0:=by show (if n=0 then (0:α) else 0)=0;split <;> rfl
def c_one(n:Nat):(1:Ps α).c n=if n=0 then 1 else 0:=rfl
def c_Sg(h:Nat->Ps α)(n:Nat):∀m,(Sg h m).c n=Sg (λi=>(h i).c n) m
 |0=>c_zero n
 |m+1=>by
  show (Sg h m+h m).c n=_;rw[c_add,c_Sg h n m]
  rfl
end
end Ps
section
variable{α:Type}[Lean.Grind.CommRing α]
def ZfA{j t:Nat}(h:t<j):skip j t=t:=by unfold skip;rw[if_pos h]
def ZeC{j t:Nat}(h:j<=t):skip j t=t+1:=by unfold skip;rw[if_neg ⋯]
def ZfB:∀(n:Nat) (B:Nat->Nat->α),(∀j,j<n->B n j=0)->det (n+1) B=B n n*det n B
 |0,B,_=>by
  show 0+1*B 0 0*1=B 0 0*1;grind
 |n+1,B,h=>by
  show Sg (λj=>sgn α j*B 0 j*det (n+1) (λi k=>B (i+1)<|skip j k)) (n+2)=B (n+1) (n+1)*Sg (λj=>sgn α j*B 0 j*det n (λi k=>B (i+1)<|skip j k)) (n+1);show Sg _ (n+1)+sgn α (n+1)*B 0 (n+1)*det (n+1) (λi k=>B (i+1)<|skip (n+1) k)=_;rw[ZfB n (λi k=>B (i+1)<|skip (n+1) k) λj a=>by rw[ZfA ⋯];exact h j ⋯];show Sg _ (n+1)+sgn α (n+1)*B 0 (n+1)*(B (n+1) (skip (n+1) n)*det n (λi k=>B (i+1)<|skip (n+1) k))=_;rw[ZfA (show n<n+1 by omega),h n ⋯,Sg_mul];have e:Sg (λj=>sgn α j*B 0 j*det (n+1) (λi k=>B (i+1)<|skip j k)) (n+1)=Sg (λj=>B (n+1) (n+1)*(sgn α j*B 0 j*det n (λi k=>B (i+1)<|skip j k))) (n+1):=Sg_congr λj a=>by
   rw[ZfB n (λi k=>B (i+1)<|skip j k) λk b=>h _ (by unfold skip;split <;> omega)];show sgn α j*B 0 j*(B (n+1) (skip j n)*_)=_;rw[ZeC (show j<=n by omega)];generalize (det n _:α)=D;grind
  rw[e];generalize (Sg _ (n+1):α)=S;generalize (det n _:α)=D;grind
def lin(x y:α):Ps α:=⟨λn=>if n=0 then x else if n=1 then y else 0⟩
def Zg0(f:Ps α)(x y:α)(n:Nat):(f*lin x y).c n=f.c n*x+(if n=0 then 0 else f.c (n-1)*y):=by
 rw[Ps.c_mul]
 match n with
 |0 =>
  show 0+f.c 0*x=f.c 0*x+0;grind
 |n+1 =>
  show (Sg (λi=>f.c i*(lin x y).c (n+1-i)) n+f.c n*(lin x y).c (n+1-n))+f.c (n+1)*(lin x y).c (n+1-(n+1))=_;have e:Sg (λi=>f.c i*(lin x y).c (n+1-i)) n=Sg (λ_=>(0:α)) n:=Sg_congr λi a=>by
   show f.c i*(if n+1-i=0 then x else if n+1-i=1 then y else 0)=0;rw[if_neg ⋯,if_neg ⋯];grind
  rw[e,Sg_zero,show n+1-n=1 by omega,show n+1-(n+1)=0 by omega,if_neg ⋯,show n+1-1=n by omega];show 0+f.c n*y+f.c (n+1)*x=_;grind
def unz(a:Nat->Nat->α):Nat->Nat->Ps α:=λi j=>lin (if j=i then 1 else 0)<|0-a i j
def wv(a:Nat->Nat->α)(s:Nat):Nat->Nat->α
 |0,j=>a s j
 |t+1,j=>Sg (λi=>wv a s t i*a i j) s
def yv(a:Nat->Nat->α)(s i:Nat):Ps α:=⟨λn=>match n with
 |0=>0
 |t+1=>wv a s t i⟩
def cn(a:Nat->Nat->α)(s:Nat):Ps α:=⟨λn=>match n with
 |0=>1
 |1=>0-a s s
 |t+2=>0-Sg (λi=>wv a s t i*a i s) s⟩
def Zox(h:Nat->α)(n:Nat):0-Sg h n=Sg (λi=>0-h i) n:=by
 have e:0-Sg h n=(0-1)*Sg h n:=by grind
 rw[e,Sg_mul];exact Sg_congr λi _=>by grind
def Zkn(a:Nat->Nat->α){s j:Nat}(c:j<s):unz a s j+Sg (λi=>yv a s i*unz a i j) s=0:=Ps.ext λn=>by
 rw[Ps.c_add,Ps.c_Sg,Ps.c_zero];have e:Sg (λi=>(yv a s i*unz a i j).c n) s=Sg (λi=>(yv a s i).c n*(if j=i then 1 else 0)) s+Sg (λi=>if n=0 then 0 else (yv a s i).c (n-1)*(0-a i j)) s:=by
  rw[Sg_add];exact Sg_congr λi _=>Zg0 _ _ _ _
 rw[e,Sg_one,if_pos c];have u:(unz a s j).c n=if n=1 then 0-a s j else 0:=by
  show (if n=0 then (if j=s then (1:α) else 0) else if n=1 then 0-a s j else 0)=_;rw[if_neg (show ¬j=s by omega)]
  by_cases h:n=0
  ·rw[if_pos h,if_neg ⋯]
  ·rw[if_neg h]
 rw[u]
 match n with
 |0 =>
  rw[if_neg ⋯];have b:Sg (λi=>if (0:Nat)=0 then (0:α) else (yv a s i).c (0-1)*(0-a i j)) s=Sg (λ_=>(0:α)) s:=Sg_congr λi _=>if_pos rfl;rw[b,Sg_zero];show (0:α)+(0+0)=0;grind
 |1 =>
  rw[if_pos rfl];have b:Sg (λi=>if (1:Nat)=0 then (0:α) else (yv a s i).c (1-1)*(0-a i j)) s=Sg (λ_=>(0:α)) s:=Sg_congr λi _=>by
   rw[if_neg ⋯];show (0:α)*(0-a i j)=0;grind
  rw[b,Sg_zero];show 0-a s j+(a s j+0)=0;grind
 |t+2 =>
  rw[if_neg ⋯];have b:Sg (λi=>if t+2=0 then (0:α) else (yv a s i).c (t+2-1)*(0-a i j)) s=0-Sg (λi=>wv a s t i*a i j) s:=by
   rw[Zox];refine Sg_congr λi _=>?_;rw[if_neg ⋯];show wv a s t i*(0-a i j)=_;grind
  rw[b];show 0+(Sg (λi=>wv a s t i*a i j) s+_)=0;grind
def ZiM(a:Nat->Nat->α)(s:Nat):unz a s s+Sg (λi=>yv a s i*unz a i s) s=cn a s:=Ps.ext λn=>by
 rw[Ps.c_add,Ps.c_Sg];have e:Sg (λi=>(yv a s i*unz a i s).c n) s=Sg (λi=>if n=0 then 0 else (yv a s i).c (n-1)*(0-a i s)) s:=Sg_congr λi c=>by
  show (yv a s i*lin (if s=i then 1 else 0) (0-a i s)).c n=_;rw[Zg0,if_neg (show ¬s=i by omega)];grind
 rw[e];have u:(unz a s s).c n=if n=0 then 1 else if n=1 then 0-a s s else 0:=by
  show (if n=0 then (if s=s then (1:α) else 0) else if n=1 then 0-a s s else 0)=_;rw[if_pos rfl]
 rw[u]
 match n with
 |0 =>
  rw[if_pos rfl];have b:Sg (λi=>if (0:Nat)=0 then (0:α) else (yv a s i).c (0-1)*(0-a i s)) s=Sg (λ_=>(0:α)) s:=Sg_congr λi _=>if_pos rfl;rw[b,Sg_zero];show (1:α)+0=1;grind
 |1 =>
  rw[if_neg ⋯,if_pos rfl];have b:Sg (λi=>if (1:Nat)=0 then (0:α) else (yv a s i).c (1-1)*(0-a i s)) s=Sg (λ_=>(0:α)) s:=Sg_congr λi _=>by
   rw[if_neg ⋯];show (0:α)*(0-a i s)=0;grind
  rw[b,Sg_zero];show 0-a s s+0=0-a s s;grind
 |t+2 =>
  rw[if_neg ⋯,if_neg ⋯];show 0+_=0-Sg (λi=>wv a s t i*a i s) s;rw[Zox];have b:Sg (λi=>if t+2=0 then (0:α) else (yv a s i).c (t+2-1)*(0-a i s)) s=Sg (λi=>0-wv a s t i*a i s) s:=Sg_congr λi _=>by
   rw[if_neg ⋯];show wv a s t i*(0-a i s)=_;grind
  rw[b];grind
def ZlX(a:Nat->Nat->α)(r:Nat)(f g:Nat->α):Zbl (Zbl a r f) r g=Zbl a r g:=by
 funext i j
 unfold Zbl
 split
 ·rfl
 ·rfl
def Zjv{s:Nat}(E:Nat->Nat->α)(y:Nat->α):∀k,k<=s->det (s+1) (Zbl E s λj=>E s j+Sg (λi=>y i*E i j) k)=det (s+1) E
 |0,_=>by
  have e:(λj=>E s j+Sg (λi=>y i*E i j) 0)=E s:=by funext j;show E s j+0=_;grind
  rw[e,Zcp]
 |k+1,hk=>by
  rw[<-Zjv E y k ⋯];have h:=Znz (n:=s+1) (a:=Zbl E s λj=>E s j+Sg (λi=>y i*E i j) k) (r:=s) (s:=k) (y k) ⋯ ⋯ ⋯;rw[ZlX] at h;rw[<-h]
  congr 1
  congr 1
  funext j
  unfold Zbl;rw[if_pos rfl,if_neg (show ¬k=s by omega)];show E s j+(Sg (λi=>y i*E i j) k+y k*E k j)=_;grind
def qz(n:Nat)(a:Nat->Nat->α):Ps α:=det n<|unz a
def qz_step(a:Nat->Nat->α)(s:Nat):qz (s+1) a=cn a s*qz s a:=by
  show det (s+1) (unz a)=_;rw[<-Zjv (unz a) (yv a s) s (Q4 s),ZfB]
  · have b:Zbl (unz a) s (λj=>unz a s j+Sg (λi=>yv a s i*unz a i j) s) s s=cn a s:=by
      unfold Zbl;rw[if_pos rfl];exact ZiM a s
    rw[b]
    congr 1
    exact Zbc λi j d _=>by unfold Zbl; rw[if_neg ⋯]
  · intro j c
    unfold Zbl;rw[if_pos rfl];exact Zkn a c
def ZiN:∀j,sgn (Ps α) j=Ps.con (sgn α j)
 |0=>rfl
 |j+1=>Ps.ext λn=>by
  show (0-sgn (Ps α) j).c n=(if n=0 then 0-sgn α j else 0);rw[Ps.c_sub,ZiN j,Ps.c_zero];show 0-(if n=0 then sgn α j else 0)=_
  split <;> grind
def term_c(j:Nat)(x y:α)(D:Ps α)(n:Nat):(sgn (Ps α) j*lin x y*D).c n=sgn α j*(x*D.c n+(if n=0 then 0 else y*D.c (n-1))):=by
 have e:sgn (Ps α) j*lin x y*D=sgn (Ps α) j*(D*lin x y):=by generalize lin x y=L;grind
 rw[e,ZiN];show (Ps.mul (Ps.con<|sgn α j)<|D*lin x y).c n=_;rw[Ps.con_mul,Zg0]
 split <;> grind
def ZfC:∀(n:Nat) (A B:Nat->Nat->α),(∀m,n<m->(det n λi j=>lin (A i j)<|B i j).c m=0)/\(det n λi j=>lin (A i j)<|B i j).c n=det n B
 |0,A,B=>by
  refine (λm b=>?_,?_)
  ·show (1:Ps α).c m=0;rw[Ps.c_one,if_neg ⋯]
  ·show (1:Ps α).c 0=1;rw[Ps.c_one,if_pos rfl]
 |n+1,A,B=>by
  have a:=λj=>ZfC n (λi k=>A (i+1)<|skip j k)<|λi k=>B (i+1)<|skip j k;have e:∀m,(det (n+1) λi j=>lin (A i j)<|B i j).c m=Sg (λj=>sgn α j*(A 0 j*(det n λi k=>lin (A (i+1)<|skip j k)<|B (i+1)<|skip j k).c m+(if m=0 then 0 else B 0 j*(det n λi k=>lin (A (i+1)<|skip j k)<|B (i+1)<|skip j k).c (m-1)))) (n+1):=λm=>by
   show (Sg (λj=>sgn (Ps α) j*lin (A 0 j) (B 0 j)*det n (λi k=>lin (A (i+1)<|skip j k)<|B (i+1)<|skip j k))<|n+1).c m=_;rw[Ps.c_Sg];exact Sg_congr λj _=>term_c _ _ _ _ _
  refine (λm b=>?_,?_)
  ·rw[e m];have z:∀j,j<n+1->sgn α j*(A 0 j*(det n λi k=>lin (A (i+1)<|skip j k)<|B (i+1)<|skip j k).c m+(if m=0 then 0 else B 0 j*(det n λi k=>lin (A (i+1)<|skip j k)<|B (i+1)<|skip j k).c (m-1)))=0:=λj _=>by
    rw[(a j).1 m ⋯,if_neg ⋯,(a j).1 (m-1) ⋯];grind
   rw[Sg_congr z,Sg_zero]
  ·rw[e<|n+1];show _=Sg (λj=>sgn α j*B 0 j*det n (λi k=>B (i+1)<|skip j k)) (n+1);refine Sg_congr λj _=>?_;rw[(a j).1 (n+1) ⋯,if_neg ⋯,show n+1-1=n by omega,(a j).2];generalize (det n _:α)=D;grind
def qz_deg(n:Nat)(a:Nat->Nat->α){m:Nat}(h:n<m):(qz n a).c m=0:=(ZfC n _ _).1 m h
def cv(a:Nat->Nat->α)(s:Nat)(u:Nat->α):Nat->Nat->α
 |0,i=>u i
 |t+1,i=>Sg (λk=>a i k*cv a s u t k) s
def Zry(a:Nat->Nat->α)(s:Nat):∀(t:Nat) (u:Nat->α) (i:Nat),cv a s (cv a s u 1) t i=cv a s u (t+1) i
 |0,u,i=>rfl
 |t+1,u,i=>by
  show Sg (λk=>a i k*cv a s (cv a s u 1) t k) s=Sg (λk=>a i k*cv a s u (t+1) k) s;exact Sg_congr λk _=>by rw[Zry a s t u k]
def wv_cv(a:Nat->Nat->α)(s:Nat):∀(t:Nat) (u:Nat->α),Sg (λi=>wv a s t i*u i) s=Sg (λj=>a s j*cv a s u t j) s
 |0,u=>rfl
 |t+1,u=>by
  have e:Sg (λi=>wv a s (t+1) i*u i) s=Sg (λi=>Sg (λl=>wv a s t l*(a l i*u i)) s) s:=Sg_congr λi _=>by
   show Sg (λl=>wv a s t l*a l i) s*u i=_;have b:Sg (λl=>wv a s t l*a l i) s*u i=u i*Sg (λl=>wv a s t l*a l i) s:=by grind
   rw[b,Sg_mul];exact Sg_congr λl _=>by grind
  rw[e,ZeA];have c:Sg (λj=>Sg (λi=>wv a s t j*(a j i*u i)) s) s=Sg (λl=>wv a s t l*cv a s u 1 l) s:=Sg_congr λl _=>by
   rw[<-Sg_mul];rfl
  rw[c,wv_cv a s t<|cv a s u 1];exact Sg_congr λj _=>by rw[Zry]
end
end My.Rg
namespace My
open PySem L2 PyProof.Rows
section
variable{κ:KX}
def Zg1(f g:ZZlk κ):∀k,ZfL f g k=Rg.Sg (λi=>f.getD i 0*g.getD i 0) k
 |0=>rfl
 |k+1=>by show ZfL f g k+_=Rg.Sg _ k+_;rw[Zg1 f g k]
noncomputable def coL(f:Rg.Ps κ.F)(n:Nat):ZZlk κ:=(List.range n).map f.c
def ZaI(f:Rg.Ps κ.F)(n:Nat):(coL f n).length=n:=by unfold coL;rw[Q1,Qn]
def Ze0(f:Rg.Ps κ.F){n i:Nat}(h:i<n):(coL f n).getD i 0=f.c i:=by
 unfold coL;rw[Q2,Q3,Qs h]
 rfl
def Zjw{f:ZZlk κ}{i:Nat}(h:f.length<=i):f.getD i 0=0:=by
 rw[Q2,Uo h];rfl
def Zjx(f:Rg.Ps κ.F)(n:Nat):coL f (n+1)=coL f n++[f.c n]:=by
 unfold coL;rw[List.range_succ,Wh]
 rfl
def ZlY{f:Rg.Ps κ.F}{x:κ.F}(h:x∈coL f n):∃i,i<n/\x=f.c i:=by
 obtain ⟨i,a,rfl⟩:=W5.mp h;exact (i,Uh.mp a,rfl)
noncomputable def pN(f g:ZZlk κ)(place:Nat):κ.F:=Rg.Sg (λi=>f.getD i 0*g.getD (place-i) 0)<|place+1
def Zrz{a:Nat->Nat->κ.F}{s b:Nat}(h:b<s+2):pN (coL (Rg.cn a s)<|s+2) (coL (Rg.qz s a)<|s+1) b=(Rg.qz (s+1) a).c b:=by
 rw[Rg.qz_step,Rg.Ps.c_mul];unfold pN;refine Rg.Sg_congr λi c=>?_;rw[Ze0 _ ⋯]
 by_cases q:b-i<s+1
 ·rw[Ze0 _ q]
 ·rw[Zjw (by rw[ZaI];omega),Rg.qz_deg s a (show s<b-i by omega)]
abbrev EE:Nat:=2^200
abbrev GG:Nat:=7*2^200
def ZnA{h:Nat->κ.F}:∀k,(∀i,i<k->QN κ 1 M (h i))->QN κ 1 (k*M) (Rg.Sg h k)
 |0,_=>QN.zero
 |k+1,e=>by
  rw[Uz];exact QN.add ∅ (ZnA k λi a=>e i ⋯)<|e k ⋯
def QN.mul1{x y:κ.F}(h:QN κ 1 M x)(g:QN κ 1 N y):QN κ 1 (M*N) (x*y):=h.mul g
def QN.neg1{x:κ.F}(h:QN κ 1 M x):QN κ 1 M (0-x):=by
 cases κ with
 |r p a=>exact trivial
 |q =>
  obtain ⟨X,rfl,l⟩:=h;refine (-X,?_,by rw[Int.natAbs_neg];exact l);show (0:Rat)-Rat.divInt X 1=Rat.divInt (-X) 1;rw[<-Rat.neg_divInt];generalize Rat.divInt X 1=z;grind
def qn1:QN κ 1 1 (1:κ.F):=by
 cases κ with
 |r p a=>exact trivial
 |q=>exact (1,by show (1:Rat)=Rat.divInt 1 1;decide +kernel,∅)
def ZdC{A:ZZll κ}(h:AllR (QN κ D M) A)(i j:Nat):QN κ D M (ent A i j):=by
 unfold ent
 by_cases q:j<(A.getD i []).length
 ·refine h.getD i _ ?_;rw[Q2 (l:=A.getD i []),Q6 q];exact Qu _
 ·rw[Zjw ⋯];exact QN.zero
def ZnB{a:Nat->Nat->κ.F}{s:Nat}(h:∀i j,QN κ 1 EE<|a i j)(b:s<=7):∀t i,QN κ 1 (GG^t*EE)<|Rg.cv a s (λi=>a i s) t i
 |0,i=>(h i s).mono (by rw[Nat.pow_zero,Wv];exact Q4 _)
 |t+1,i=>by
  refine QN.mono (ZnA (M:=EE*(GG^t*EE)) s λk _=>(h i k).mul1<|ZnB h b t k) ?_;rw[Qk,Qm (GG^t) GG EE,show GG*EE=7*(EE*EE) by rw[show GG=7*EE from rfl,Qm],<-Qm EE (GG^t) EE,W3 EE<|GG^t,Qm (GG^t) EE EE,Nat.mul_left_comm (GG^t) 7];exact Qq _ b
def Zoy{a:Nat->Nat->κ.F}{s:Nat}(h:∀i j,QN κ 1 EE<|a i j)(b:s<=7)(t:Nat):QN κ 1 (GG^(t+2)) (Rg.Sg (λj=>a s j*Rg.cv a s (λi=>a i s) t j) s):=by
 refine QN.mono (ZnA (M:=EE*(GG^t*EE)) s λk _=>(h s k).mul1<|ZnB h b t k) ?_;have e:GG^(t+2)=49*(EE*(GG^t*EE)):=by
  rw[show t+2=t+1+1 from rfl,Qk,Qk,Qm,show GG*GG=49*(EE*EE) by rw[show GG=7*EE from rfl,Nat.mul_mul_mul_comm],<-Qm EE (GG^t) EE,W3 EE<|GG^t,Qm (GG^t) EE EE,Nat.mul_left_comm (GG^t) 49]
 rw[e];exact Qq _ ⋯
def Zoz(a:Nat->Nat->κ.F)(s t:Nat):(Rg.cn a s).c (t+2)=0-Rg.Sg (λj=>a s j*Rg.cv a s (λi=>a i s) t j) s:=by
 show 0-Rg.Sg (λi=>Rg.wv a s t i*a i s) s=_;rw[Rg.wv_cv a s t<|λi=>a i s]
def ZrA{a:Nat->Nat->κ.F}{s:Nat}(h:∀i j,QN κ 1 EE<|a i j)(b:s<=7):∀i,QN κ 1 (GG^i)<|(Rg.cn a s).c i
 |0=>qn1
 |1=>(h s s).neg1.mono (by rw[Ud];show EE<=7*EE;omega)
 |t+2=>by
  rw[Zoz];exact (Zoy h b t).neg1
def ZpS{a:Nat->Nat->κ.F}(h:∀i j,QN κ 1 EE<|a i j):∀s,s<=7->∀i,QN κ 1 (8^s*GG^i)<|(Rg.qz s a).c i
 |0,_,i=>by
  show QN κ 1 _ ((1:Rg.Ps κ.F).c i);rw[Rg.Ps.c_one]
  by_cases q:i=0
  ·rw[if_pos q,q];exact qn1
  ·rw[if_neg q];exact QN.zero
 |s+1,hs,i=>by
  by_cases q:i<=s+1
  ·rw[Rg.qz_step,Rg.Ps.c_mul];refine QN.mono (ZnA (M:=8^s*GG^i) (i+1) λk b=>?_) ?_
   ·refine QN.mono ((ZrA h ⋯ k).mul1<|ZpS h s ⋯<|i-k) ?_;rw[Nat.mul_left_comm,<-W4,show k+(i-k)=i by omega];exact Q4 _
   ·rw[Qk,W3 (8^s) 8,Qm];exact Qq _ ⋯
  ·rw[Rg.qz_deg (s+1) a ⋯];exact QN.zero
def gg5{i:Nat}(a:i<=7):GG^i<=10^500:=Q0 (Q5 ∅ a) ∅
def gg4{i:Nat}(a:i<=6):GG^i*EE<=10^500:=Q0 (Qq _<|Q5 ∅ a) ∅
def qz5{s i:Nat}(a:s<=7)(b:i<=7):8^s*GG^i<=10^500:=Q0 (Qj (Q5 ∅ a)<|Q5 ∅ b) ∅
def ZhS{x:κ.F}(h:QN κ 1 M x)(l:M<=10^500):B1 κ x:=h.b1 ∅ (Qa (show 1<2^1 by decide)<|Q5 ∅ ∅)<|Q7 l<|Qa (show 10^500<2^2000 by decide)<|Q5 ∅ ∅
end
end My
namespace L2
open PySem PySem.Spec PyProof.Rows
section
variable{X:Cx}
def ZnC(K:ZZfg)(h:X.K=K):SlR X (ZsC K):=by subst h;exact Ze8
end
end L2
namespace My.Rg
open PySem L2 PyProof.Rows
section
variable{α:Type}[Lean.Grind.CommRing α]
def skS(j t:Nat):skip (j+1) (t+1)=skip j t+1:=by
 by_cases h:t<j
 ·rw[ZfA h,ZfA ⋯]
 ·rw[ZeC ⋯,ZeC ⋯]
def skZ(j:Nat):skip (j+1) 0=0:=ZfA ⋯
def ZlZ:∀ {n:Nat} {a:Nat->Nat->α},det (n+1) a=Sg (λi=>sgn α i*a i 0*det n λt k=>a (skip i t)<|k+1) (n+1)
 |0,a=>by
  show (0:α)+sgn α 0*a 0 0*1=0+sgn α 0*a 0 0*1
  rfl
 |n+1,a=>by
  show Sg (λj=>sgn α j*a 0 j*det (n+1) (λi k=>a (i+1)<|skip j k)) (n+1+1)=_;rw[ZbJ,ZbJ<|λi=>sgn α i*a i 0*det (n+1) λt k=>a (skip i t)<|k+1];have z:det (n+1) (λi k=>a (i+1)<|skip 0 k)=det (n+1) λt k=>a (skip 0 t) (k+1):=Zbc λi k _ _=>by rw[ZeC<|Qg k,ZeC<|Qg i]
  rw[z]
  congr 1
  have l:∀j,sgn α (j+1)*a 0 (j+1)*det (n+1) (λi k=>a (i+1)<|skip (j+1) k)=Sg (λi=>sgn α (j+1)*a 0 (j+1)*(sgn α i*a (i+1) 0*det n λt k=>a (skip i t+1)<|skip j k+1)) (n+1):=λj=>by
   rw[<-Sg_mul,ZlZ (n:=n) (a:=λi k=>a (i+1)<|skip (j+1) k)]
   congr 1
   refine Sg_congr λi _=>?_;rw[skZ]
   congr 1
   exact Zbc λt k _ _=>by rw[skS]
  have r:∀i,sgn α (i+1)*a (i+1) 0*det (n+1) (λt k=>a (skip (i+1) t)<|k+1)=Sg (λj=>sgn α (i+1)*a (i+1) 0*(sgn α j*a 0 (j+1)*det n λt k=>a (skip i t+1)<|skip j k+1)) (n+1):=λi=>by
   rw[<-Sg_mul]
   congr 1
   show Sg _ (n+1)=_;refine Sg_congr λj _=>?_;show sgn α j*a (skip (i+1) 0) (j+1)*det n (λt k=>a (skip (i+1)<|t+1)<|skip j k+1)=_;rw[skZ]
   congr 1
   exact Zbc λt k _ _=>by rw[skS]
  rw[Sg_congr<|λj _=>l j,Sg_congr<|λi _=>r i,ZeA];refine Sg_congr λi _=>Sg_congr λj _=>?_;generalize (det n λt k=>a (skip i t+1)<|skip j k+1)=x;show (0-sgn α j)*a 0 (j+1)*(sgn α i*a (i+1) 0*x)=(0-sgn α i)*a (i+1) 0*(sgn α j*a 0 (j+1)*x);grind
def Zgb:∀ {n:Nat} {a:Nat->Nat->α},det n (λi j=>a j i)=det n a
 |0,_=>rfl
 |n+1,a=>by
  rw[ZlZ (a:=a)];show Sg (λj=>sgn α j*a j 0*det n (λi k=>a (skip j k)<|i+1)) (n+1)=_;exact Sg_congr λj _=>by rw[Zgb (n:=n) (a:=λi k=>a (skip j i)<|k+1)]
def xa(a:Nat->Nat->α):Nat->Nat->Ps α:=λi j=>lin (0-a i j) (if i=j then 1 else 0)
def chi(n:Nat)(a:Nat->Nat->α):Ps α:=det n<|xa a
def dl(α:Type)[Lean.Grind.CommRing α](r k:Nat):α:=if r=k then 1 else 0
def Zl0:∀(n:Nat) (A B:Nat->Nat->α) (k:Nat),k<=n->(det n λi j=>lin (A i j)<|B i j).c k=(det n λi j=>lin (B i j)<|A i j).c (n-k)
 |0,_,_,k,h=>by rw[show k=0 by omega];rfl
 |n+1,A,B,k,h=>by
  have e:∀(A B:Nat->Nat->α) m,(det (n+1) λi j=>lin (A i j)<|B i j).c m=Sg (λj=>sgn α j*(A 0 j*(det n λi k=>lin (A (i+1)<|skip j k)<|B (i+1)<|skip j k).c m+(if m=0 then 0 else B 0 j*(det n λi k=>lin (A (i+1)<|skip j k)<|B (i+1)<|skip j k).c (m-1)))) (n+1):=λA B m=>by
   show (Sg (λj=>sgn (Ps α) j*lin (A 0 j) (B 0 j)*det n (λi k=>lin (A (i+1)<|skip j k)<|B (i+1)<|skip j k))<|n+1).c m=_;rw[Ps.c_Sg];exact Sg_congr λj _=>term_c _ _ _ _ _
  rw[e,e];refine Sg_congr λj _=>?_;have a:=Zl0 n (λi k=>A (i+1)<|skip j k)<|λi k=>B (i+1)<|skip j k;have b:=λA B:Nat->Nat->α=>(ZfC n A B).1
  congr 1
  by_cases h0:k=0
  ·subst h0;rw[if_pos rfl,if_neg ⋯,b _ _ (n+1-0) ⋯,show n+1-0-1=n-0 by omega,<-a 0 ⋯];grind
  ·rw[if_neg h0,a (k-1) ⋯,show n-(k-1)=n+1-k by omega]
   by_cases h1:k=n+1
   ·subst h1;rw[b _ _ (n+1) ⋯,Ue,if_pos rfl];grind
   ·rw[if_neg ⋯,a k ⋯,show n+1-k-1=n-k by omega];grind
def chi_qz{n:Nat}{a:Nat->Nat->α}{k:Nat}(h:k<=n):(chi n a).c k=(qz n a).c (n-k):=by
 unfold chi qz;have e:=Zl0 n (λi j=>0-a i j) (dl α) k h;refine e.trans ?_
 congr 1
 refine Zbc λi j _ _=>?_;show lin (dl α i j) (0-a i j)=lin (if j=i then 1 else 0) (0-a i j)
 congr 1
 unfold dl
 by_cases q:i=j
 ·rw[if_pos q,if_pos q.symm]
 ·rw[if_neg q,if_neg<|λz=>q z.symm]
def Zjy:∀n,det n (dl α)=1
 |0=>rfl
 |n+1=>by
  show Sg (λj=>sgn α j*dl α 0 j*det n (λi k=>dl α (i+1)<|skip j k)) (n+1)=1;rw[ZbJ];have b:det n (λi k=>dl α (i+1)<|skip 0 k)=1:=by
   rw[<-Zjy n];refine Zbc λi k _ _=>?_;rw[ZeC<|Qg k];unfold dl
   by_cases q:i=k
   ·rw[if_pos q,if_pos ⋯]
   ·rw[if_neg q,if_neg ⋯]
  have c:Sg (λi=>sgn α (i+1)*dl α 0 (i+1)*det n (λa k=>dl α (a+1)<|skip (i+1) k)) n=Sg (λ_=>(0:α)) n:=Sg_congr λi _=>by
   rw[show dl α 0 (i+1)=0 from if_neg ⋯];grind
  rw[b,c,Sg_zero,show dl α 0 0=1 from if_pos rfl];show 1*1*1+0=(1:α);grind
def ZpT(n:Nat)(a:Nat->Nat->α):(chi n a).c n=1:=by
 refine ((ZfC n _ _).2).trans ?_;exact Zjy n
def pX(x:α):Nat->α
 |0=>1
 |n+1=>pX x n*x
def ZoA(x:α)(m:Nat):∀n,pX x (m+n)=pX x m*pX x n
 |0=>by show pX x m=pX x m*1;grind
 |n+1=>by
  show pX x (m+n)*x=pX x m*(pX x n*x);rw[ZoA x m n];grind
def sub(x:α)(f:Ps α):Ps α:=⟨λk=>pX x k*f.c k⟩
def sub_mul(x:α)(f g:Ps α):sub x (f*g)=sub x f*sub x g:=Ps.ext λn=>by
 show pX x n*(f*g).c n=_;rw[Ps.c_mul,Ps.c_mul,Sg_mul];refine Sg_congr λi a=>?_;show _=pX x i*f.c i*(pX x (n-i)*g.c (n-i));rw[show n=i+(n-i) by omega,ZoA,show i+(n-i)-i=n-i by omega];grind
def Zl1(x c:α):sub x (Ps.con c)=Ps.con c:=Ps.ext λn=>by
 show pX x n*(if n=0 then c else 0)=if n=0 then c else 0
 by_cases h:n=0
 ·subst h;rw[if_pos rfl];show 1*c=c;grind
 ·rw[if_neg h];grind
def ZrB(x:α)(h:Nat->Ps α)(m:Nat):sub x (Sg h m)=Sg (λi=>sub x<|h i) m:=Ps.ext λn=>by
 show pX x n*(Sg h m).c n=_;rw[Ps.c_Sg,Ps.c_Sg,Sg_mul]
 rfl
def Zl2(x:α):∀(n:Nat) (M:Nat->Nat->Ps α),det n (λi j=>sub x<|M i j)=sub x (det n M)
 |0,M=>(Zl1 x 1).symm
 |n+1,M=>by
  show Sg (λj=>sgn (Ps α) j*sub x (M 0 j)*det n (λi k=>sub x<|M (i+1)<|skip j k)) (n+1)=sub x (Sg (λj=>sgn (Ps α) j*M 0 j*det n (λi k=>M (i+1)<|skip j k))<|n+1);rw[ZrB];refine Sg_congr λj _=>?_;rw[sub_mul,sub_mul,Zl2 x n<|λi k=>M (i+1)<|skip j k,ZiN,Zl1]
def qz_scl(x:α)(n:Nat)(a:Nat->Nat->α)(k:Nat):(qz n λi j=>x*a i j).c k=pX x k*(qz n a).c k:=by
 have e:(unz λi j=>x*a i j)=λi j=>sub x (unz a i j):=by
  funext i j
  refine Ps.ext λm=>?_;show (if m=0 then (if j=i then (1:α) else 0) else if m=1 then 0-x*a i j else 0)=pX x m*(if m=0 then (if j=i then (1:α) else 0) else if m=1 then 0-a i j else 0)
  by_cases h:m=0
  ·subst h;rw[if_pos rfl,if_pos rfl];show _=1*_;grind
  ·rw[if_neg h,if_neg h]
   by_cases h1:m=1
   ·subst h1;rw[if_pos rfl,if_pos rfl];show _=1*x*_;grind
   ·rw[if_neg h1,if_neg h1];grind
 unfold qz;rw[e,Zl2]
 rfl
end
end My.Rg
namespace My
open PySem L2 PyProof.Rows
section
variable{κ:KX}
def QN.up{D E:Int}(c:0<D)(d:0<E){M e:Nat}{x:κ.F}(h:QN κ D M x)(a:E.natAbs<=e):QN κ (D*E) (M*e) x:=by
 cases κ with
 |r p f=>exact trivial
 |q =>
  obtain ⟨X,rfl,b⟩:=h;refine (X*E,?_,by rw[Ql];exact Qj b a);rw[Wb ⋯<|Int.ne_of_gt<|Wa c d,Qx,W1 D E]
def QN.neg{x:κ.F}(h:QN κ D M x):QN κ D M (0-x):=by
 cases κ with
 |r p a=>exact trivial
 |q =>
  obtain ⟨X,rfl,b⟩:=h;refine (-X,?_,⋯);have:(0-Rat.divInt X D:Rat) = -Rat.divInt X D:=by grind
  show (0-Rat.divInt X D:Rat)=_;rw[this,Rat.neg_divInt]
def QN.sub{D:Int}(a:0<D){M N:Nat}{x y:κ.F}(h:QN κ D M x)(g:QN κ D N y):QN κ D (M+N) (x-y):=by
 have e:x-y=x+(0-y):=by grind
 rw[e];exact QN.add a h g.neg
def ZhT{E N:Nat}(o:0<E)(f:0<N){c:κ.F}(h:QN κ (E:Int) N c)(g:c≠0):∃a:Nat,0<a/\a<=N/\QN κ (a:Int) E (Fd.inv c):=by
 cases κ with
 |r p n=>exact (1,∅,f,trivial)
 |q =>
  obtain ⟨X,e,l⟩:=h;have b:X≠0:=λz=>g (by rw[e,z];exact Rat.zero_divInt _);have m:Rat.divInt X E*Rat.divInt E X=(1:Rat):=by
   rw[Ua];have:X*(E:Int)≠0:=Int.mul_ne_zero b ⋯;have k:(1:Rat)=Rat.divInt 1 1:=rfl;have j:(E:Int)*X≠0:=Int.mul_ne_zero ⋯ b;rw[k,Wb j ∅];rw[Ut,Int.one_mul,W1]
  have d:Fd.inv c=Rat.divInt E X:=by
   have i:(c:Rat)*Rat.divInt E X=1:=by rw[e];exact m
   exact (ZgM (α:=Rat) i).symm
  refine (X.natAbs,⋯,l,?_);show ∃Y:Int,(Fd.inv c:Rat)=Rat.divInt Y (X.natAbs:Int)/\Y.natAbs<=E;rcases Int.lt_or_gt_of_ne b with s|s
  ·refine (-(E:Int),?_,⋯);have:((X.natAbs:Nat):Int) = -X:=⋯;rw[d,this,Wb b ⋯,Uj,Int.neg_mul]
  ·refine ((E:Int),?_,⋯);have:((X.natAbs:Nat):Int)=X:=⋯;rw[d,this]
noncomputable def gs(G:ZZlk κ)(p k:Nat):κ.F:=if p<=k then G.getD (k-p) 0 else 0
def Zah{F:ZZlk κ}{k:Nat}(h:F.length<=k):F.getD k 0=0:=by
 rw[Q2,Uo h];rfl
def ZrC{F G:ZZlk κ}:∀j:Nat,pI F G i j k=if i<=k/\k<i+j then F.getD i 0*G.getD (k-i) 0 else 0
 |0=>by rw[if_neg ⋯];rfl
 |j+1=>by
  show pI F G i j k+(if i+j=k then F.getD i 0*G.getD j 0 else 0)=_;rw[ZrC j]
  by_cases a:i+j=k
  ·subst a;rw[if_neg ⋯,if_pos rfl,if_pos ⋯,Nat.add_sub_cancel_left];grind
  ·rw[if_neg a]
   by_cases b:i<=k/\k<i+j
   ·rw[if_pos b,if_pos ⋯];grind
   ·rw[if_neg b,if_neg ⋯];exact add00
def ZnD{F G:ZZlk κ}:pI F G i G.length k=F.getD i 0*gs G i k:=by
 rw[ZrC];unfold gs
 by_cases a:i<=k
 ·rw[if_pos a]
  by_cases b:k<i+G.length
  ·rw[if_pos (a,b)]
  ·rw[if_neg ⋯,Zah (show G.length<=k-i by omega)];grind
 ·rw[if_neg ⋯,if_neg a];grind
def Zl3{G:ZZlk κ}{m k:Nat}:∀n:Nat,pO (List.replicate m (0:κ.F)) G n k=0
 |0=>rfl
 |n+1=>by
  show pO _ G n k+pI _ G n G.length k=0;have e:(List.replicate m (0:κ.F)).getD n 0=0:=by
   rw[Q2,Wq]
   split <;> rfl
  rw[Zl3 n,ZnD,e];grind
def ZnE{L:ZZlk κ}{p i:Nat}{x:κ.F}(a:p<L.length):(L.set p x).getD i 0=if p=i then x else L.getD i 0:=by
 rw[Q2,Q2,Um]
 by_cases e:p=i
 ·rw[if_pos e,if_pos e,if_pos a];rfl
 ·rw[if_neg e,if_neg e]
def ZoB{L G:ZZlk κ}{p k:Nat}{x:κ.F}(b:p<L.length)(a:L.getD p 0=0):∀n:Nat,pO (L.set p x) G n k=pO L G n k+(if p<n then x*gs G p k else 0)
 |0=>by rw[if_neg ⋯];exact add00.symm
 |n+1=>by
  show pO (L.set p x) G n k+pI (L.set p x) G n G.length k=(pO L G n k+pI L G n G.length k)+_;rw[ZoB b a n,ZnD,ZnD,ZnE b]
  by_cases e:p=n
  ·subst e;rw[if_pos rfl,if_neg ⋯,if_pos ⋯,a];grind
  ·rw[if_neg e]
   by_cases l:p<n
   ·rw[if_pos l,if_pos ⋯];grind
   ·rw[if_neg l,if_neg ⋯];grind
def ZhU{T:ZZlk κ}{r:Nat}(h:∀j,r<=j->T.getD j 0=0)(k:Nat):(T.take r).getD k 0=T.getD k 0:=by
 by_cases c:k<r
 ·rw[Q2,U3,if_pos c,<-Q2]
 ·rw[h k ⋯,Zah (by rw[Qr];omega)]
def Trm(F:ZZlk κ):Prop:=F.length=0\/F.getD (F.length-1) 0≠0
def Zg2{T:ZZlk κ}{r:Nat}(a:r<=T.length)(h:r=0\/T.getD (r-1) 0≠0):Trm (T.take r):=by
 have e:(T.take r).length=r:=by rw[Qr];omega
 rcases h with h|h
 ·left;omega
 ·by_cases z:r=0
  ·left;omega
  ·right
   rw[e,Q2,U3,if_pos ⋯,<-Q2];exact h
def ZpU{F G:ZZlk κ}(d:Trm F)(f:Trm G)(h:∀k,F.getD k 0=G.getD k 0):F=G:=by
 have a:∀ {A B:ZZlk κ},Trm A->(∀k,A.getD k 0=B.getD k 0)->A.length<=B.length:=by
  intro A B b h;rcases b with z|z
  ·omega
  ·refine Wu λc=>z ?_;rw[h,Zah ⋯]
 have l:F.length=G.length:=Nat.le_antisymm (a d h)<|a f λk=>(h k).symm
 apply List.ext_getElem l
 intro i e g;have:=h i;rw[Q2,Q2,Q6 e,Q6 g] at this;exact this
noncomputable def dI(G:ZZlk κ)(x:κ.F)(p a:Nat)(R:ZZlk κ):ZZlk κ:=(List.range R.length).map λk=>if p<=k/\k<p+a then R.getD k 0-x*G.getD (k-p) 0 else R.getD k 0
def ZeM(G:ZZlk κ)(x:κ.F)(p a:Nat)(R:ZZlk κ):(dI G x p a R).length=R.length:=by unfold dI;simp
def Zg3{G:ZZlk κ}{x:κ.F}{R:ZZlk κ}{k:Nat}(h:k<(dI G x p a R).length):(dI G x p a R)[k]=if p<=k/\k<p+a then R.getD k 0-x*G.getD (k-p) 0 else R.getD k 0:=by simp[dI]
def Zl4{G:ZZlk κ}{x:κ.F}{p a:Nat}{R:ZZlk κ}{k:Nat}(h:p+a<=R.length):(dI G x p a R).getD k 0=if p<=k/\k<p+a then R.getD k 0-x*G.getD (k-p) 0 else R.getD k 0:=by
 by_cases c:k<R.length
 ·have b:k<(dI G x p a R).length:=by rw[ZeM];exact c
  rw[Q2,Q6 b];exact Zg3 b
 ·rw[Zah (by rw[ZeM];omega),if_neg ⋯,Zah ⋯]
def Zux(G:ZZlk κ)(x:κ.F)(p:Nat)(R:ZZlk κ):dI G x p 0 R=R:=by
 apply List.ext_getElem (by rw[ZeM])
 intro k b a;rw[Zg3,if_neg ⋯,Q2,Q6 a];rfl
def ZpV{G:ZZlk κ}{x:κ.F}{p a:Nat}{R:ZZlk κ}(h:p+a<R.length):dI G x p (a+1) R=(dI G x p a R).set (p+a) ((dI G x p a R).getD (p+a) 0-x*G.getD a 0):=by
 rw[Zl4 ⋯,if_neg ⋯]
 apply List.ext_getElem (by rw[Wc,ZeM,ZeM])
 intro k c d;rw[List.getElem_set,Zg3,Zg3]
 by_cases e:p+a=k
 ·subst e;rw[if_pos ⋯,if_pos rfl,Nat.add_sub_cancel_left]
 ·rw[if_neg e]
  by_cases b:p<=k/\k<p+a
  ·rw[if_pos b,if_pos ⋯]
  ·rw[if_neg b,if_neg ⋯]
structure Dv (F G:ZZlk κ) (t:Nat) (qs R:ZZlk κ):Prop where
 lq:qs.length=t
 lr:R.length=F.length
 eq:∀k,F.getD k 0=pO (List.replicate (F.length+1-G.length-t) 0++qs.reverse) G (F.length+1-G.length) k+(if k<F.length-t then R.getD k 0 else 0)
 top:∀x,qs[0]?=some x->x=F.getD (F.length-1) 0*Fd.inv (G.getD (G.length-1) 0)
 fst:t=0->R=F
def Zuy(F G:ZZlk κ):Dv F G 0 [] F:=by
 refine (rfl,rfl,λk=>?_,λx h=>by simp at h,λ_=>rfl);rw[List.reverse_nil,Wp,Zl3]
 by_cases c:k<F.length-0
 ·rw[if_pos c];grind
 ·rw[if_neg c,Zah ⋯];exact add00.symm
def ZpW{F G:ZZlk κ}{t d p:Nat}{e R:ZZlk κ}{x:κ.F}(s:G.length=d+1)(u:G.getD d 0≠0)(B:p+(d+1)+t=F.length)(h:Dv F G t e R)(i:x=R.getD (p+d) 0*Fd.inv (G.getD d 0)):Dv F G (t+1) (e++[x]) (dI G x p d R):=by
 have j:=h.lq;have v:=h.lr;have C:=Fd.mul_inv (G.getD d 0) u;have o:F.length+1-G.length=p+t+1:=⋯;refine (by rw[Qi,j];rfl,by rw[ZeM,v],λk=>?_,λy f=>?_,λz=>⋯)
 ·rw[h.eq k,o];have q:List.replicate (p+t+1-(t+1)) (0:κ.F)++(e++[x]).reverse=(List.replicate (p+t+1-t) (0:κ.F)++e.reverse).set p x:=by
   have n:p+t+1-(t+1)=p:=⋯;have r:p+t+1-t=p+1:=⋯;rw[n,r,List.reverse_append,List.replicate_succ',List.append_assoc];show List.replicate p 0++(x::e.reverse)=(List.replicate p 0++(0::e.reverse)).set p x;rw[List.set_append_right _ _ (by rw[W8];omega),W8,Ue]
   rfl
  have m:p<(List.replicate (p+t+1-t) (0:κ.F)++e.reverse).length:=by rw[Qi,W8];omega
  have w:(List.replicate (p+t+1-t) (0:κ.F)++e.reverse).getD p 0=0:=by
   rw[Q2,Wr (by rw[W8];omega),Wq,if_pos ⋯];rfl
  rw[q,ZoB m w,Zl4 ⋯];have l:p<p+t+1:=⋯
  simp only[l,if_true]
  have g:(if k<F.length-t then R.getD k 0 else 0)=x*gs G p k+(if k<F.length-(t+1) then (if p<=k/\k<p+d then R.getD k 0-x*G.getD (k-p) 0 else R.getD k 0) else 0):=by
   unfold gs
   by_cases a:k<p
   ·rw[if_pos ⋯,if_neg ⋯,if_pos ⋯,if_neg ⋯];grind
   ·by_cases b:k<p+d
    ·rw[if_pos ⋯,if_pos ⋯,if_pos ⋯,if_pos ⋯];grind
    ·by_cases c:k=p+d
     ·subst c;rw[if_pos ⋯,if_pos ⋯,if_neg ⋯,Nat.add_sub_cancel_left,i];grind
     ·rw[if_neg ⋯,if_pos ⋯,if_neg ⋯,Zah (show G.length<=k-p by omega)];grind
  rw[g];grind
 ·by_cases z:t=0
  ·subst z;have A:e=[]:=List.length_eq_zero_iff.mp j;subst A;have f:some x=some y:=f
   cases f
   rw[i,h.fst rfl,s]
   congr 2
   omega
  ·rw[Wr ⋯] at f;exact h.top y f
def ZoC{F G:ZZlk κ}{t d:Nat}{a R:ZZlk κ}(l:G.length=d+1)(i:t=F.length+1-G.length)(h:Dv F G t a R)(k:Nat):F.getD k 0=pO a.reverse G a.reverse.length k+(R.take d).getD k 0:=by
 have e:=h.eq k;have g:=h.lq;have j:=h.lr;rw[<-i,Ue] at e;rw[Wd,g,e];show pO ([]++a.reverse) G t k+_=_;rw[List.nil_append]
 congr 1
 by_cases c:F.length<=d
 ·have f:t=0:=⋯;subst f;rw[U1 ⋯]
  by_cases b:k<F.length-0
  ·rw[if_pos b]
  ·rw[if_neg b,Zah ⋯]
 ·by_cases b:k<F.length-t
  ·rw[if_pos b,Q2,Q2,U3,if_pos ⋯]
  ·rw[if_neg b,Zah (by rw[Qr];omega)]
end
structure DvIn {κ:KX} (F G:ZZlk κ) (D E M N:Nat):Prop where
 lF:F.length<=100
 lG:G.length<=100
 tG:Trm G
 qF:∀x∈F,QN κ (D:Int) M x
 qG:∀x∈G,QN κ (E:Int) N x
 d0:0<D
 e0:0<E
 m0:0<M
 n0:0<N
 eN:E<=N
 bD:D*(N*E)^(F.length+1-G.length)<2^3000
 bM:M*(2*(E*N))^(F.length+1-G.length)<2^3000
 bE:E<2^3000
 bN:N<2^3000
structure DvOut {κ:KX} (F G:ZZlk κ) (D E M N a:Nat) (qs R:ZZlk κ) (r:Nat):Prop where
 dv:Dv F G (F.length+1-G.length) qs R
 lr:r<=(R.take (G.length-1)).length
 r0:∀j,r<=j->(R.take (G.length-1)).getD j 0=0
 r1:r=0\/(R.take (G.length-1)).getD (r-1) 0≠0
 a0:0<a
 aN:a<=N
 qq:∀x∈qs,QN κ ((D*(a*E)^(F.length+1-G.length):Nat):Int) (M*(2*(E*N))^(F.length+1-G.length)) x
 qR:∀x∈R,QN κ ((D*(a*E)^(F.length+1-G.length):Nat):Int) (M*(2*(E*N))^(F.length+1-G.length)) x
section
variable{κ:KX}
def Ztb{D a E t n:Nat}(b:0<a)(c:0<E)(h:t<=n):D*(a*E)^t<=D*(a*E)^n:=Qb _<|Q5 (Q8 b c) h
def Ztc{M E N t n:Nat}(b:0<E)(a:0<N)(h:t<=n):M*(2*(E*N))^t<=M*(2*(E*N))^n:=Qb _<|Q5 (Q8 ∅<|Q8 b a) h
def Zuz{D a E N n:Nat}(h:a<=N):D*(a*E)^n<=D*(N*E)^n:=Qb _<|U7 (Qq _ h) n
def QN.upN{D c:Nat}(b:0<D)(a:0<c){M:Nat}{x:κ.F}(h:QN κ (D:Int) M x):QN κ ((D*c:Nat):Int) (M*c) x:=by
 rw[W2];exact QN.up ⋯ ⋯ h ⋯
def QN.mulN{D E M N:Nat}{x y:κ.F}(h:QN κ (D:Int) M x)(g:QN κ (E:Int) N y):QN κ ((D*E:Nat):Int) (M*N) (x*y):=by
 rw[W2];exact QN.mul h g
def Ztd{D a E M N t:Nat}(q:0<D)(f:0<a)(j:a<=N)(e:0<E)(i:E<=N){R c g:κ.F}(w:QN κ ((D*(a*E)^t:Nat):Int) (M*(2*(E*N))^t) R)(p:QN κ (a:Int) E c)(s:QN κ (E:Int) N g):QN κ ((D*(a*E)^(t+1):Nat):Int) (M*(2*(E*N))^(t+1)) (R*c)/\QN κ ((D*(a*E)^(t+1):Nat):Int) (M*(2*(E*N))^(t+1)) (R*c*g)/\(∀S:κ.F,QN κ ((D*(a*E)^t:Nat):Int) (M*(2*(E*N))^t) S->QN κ ((D*(a*E)^(t+1):Nat):Int) (M*(2*(E*N))^(t+1)) S/\QN κ ((D*(a*E)^(t+1):Nat):Int) (M*(2*(E*N))^(t+1)) (S-R*c*g)):=by
 have b:0<D*(a*E)^t:=Q8 q<|Q9<|Q8 f e;have eD:D*(a*E)^(t+1)=D*(a*E)^t*(a*E):=by rw[Qk,Qm]
 have v:M*(2*(E*N))^(t+1)=M*(2*(E*N))^t*(E*N)+M*(2*(E*N))^t*(E*N):=by
  rw[Qk,<-Qm,<-Qm (M*(2*(E*N))^t) 2,<-Nat.add_mul]
  congr 1
  omega
 generalize D*(a*E)^t=k at *;generalize M*(2*(E*N))^t=Mt at *;rw[eD,v];have m:=QN.mulN w p;have l:=QN.upN (Q8 b f) e m;have d:=QN.mulN m s;have r:k*a*E=k*(a*E):=Qm _ _ _;rw[r] at l d;have o:Mt*E*N=Mt*(E*N):=Qm _ _ _;rw[o] at d;have x:Mt*(a*E)<=Mt*(E*N):=Qb _ (by rw[W3 a E];exact Qb _ j);have y:Mt*E*E<=Mt*(E*N):=by rw[Qm];exact Qb _<|Qb _ i
 have h:(0:Int)<((k*(a*E):Nat):Int):=by have:=Q8 b<|Q8 f e;omega
 refine (l.mono ⋯,d.mono ⋯,λS n=>?_);have u:=QN.upN b (Q8 f e) n;exact (u.mono ⋯,(QN.sub h u d).mono ⋯)
def Zte{G R:ZZlk κ}{x:κ.F}{p a:Nat}(h:∀y∈R,QN κ B M y)(e:∀y∈R,∀j,j<a->QN κ B M (y-x*G.getD j 0)):∀y∈dI G x p a R,QN κ B M y:=λy d=>by
 unfold dI at d;obtain ⟨k,b,rfl⟩:=W5.mp d;have b:=Uh.mp b;have m:=Qd<|Zdf b
 by_cases c:p<=k/\k<p+a
 ·rw[if_pos c];exact e _ m _ ⋯
 ·rw[if_neg c];exact h _ m
end
end My
namespace L2
open PySem PySem.Spec PyProof.Rows
section
variable{X:Cx}
def ipM:TIp:=λx y H Q=>∃i j,x = .int i/\y = .int j/\IntMulOk i j/\Q (.int<|i*j) H
def ZpX:PIp X .Mult ipM:=by
 intro a s g H x y v u Q I d e h;obtain ⟨i,j,b,c,f,q⟩:=h;subst b;subst c;obtain ⟨t,rfl⟩:=d;obtain ⟨k,rfl⟩:=e;exact PyProof.Rows.imul_int (.int _,H,I.tok _,(_,rfl),q) f
end
end L2
namespace My
open PySem L2 PyProof.Rows
section
variable{κ:KX}
def ZpY{x:κ.F}(a:QN κ ((1:Nat):Int) 12 x):∀i,QN κ ((1:Nat):Int) (12^i)<|x^i
 |0=>by
  have e:x^0=(1:κ.F):=by grind
  rw[e];exact qn_one
 |i+1=>by
  have e:x^(i+1)=x^i*x:=by grind
  rw[e,Qk];exact QN.mulN (D:=1) (E:=1) (ZpY a i) a
end
def Zjz{κ:KX}:κ.mulF (K1 κ) (K1 κ)=K1 κ:=by show (1:κ.F)*1=1;grind
structure Wn (κ:KX) (A:Int) (x:κ.F) (B:Nat):Prop where
 n:NumV κ A x
 p:0<A
 l:A.natAbs<=B
 r:κ ≠ .q->A=1
def Zcl{κ:KX}:(1:κ.F)≠0:=λz=>Fd.zne z.symm
def Wn.ne{κ:KX}{x:κ.F}(h:Wn κ A x B):x≠0:=λz=>by
 have c:=h.p
 by_cases hq:κ = .q
 ·subst hq;have b:Rat.num x=A:=h.n.1;have z:x=(0:Rat):=z;rw[z] at b;have:(0:Int)=A:=b;omega
 ·have a:=h.r hq;have n:=h.n;rw[a] at n;have e:=n.uniq Zda;rw[z] at e;exact Zcl e.symm
def Wn.mul{κ:KX}{x y:κ.F}(h:Wn κ A x B)(g:Wn κ C y E):Wn κ (A*C) (x*y) (B*E):=by
 refine (?_,Wa h.p g.p,by rw[Ql];exact Qj h.l g.l,λz=>by rw[h.r z,g.r z];rfl)
 cases κ with
 |q =>
  have c:Rat.num x=A:=h.n.1;have i:Rat.den x=1:=h.n.2;have f:Rat.num y=C:=g.n.1;have e:Rat.den y=1:=g.n.2;have m:=Zir (x:=x) (y:=y) (n:=A*C) (d:=1) (∅,by rw[Int.gcd_one]) (by rw[c,i,f,e];simp);exact (m.1,by have:=m.2;omega)
 |r p j =>
  have a:=h.r<|λz=>nomatch z;have b:=g.r<|λz=>nomatch z;subst a b;rw[h.n.uniq Zda,g.n.uniq Zda];show NumV _ (1*1) ((KX.r p j).mulF (K1 _)<|K1 _);rw[Zjz];exact Zda
def wn1{κ:KX}:Wn κ 1 1 1:=(Zda,∅,∅,λ_=>rfl)
def Wn.qn{κ:KX}{x:κ.F}(h:Wn κ A x B):QN κ ((1:Nat):Int) B x:=(ZlT h.n).mono h.l
def ZrD{κ:KX}{D M:Nat}(d:0<D)(e:D<=10^60){f:ZZlk κ}{A:Int}(h:∀x∈f,QN κ (D:Int) M x)(b:Zoe κ f A){x:κ.F}(n:NumV κ A x):Wn κ A x D:=by
 obtain ⟨c,a⟩:=ZlS d h b;refine (n,c,a,λz=>?_)
 cases κ with
 |q=>exact absurd rfl z
 |r p g=>exact b
def ZtN{κ:KX}(x:κ.F)(i:Nat):x^(i+1)=x^i*x:=by grind
def ZtO{κ:KX}(x:κ.F):x^0=1:=by grind
section
variable{κ:KX}
def ZoD(x:κ.F):∀i,Rg.pX x i=x^i
 |0=>by rw[ZtO];rfl
 |i+1=>by rw[ZtN,<-ZoD x i];rfl
def ZpZ(x:κ.F)(R:ZZll κ):ent (ZhR x R)=λi j=>x*ent R i j:=by
 funext i j
 unfold ent ZhR;rw[Q2 (l:=List.map _ R),Q3,Q2 (l:=R)]
 cases h:R[i]? with
 |none =>
  show ([]:ZZlk κ).getD j 0=x*([]:ZZlk κ).getD j 0;show (0:κ.F)=x*0;grind
 |some f =>
  show (f.map (x * ·)).getD j 0=x*f.getD j 0;exact Zne f x j
def ZnF{R:ZZll κ}{D M:Nat}{x:κ.F}(m:0<D)(q:AllR (QN κ (D:Int) M) R)(b:Zoe κ R.flatten A)(n:NumV κ A x):AllR (QN κ 1 M) (ZhR x R):=λf h y G=>by
 obtain ⟨k,d,rfl⟩:=W5.mp h;obtain ⟨a,g,rfl⟩:=W5.mp G;have t:∀z∈R.flatten,QN κ (D:Int) M z:=λz i=>by
  obtain ⟨f,h,i⟩:=List.mem_flatten.mp i;exact q f h z i
 have F:=ZlS m t b
 cases κ with
 |r p J=>exact trivial
 |q =>
  obtain ⟨X,e,l⟩:=q k d a g;obtain ⟨c,E⟩:=b.2.1 a<|List.mem_flatten.mpr (k,d,g);have H:x=((A:Int):Rat):=Rat.ext n.1 n.2;have K:(0:Int)<(Rat.den a:Int):=by have:=Rat.den_pos a;omega
  have o:x=Rat.divInt A 1:=by rw[<-Qy x,n.1,n.2];rfl
  have I:(D:Int)≠0:=⋯;have j:x*a=Rat.divInt (Rat.num a*c) 1:=by
   have B:x*a=Rat.divInt (A*Rat.num a) (1*(Rat.den a:Int)):=by
    rw[<-Ua,<-o,Qy]
   rw[B,Wb ⋯ ∅,E];generalize Rat.num a=u;generalize ((Rat.den a:Nat):Int)=v;grind
  refine (Rat.num a*c,j,?_);have w:x*a=Rat.divInt (A*X) (1*(D:Int)):=by
   rw[<-Ua,<-o,<-e]
  rw[w,Wb ⋯ ∅] at j;have C:A*X=Rat.num a*c*D:=by
   have:A*X*1=Rat.num a*c*(1*(D:Int)):=j;generalize Rat.num a*c=u at *;grind
  have s:A.natAbs*X.natAbs=(Rat.num a*c).natAbs*D:=by
   have:=congrArg Int.natAbs C;rw[Ql,Ql<|Rat.num a*c] at this;rw[this,Qo]
  refine Nat.le_of_mul_le_mul_right (c:=D) ?_ m;rw[<-s,W3 M D];exact Qj F.2 l
def Ztf{x:κ.F}(h:Wn κ A x B):∀i,Wn κ (A^i) (x^i)<|B^i
 |0=>by rw[ZtO,Int.pow_zero,Nat.pow_zero];exact wn1
 |i+1=>by
  rw[ZtN,Int.pow_succ,Qk];exact (Ztf h i).mul h
def ZrE{y:κ.F}(h:Wn κ b y B)(l:B<=10^500):B1 κ (Fd.inv y):=by
 obtain ⟨a,d,c,q⟩:=ZhT (E:=1) (N:=B+1) ∅ ⋯ (h.qn.mono ⋯) h.ne;have z:B+1<2^3000:=Q7 (Nat.add_le_add_right l 1) ∅;exact q.b1 ⋯ (by rw[Qo];exact Q7 c z) ∅
def ZiO(m:Nat)(a:Nat->Nat->κ.F):(coL (Rg.qz m a)<|m+1).reverse=coL (Rg.chi m a) (m+1):=by
 refine List.ext_getElem? λi=>?_
 by_cases h:i<m+1
 ·rw[U4 (by rw[ZaI];exact h),ZaI];have g:∀(f:Rg.Ps κ.F) j,j<m+1->(coL f<|m+1)[j]?=some (f.c j):=λf j b=>by
   unfold coL;rw[Q3,Qs b]
   rfl
  rw[g _ _ ⋯,g _ _ h,Rg.chi_qz ⋯,show m+1-1-i=m-i by omega]
 ·rw[Uo (by rw[Wd,ZaI];omega),Uo (by rw[ZaI];omega)]
def GrS(κ:KX)(A:ZZll κ):Prop:=∃D M:Nat,0<D/\D<=10^42/\M<=10^45/\AllR (QN κ (D:Int) M) A
end
def ZjA(P:Program)(w:World)(K:ZZfg)(mg:ZZmg)(base:Heap)(h CR:Addr):Prop :=
 ∀(c:KX) (H:Hp) (s:Addr),KdX h CR c H s->∃C i f j d g,H s=some (.ins C i f)/\Cls K C/\HasMX P w K mg base C "number" 3 j d g/\f.lookup ("number":Str)=none/\d=[] ∧
  ∀(e:Hp) (b:Int) (y:c.F) (Q:VK) (E:XK),Same H e->NumV c b y->0<b->b.natAbs<=10^1000->(c ≠ .q->b=1)->(∀v a,Same e a->NR c a v (Fd.inv y)->Q v a)->g [.ref s,.int 1,.int b] e Q E
end My
namespace My.Rg
section
variable{α:Type}[Lean.Grind.CommRing α]
def im(a:Nat->Nat->α)(m:Nat)(v:Nat->α):Nat->Nat->α
 |0=>v
 |k+1=>λi=>Sg (λj=>a i j*im a m v k j) m
def Vz(a:Nat->Nat->α)(m:Nat)(v:Nat->α)(i:Nat):Ps α:=⟨λk=>im a m v k i⟩
def ZrF(a:Nat->Nat->α){m:Nat}(v:Nat->α){i:Nat}(b:i<m):Sg (λj=>Vz a m v j*unz a i j) m=Ps.con (v i):=Ps.ext λn=>by
 rw[Ps.c_Sg];have e:∀j,(Vz a m v j*unz a i j).c n=im a m v n j*(if i=j then 1 else 0)+(if n=0 then 0 else im a m v (n-1) j*(0-a i j)):=λj=>by
  unfold unz;rw[Zg0];show im a m v n j*(if j=i then 1 else 0)+_=_
  by_cases q:i=j
  ·rw[if_pos q,if_pos q.symm];rfl
  ·rw[if_neg q,if_neg<|λz=>q z.symm];rfl
 rw[Sg_congr λj _=>e j,<-Sg_add,Sg_one,if_pos b]
 cases n with
 |zero =>
  rw[Sg_congr (g:=λ_=>(0:α)) λj _=>by rw[if_pos rfl],Sg_zero];show v i+0=if 0=0 then v i else 0
  rw[if_pos rfl];grind
 |succ n =>
  rw[Sg_congr (g:=λj=>(0-1)*(a i j*im a m v n j)) λj _=>by rw[if_neg ⋯];show im a m v n j*(0-a i j)=_;grind,<-Sg_mul];show Sg (λj=>a i j*im a m v n j) m+_=if n+1=0 then v i else 0
  rw[if_neg ⋯];grind
def ZjB{m:Nat}{B:Nat->Nat->α}{V:Nat->α}{r:Nat}(hr:r<m):∀k,k<=m->det m (Zbl B r λj=>Sg (λi=>V i*B i j) k)=if r<k then V r*det m B else 0
  | 0,_=>by
    rw[if_neg ⋯];have:=Zjs (a:=B) (r:=r) 0 hr;have e:(λj=>(0:α)*B r j)=λj=>Sg (λi=>V i*B i j) 0:=by
      funext j; show (0:α)*B r j=0; grind
    rw[e] at this;rw[this]; grind
  | k+1,hk=>by
    have l:=ZeB (a:=B) (r:=r) (λj=>Sg (λi=>V i*B i j) k) (B k) (V k) hr;have e:det m (Zbl B r λj=>Sg (λi=>V i*B i j)<|k+1)=det m (Zbl B r λj=>Sg (λi=>V i*B i j) k+V k*B k j):=rfl;rw[e,l,ZjB hr k ⋯]
    by_cases q:r=k
    · rw[if_neg ⋯,if_pos ⋯,<-q,Zcp]; grind
    · have z:det m (Zbl B r<|B k)=0:=by
        refine Zjr hr (show k<m by omega) q λj=>?_;unfold Zbl;rw[if_pos rfl,if_neg<|λz=>q z.symm]
      rw[z]
      by_cases q2:r<k
      · rw[if_pos q2,if_pos ⋯]; grind
      · rw[if_neg q2,if_neg ⋯]; grind
def Zko(x:α):Ps.con x=lin x 0:=Ps.ext λn=>by
 show (if n=0 then x else 0)=if n=0 then x else if n=1 then 0 else 0
 split
 ·rfl
 ·split <;> rfl
def ZrG{a:Nat->Nat->α}{m:Nat}{v:Nat->α}{r:Nat}(hr:r<m){n:Nat}(h:m<=n):(Vz a m v r*qz m a).c n=0:=by
 have c:=ZjB (B:=λi j=>unz a j i) (V:=Vz a m v) hr m<|Q4 _;rw[if_pos hr,show det m (λi j=>unz a j i)=det m (unz a) from Zgb] at c;have e:det m (Zbl (λi j=>unz a j i) r λj=>Sg (λi=>Vz a m v i*unz a j i) m)=det m (λi j=>lin (if i=r then v j else if i=j then 1 else 0) (if i=r then 0 else 0-a j i)):=Zbc λi j g f=>by
  unfold Zbl
  by_cases q:i=r
  ·rw[if_pos q,if_pos q,if_pos q];show Sg (λi=>Vz a m v i*unz a j i) m=_;rw[ZrF a v f,Zko]
  ·rw[if_neg q,if_neg q,if_neg q];rfl
 rw[e] at c;show (Vz a m v r*det m (unz a)).c n=0;rw[<-c];have d:=ZfC m (λi j=>if i=r then v j else if i=j then 1 else 0) (λi j=>if i=r then 0 else 0-a j i)
 by_cases q:m<n
 ·exact d.1 n q
 ·have:n=m:=⋯;rw[this,d.2];have s:=Zjs (a:=λi j=>if i=r then (0:α) else 0-a j i) (r:=r) 0 hr;have b:Zbl (λi j=>if i=r then (0:α) else 0-a j i) r (λj=>(0:α)*if r=r then (0:α) else 0-a j r)=λi j=>if i=r then (0:α) else 0-a j i:=by
   funext i j
   unfold Zbl
   by_cases q:i=r
   ·rw[if_pos q,if_pos q];grind
   ·rw[if_neg q]
  rw[b] at s;rw[s];grind
def qz_c0(m:Nat)(a:Nat->Nat->α):(qz m a).c 0=1:=by
 have:=chi_qz (n:=m) (a:=a) (k:=m)<|Q4 _;rw[ZpT,Ue] at this;exact this.symm
def ZrH(a:Nat->Nat->α)(m:Nat)(v:Nat->α)(r:Nat):(Vz a m v r*qz m a).c 0=v r:=by
 rw[Ps.c_mul];show 0+im a m v 0 r*(qz m a).c (0-0)=v r;rw[Ue,qz_c0];show 0+v r*1=v r;grind
def ZoE(a:Nat->Nat->α)(m:Nat)(v:Nat->α)(r t:Nat):(Vz a m v r*qz m a).c (t+1)=Sg (λj=>a r j*(Vz a m v j*qz m a).c t) m+(qz m a).c (t+1)*v r:=by
 rw[Ps.c_mul,ZbJ];have e:Sg (λi=>(Vz a m v r).c (i+1)*(qz m a).c (t+1-(i+1))) (t+1)=Sg (λj=>a r j*(Vz a m v j*qz m a).c t) m:=by
  have b:∀i,(Vz a m v r).c (i+1)*(qz m a).c (t+1-(i+1))=Sg (λj=>a r j*im a m v i j*(qz m a).c (t-i)) m:=λi=>by
   rw[show t+1-(i+1)=t-i by omega];show Sg (λj=>a r j*im a m v i j) m*(qz m a).c (t-i)=_;have:=Sg_mul ((qz m a).c<|t-i) (λj=>a r j*im a m v i j) m;rw[show Sg (λj=>a r j*im a m v i j) m*(qz m a).c (t-i)=(qz m a).c (t-i)*Sg (λj=>a r j*im a m v i j) m by grind,this];exact Sg_congr λj _=>by grind
  rw[Sg_congr λi _=>b i,ZeA];refine Sg_congr λj _=>?_;rw[Ps.c_mul,Sg_mul];exact Sg_congr λi _=>by show a r j*im a m v i j*_=a r j*(im a m v i j*_);grind
 rw[e,Ul];show v r*(qz m a).c (t+1)+_=_;grind
end
end My.Rg
namespace My
open PySem L2 PyProof.Rows
section
variable{κ:KX}
def Zp0(f u:Nat->κ.F):∀m,Zrl f u m=Rg.Sg (λj=>f j*u j) m
 |0=>rfl
 |m+1=>by show Zrl f u m+f m*u m=_;rw[Zp0 f u m];rfl
def Za1(g:Nat->κ.F)(m:Nat):((List.range m).map g).length=m:=by rw[Q1,Qn]
def ZaM(g:Nat->κ.F){m j:Nat}(h:j<m):((List.range m).map g).getD j 0=g j:=by
 rw[Q2,Q3,Qs h];rfl
def ZcJ{f g:ZZlk κ}(l:f.length=g.length)(h:∀j,j<f.length->f.getD j 0=g.getD j 0):f=g:=by
 refine List.ext_getElem l λj a b=>?_;have:=h j a;rw[Q2,Q2,Q6 a,Q6 b] at this;exact this
noncomputable abbrev vF(v:ZZlk κ):Nat->κ.F:=λi=>v.getD i 0
noncomputable def ZrI(R:ZZll κ)(c:ZZlk κ):ZZlk κ:=R.map λr=>ZfL r c c.length
noncomputable def imL(A:ZZll κ)(m:Nat)(v:ZZlk κ)(k:Nat):ZZlk κ:=(List.range m).map<|Rg.im (ent A) m (vF v) k
noncomputable def wL(A:ZZll κ)(m:Nat)(v:ZZlk κ)(t:Nat):ZZlk κ:=(List.range m).map λr=>(Rg.Vz (ent A) m (vF v) r*Rg.qz m (ent A)).c t
def Zdh(A:ZZll κ)(m:Nat)(v:ZZlk κ)(k:Nat):(imL A m v k).length=m:=Za1 _ _
def ZrJ(A:ZZll κ)(m:Nat)(v:ZZlk κ)(k:Nat):(wL A m v k).length=m:=Za1 _ _
def Ztg{A:ZZll κ}{m:Nat}{v:ZZlk κ}(h:v.length=m):imL A m v 0=v:=ZcJ (by rw[Zdh,h]) λj a=>by
 rw[Zdh] at a;exact ZaM _ a
def ZjC{A:ZZll κ}{i:Nat}(a:i<A.length)(j:Nat):ent A i j=(A[i]).getD j 0:=by
 unfold ent;rw[Q2 (l:=A),Q6 a];rfl
def ZnG{A:ZZll κ}{c:ZZlk κ}{i:Nat}(a:i<A.length):(ZrI A c).getD i 0=Rg.Sg (λj=>ent A i j*c.getD j 0) c.length:=by
 unfold ZrI;rw[Q2,Q3,Q6 a];show ZfL A[i] c c.length=_;rw[Zg1];exact Rg.Sg_congr λj _=>by rw[ZjC a]
def ZnH(A:ZZll κ)(c:ZZlk κ):(ZrI A c).length=A.length:=Q1 ..
def ZnI{A:ZZll κ}{m:Nat}(b:A.length=m)(v:ZZlk κ)(k:Nat):imL A m v (k+1)=ZrI A (imL A m v k):=ZcJ (by rw[Zdh,ZnH,b]) λj a=>by
 rw[Zdh] at a;rw[ZnG ⋯,Zdh];refine (ZaM _ a).trans ?_;show Rg.Sg (λi=>ent A j i*Rg.im (ent A) m (vF v) k i) m=_;exact Rg.Sg_congr λi c=>by rw[show (imL A m v k).getD i 0=Rg.im (ent A) m (vF v) k i from ZaM _ c]
def Zp1{g:Nat->ZZlk κ}{n i:Nat}(h:i<n):ent ((List.range n).map g) i=λj=>(g i).getD j 0:=by
 funext j
 unfold ent;rw[Q2 (l:=List.map g _),Q3,Qs h];rfl
def Zgc{h:Nat->κ.F}{D:Int}(a:0<D){M:Nat}:∀k,(∀i,i<k->QN κ D M (h i))->QN κ D (k*M) (Rg.Sg h k)
 |0,_=>QN.zero
 |k+1,e=>by
  rw[Uz];exact QN.add a (Zgc a k λi b=>e i ⋯)<|e k ⋯
def ZnJ{a:Nat->Nat->κ.F}{v:Nat->κ.F}{m:Nat}(d:m<=7)(c:∀i j,QN κ ((12:Nat):Int) 108<|a i j)(b:∀i,QN κ ((12:Nat):Int) 108<|v i):∀k i,QN κ ((12^(k+1):Nat):Int) (756^k*108)<|Rg.im a m v k i
 |0,i=>b i
 |k+1,i=>by
  refine QN.mono (Zgc (D:=((12^(k+2):Nat):Int)) (M:=108*(756^k*108)) (by have:=Q9 (n:=k+2) (show 0<12 by decide);omega) m λj _=>?_) ?_
  ·have:=QN.mulN (c i j)<|ZnJ d c b k j
   rwa [show 12*12^(k+1)=12^(k+2) by rw[Qk 12<|k+1,W3]] at this
  ·rw[Qk,W3 (756^k) 756,Qm,<-Qm m 108];exact Qq _ ⋯
def ZoF{x:κ.F}(h:QN κ D M x):∀j,QN κ D M<|Rg.sgn κ.F j*x
 |0=>by
  have e:Rg.sgn κ.F 0*x=x:=by show (1:κ.F)*x=x;grind
  rw[e];exact h
 |j+1=>by
  have e:Rg.sgn κ.F (j+1)*x=0-Rg.sgn κ.F j*x:=by show (0-Rg.sgn κ.F j)*x=_;grind
  rw[e];exact (ZoF h j).neg
def ZoG:∀(n:Nat) (A B:Nat->Nat->κ.F),n<=7->(∀i j,QN κ ((1:Nat):Int) 1<|A i j)->(∀i j,QN κ ((12:Nat):Int) 108<|B i j)->∀k,QN κ ((12^k:Nat):Int) (763^n)<|(Rg.det n λi j=>Rg.lin (A i j)<|B i j).c k
 |0,A,B,_,hA,hB,k=>by
  show QN κ _ _ ((1:Rg.Ps κ.F).c k);rw[Rg.Ps.c_one]
  by_cases q:k=0
  ·rw[if_pos q,q];exact qn_one
  ·rw[if_neg q];exact QN.zero
 |n+1,A,B,hn,hA,hB,k=>by
  have b:=λj=>ZoG n (λi k=>A (i+1)<|Rg.skip j k) (λi k=>B (i+1)<|Rg.skip j k) ⋯ (λi k=>hA _ _)<|λi k=>hB _ _;show QN κ _ _ ((Rg.Sg (λj=>Rg.sgn (Rg.Ps κ.F) j*Rg.lin (A 0 j) (B 0 j)*Rg.det n (λi k=>Rg.lin (A (i+1)<|Rg.skip j k)<|B (i+1)<|Rg.skip j k))<|n+1).c k);rw[Rg.Ps.c_Sg];have a:(0:Int)<((12^k:Nat):Int):=by have:=Q9 (n:=k) (show 0<12 by decide);omega
  refine QN.mono (Zgc (M:=109*763^n) a (n+1) λj _=>?_) ?_
  ·rw[Rg.term_c];refine ZoF ?_ j;have e:109*763^n=763^n+108*763^n:=⋯;rw[e];refine QN.add a ?_ ?_
   ·have:=QN.mulN (hA 0 j)<|b j k
    rwa [Wv,Wv] at this
   ·by_cases q:k=0
    ·rw[if_pos q];exact QN.zero
    ·rw[if_neg q];have:=QN.mulN (hB 0 j)<|b j<|k-1
     rwa [show 12*12^(k-1)=12^k by cases k with|zero=>exact absurd rfl q|succ k=>rw[Qk,W3,Qz]] at this
  ·rw[Qk,W3 (763^n) 763,<-Qm];exact Qq _ ⋯
def Zp2{a:Nat->Nat->κ.F}{m:Nat}(c:m<=7)(b:∀i j,QN κ ((12:Nat):Int) 108<|a i j)(k:Nat):QN κ ((12^k:Nat):Int) (763^m) ((Rg.qz m a).c k) :=
 ZoG m _ _ c (λi j=>by
  by_cases q:j=i
  ·rw[if_pos q];exact qn_one
  ·rw[if_neg q];exact QN.zero) (λi j=>(b i j).neg) k
def ZcK{f:ZZlk κ}(h:∀x∈f,QN κ D M x)(i:Nat):QN κ D M (f.getD i 0):=by
 by_cases q:i<f.length
 ·rw[Q2,Q6 q];exact h _<|Qu _
 ·rw[Q2,Uo ⋯];exact QN.zero
def ZjD{a:κ.F->Prop}{g:Nat->κ.F}{m:Nat}(h:∀i,i<m->a (g i)):∀x∈(List.range m).map g,a x:=λx c=>by
 obtain ⟨i,b,rfl⟩:=W5.mp c;exact h i<|Uh.mp b
abbrev Q12(κ:KX)(x:κ.F):Prop:=QN κ ((12:Nat):Int) 108 x
def Zp3(m:Nat)(a:Nat->Nat->κ.F):(coL (Rg.chi m a)<|m+1).reverse=coL (Rg.qz m a) (m+1):=by
 rw[<-ZiO,List.reverse_reverse]
abbrev Sr(κ:KX):Type:=Rg.Ps κ.F
noncomputable def sr(F:ZZlk κ):Sr κ:=⟨λk=>F.getD k 0⟩
def Zbj(F:ZZlk κ)(k:Nat):(sr F).c k=F.getD k 0:=rfl
def ZrK{F G:ZZlk κ}(h:∀k,F.getD k 0=G.getD k 0):sr F=sr G:=Rg.Ps.ext h
def Zth{F G:ZZlk κ}(h:sr F=sr G)(k:Nat):F.getD k 0=G.getD k 0:=by rw[<-Zbj,h,Zbj]
def ZoH:sr ([]:ZZlk κ)=0:=Rg.Ps.ext λk=>by rw[Rg.Ps.c_zero];rfl
noncomputable def cn(x:κ.F):Sr κ:=sr [x]
def ZrL(x:κ.F)(k:Nat):(cn x).c k=if k=0 then x else 0:=by
 cases k with
 |zero=>rfl
 |succ k=>rfl
def Zgd(x:κ.F):cn x=Rg.Ps.con x:=Rg.Ps.ext λk=>by rw[ZrL];rfl
def ZfD(x:κ.F)(a:Sr κ)(k:Nat):(cn x*a).c k=x*a.c k:=by rw[Zgd];exact Rg.Ps.con_mul x a k
def Zge:cn (1:κ.F)=1:=by rw[Zgd];rfl
def Zl5:cn (0:κ.F)=0:=by rw[Zgd];rfl
def ZrM(x y:κ.F):cn x*cn y=cn (x*y):=Rg.Ps.ext λk=>by
 rw[ZfD,ZrL,ZrL]
 split
 ·rfl
 ·grind
def ZjE{x:κ.F}(h:x≠0):cn (Fd.inv x)*cn x=1:=by
 rw[ZrM,show Fd.inv x*x=1 by have:=Fd.mul_inv x h;grind,Zge]
def ZdD{h:Nat->κ.F}{n:Nat}:∀d,(∀i,n<=i->h i=0)->Rg.Sg h (n+d)=Rg.Sg h n
 |0,_=>rfl
 |d+1,e=>by
  show Rg.Sg h (n+d)+h (n+d)=_;rw[ZdD d e,e (n+d) ⋯];generalize Rg.Sg h n=s;grind
def Zl6{F G:ZZlk κ}:∀n,pO F G n k=Rg.Sg (λi=>F.getD i 0*gs G i k) n
 |0=>rfl
 |n+1=>by
  show pO F G n k+pI F G n G.length k=Rg.Sg _ n+_;rw[Zl6 n,ZnD]
def ZhV(F G:ZZlk κ)(k:Nat):(sr F*sr G).c k=pO F G F.length k:=by
  rw[Zl6,Rg.Ps.c_mul];have b:=ZdD (h:=λi=>F.getD i 0*gs G i k) (n:=F.length) (k+1-F.length) λi a=>by
    show F.getD i 0*_=0;rw[Zah a]; grind
  have d:Rg.Sg (λi=>F.getD i 0*gs G i k) (k+1)=Rg.Sg (λi=>(sr F).c i*(sr G).c (k-i)) (k+1):=Rg.Sg_congr λi a=>by
    show F.getD i 0*gs G i k=F.getD i 0*G.getD (k-i) 0;unfold gs;rw[if_pos ⋯]
  rw[<-d]
  by_cases h:F.length<=k+1
  · rw[<-b,show F.length+(k+1-F.length)=k+1 by omega]
  · have c:=ZdD (h:=λi=>F.getD i 0*gs G i k) (n:=k+1) (F.length-(k+1)) λi a=>by
      show F.getD i 0*gs G i k=0;unfold gs;rw[if_neg ⋯]; grind
    rw[<-c,show k+1+(F.length-(k+1))=F.length by omega]
def Fs(a:Sr κ):Prop:=∃N,∀k,N<=k->a.c k=0
def Fs.sr(F:ZZlk κ):Fs (sr F):=(F.length,λk h=>by rw[Zbj];exact Zah h)
def Fs.cn(x:κ.F):Fs (cn x):=Fs.sr [x]
def Fs.zero:Fs (0:Sr κ):=(0,λk _=>Rg.Ps.c_zero k)
def Fs.one:Fs (1:Sr κ):=by rw[<-Zge];exact Fs.cn 1
def Fs.add{a b:Sr κ}(h:Fs a)(g:Fs b):Fs (a+b):=by
 obtain ⟨N,h⟩:=h;obtain ⟨M,g⟩:=g;exact (N+M,λk c=>by rw[Rg.Ps.c_add,h k ⋯,g k ⋯];grind)
def Fs.mul{a b:Sr κ}(h:Fs a)(g:Fs b):Fs (a*b):=by
 obtain ⟨N,h⟩:=h;obtain ⟨M,g⟩:=g;refine (N+M,λk c=>?_);rw[Rg.Ps.c_mul,Rg.Sg_congr (g:=λ_=>0) λi d=>?_,Rg.Sg_zero]
 by_cases q:N<=i
 ·rw[h i q];grind
 ·rw[g (k-i) ⋯];grind
def Fs.sub{a b:Sr κ}(h:Fs a)(g:Fs b):Fs (a-b):=by
 obtain ⟨N,h⟩:=h;obtain ⟨M,g⟩:=g;exact (N+M,λk c=>by rw[Rg.Ps.c_sub,h k ⋯,g k ⋯];grind)
def Zdi{m:Nat}{d R:ZZlk κ}{e:Sr κ}(r:d.length=m+1)(top:d.getD m 0=1)(p:R.length<=m)(o:Fs e)(h:sr R=e*sr d):sr R=0:=by
 obtain ⟨N,c⟩:=o;have z:∀n,(∀k,n<=k->e.c k=0)->∀k,e.c k=0:=λn=>by
  induction n with
  |zero=>exact λq k=>q k<|Qg _
  |succ n l =>
   intro q;refine l λk s=>?_
   by_cases ek:k=n
   ·subst ek;have a:(sr R).c (k+m)=0:=by rw[Zbj];exact Zah ⋯
    rw[h,Rg.Ps.c_mul] at a;have g:Rg.Sg (λi=>e.c i*(sr d).c (k+m-i)) (k+m+1)=Rg.Sg (λi=>e.c i*(sr d).c (k+m-i)) (k+1):=by
     have:=ZdD (h:=λi=>e.c i*(sr d).c (k+m-i)) (n:=k+1) m λi b=>by
      show e.c i*_=0;rw[q i b];grind
     rw[<-this,show k+1+m=k+m+1 by omega]
    rw[g] at a;have f:Rg.Sg (λi=>e.c i*(sr d).c (k+m-i)) (k+1)=Rg.Sg (λ_=>0) k+e.c k*(sr d).c (k+m-k):=by
     show Rg.Sg _ k+_=_
     congr 1
     refine Rg.Sg_congr λi b=>?_;rw[Zbj,Zah ⋯];grind
    rw[f,Rg.Sg_zero,Zbj,show k+m-k=m by omega,top] at a;grind
   ·exact q k ⋯
 have j:e=0:=Rg.Ps.ext λk=>by rw[z N c k,Rg.Ps.c_zero]
 rw[h,j];grind
def ZiP{F:ZZlk κ}(t:Trm F)(h:sr F=0):F=[]:=ZpU t (.inl rfl) λk=>by
 rw[<-Zbj,h,Rg.Ps.c_zero];rfl
def ZiQ{F:ZZlk κ}(t:Trm F)(h:F.length≠0):F.getD (F.length-1) 0≠0:=t.resolve_left h
def ZbY{F:ZZlk κ}{x:κ.F}(h:x∈F):∃k,k<F.length/\x=F.getD k 0:=by
 obtain ⟨k,a,e⟩:=List.getElem_of_mem h;exact (k,a,by rw[Q2,Q6 a,e];rfl)
def Zbk{F:ZZlk κ}(h:∀x∈F,QN κ D M x)(k:Nat):QN κ D M (F.getD k 0):=by
 by_cases q:k<F.length
 ·refine h _ ?_;rw[Q2,Q6 q];exact Qu _
 ·rw[Zah ⋯];exact QN.zero
def Zl7{F G:ZZlk κ}{D E:Int}(a:0<D*E)(b:∀x∈F,QN κ D M x)(c:∀x∈G,QN κ E N x)(k:Nat):QN κ (D*E) (F.length*(G.length*(M*N))) ((sr F*sr G).c k):=by
 rw[ZhV];exact Zro a b c F.length k<|Q4 _
def ZfE{x:κ.F}{G:ZZlk κ}(b:QN κ D M x)(a:∀y∈G,QN κ E N y)(k:Nat):QN κ (D*E) (M*N) ((cn x*sr G).c k):=by
 rw[ZfD,Zbj];exact b.mul<|Zbk a k
end
end My
namespace L2
open PySem PySem.Spec PyProof.Rows
end L2
namespace My
open PySem L2 PyProof.Rows
structure Pc (K:ZZfg) (mg:ZZmg) (CP:Addr):Prop where
 cl:Cls K CP
 nU:NoAttr K CP "under"
 m:mg "Polys"=some (.ref CP)
section
variable{κ:KX}
def Zl8(f g:ZZlk κ):∀n,ZfL f g n=Rg.Sg (λi=>f.getD i 0*g.getD i 0) n
 |0=>rfl
 |n+1=>by
  show ZfL f g n+_=Rg.Sg _ n+_;rw[Zl8 f g n]
def Zl9(h:Nat->κ.F)(a:Nat):∀m,Rg.Sg h (a+m)=Rg.Sg h a+Rg.Sg (λi=>h<|a+i) m
 |0=>by
  show Rg.Sg h a=Rg.Sg h a+0;generalize Rg.Sg h a=s;grind
 |m+1=>by
  show Rg.Sg h (a+m)+h (a+m)=Rg.Sg h a+(Rg.Sg _ m+h (a+m));rw[Zl9 h a m];generalize Rg.Sg h a=s;generalize Rg.Sg (λi=>h<|a+i) m=t;grind
def ZnK{f g:ZZlk κ}{pl a b:Nat}(o:a=pl+1-g.length)(eb:b=min (pl+1) f.length)(h:a<=b):Zh7 ((f.drop a).take<|b-a) ((List.range<|b-a).map λi=>g.getD (pl-(a+i)) 0)=(sr f*sr g).c pl:=by
  have l:((f.drop a).take<|b-a).length=b-a:=by rw[Qr,Wj]; omega
  unfold Zh7;rw[l,Zl8,Rg.Ps.c_mul];have j:Rg.Sg (λi=>((f.drop a).take<|b-a).getD i 0*((List.range<|b-a).map λi=>g.getD (pl-(a+i)) 0).getD i 0) (b-a)=Rg.Sg (λi=>f.getD (a+i) 0*g.getD (pl-(a+i)) 0) (b-a):=Rg.Sg_congr λi c=>by
    congr 1
    · rw[Q2,U3,if_pos c,List.getElem?_drop,Q2]
    · rw[Q2,Q3,Qs c]; rfl
  rw[j];have d:=Zl9 (λi=>f.getD i 0*g.getD (pl-i) 0) a<|b-a;have m:Rg.Sg (λi=>f.getD i 0*g.getD (pl-i) 0) a=0:=by
    rw[Rg.Sg_congr (g:=λ_=>(0:κ.F)) λi c=>?_,Rg.Sg_zero];rw[Zah (F:=g) ⋯]; grind
  have k:=ZdD (h:=λi=>f.getD i 0*g.getD (pl-i) 0) (n:=b)<|pl+1-b;rw[m,show a+(b-a)=b by omega] at d;show _=Rg.Sg (λi=>f.getD i 0*g.getD (pl-i) 0) (pl+1)
  by_cases q:pl+1<=f.length
  · rw[show pl+1=b by omega,d]
    generalize Rg.Sg (λi=>f.getD (a+i) 0*g.getD (pl-(a+i)) 0) (b-a)=s;grind
  · have e:=k λi c=>by
      show f.getD i 0*_=0;rw[Zah (F:=f) ⋯]; grind
    rw[show b+(pl+1-b)=pl+1 by omega] at e;rw[e,d];generalize Rg.Sg (λi=>f.getD (a+i) 0*g.getD (pl-(a+i)) 0) (b-a)=s;grind
noncomputable def plP(F G:ZZlk κ):ZZlk κ:=List.zipWith (· + ·) F G++F.drop (min F.length G.length)++G.drop (min F.length G.length)
def Zp4(F G:ZZlk κ)(k:Nat):(plP F G).getD k 0=F.getD k 0+G.getD k 0:=by
 unfold plP;have a:(List.zipWith (· + ·) F G).length=min F.length G.length:=Wx ..
 by_cases h1:k<min F.length G.length
 ·rw[List.append_assoc,Q2,Wr ⋯,Uq,Q6 (show k<F.length by omega),Q6 (show k<G.length by omega),Q2,Q6 (show k<F.length by omega),Q2,Q6 (show k<G.length by omega)]
  rfl
 ·rcases Nat.le_total F.length G.length with q|q
  ·rw[Nat.min_eq_left q,List.drop_length,Wp,Q2,Wz ⋯,List.getElem?_drop,a,Nat.min_eq_left q,show F.length+(k-F.length)=k by omega,<-Q2,Zah (F:=F) ⋯];generalize G.getD k 0=z;grind
  ·rw[Nat.min_eq_right q,List.drop_length,Wp,Q2,Wz ⋯,List.getElem?_drop,a,Nat.min_eq_right q,show G.length+(k-G.length)=k by omega,<-Q2,Zah (F:=G) ⋯];generalize F.getD k 0=z;grind
def Zp5(F G:ZZlk κ):(plP F G).length=max F.length G.length:=by
 unfold plP;rw[Qi,Qi,Wx,Wj,Wj];omega
end
inductive ZcL (CP:Addr) (vs:List V) (H:Hp) (Q:VK) (zE:XK):Prop
 |mk (x dx k:Addr) (_:vs=[.ref x,.ref k]) (_:H x=some (.ins CP dx [])) (_:Q .non (upd H x (.ins CP dx [("under", .ref k)]))):ZcL CP vs H Q zE
section
variable{κ:KX}
noncomputable def rsd(x:κ.F):Nat->κ.F
 |0=>1
 |n+1=>rsd x n*x
def ZfF{x:κ.F}{D M:Nat}(h:QN κ (D:Int) M x):∀n,QN κ ((D^n:Nat):Int) (M^n)<|rsd x n
 |0=>qn_one
 |n+1=>by
  have:=(ZfF h n).mul h;rw[Qk,Qk,W2];exact this
def ZhW{x:κ.F}(h:x≠0):∀n,rsd x n≠0
 |0=>λz=>Fd.zne z.symm
 |n+1=>λz=>by
  have a:=Fd.mul_inv x h;refine ZhW h n ?_;have z:rsd x n*x=0:=z;generalize rsd x n=y at *;generalize Fd.inv x=i at *;have:y=y*x*i:=by grind
  rw[this,z];grind
def ZoI{x y:κ.F}(a:x≠0)(b:y≠0):x*y≠0:=λz=>by
 have c:=Fd.mul_inv y b;refine a ?_;generalize Fd.inv y=i at *;have:x=x*y*i:=by grind
 rw[this,z];grind
def ZoJ{x:κ.F}(b:x≠0):Fd.inv x≠0:=λz=>by
 have a:=Fd.mul_inv x b;rw[z] at a;exact Fd.zne (show (1:κ.F)=0 by rw[<-a];grind).symm
def ZeN{D:Nat}{x:κ.F}(h:QN κ (D:Int) M x)(c:0<D)(a:D<2^3000)(b:M<2^3000):B1 κ x:=h.b1 ⋯ (by rw[Qo];exact a) b
structure FrSz (Du Su Dl Sl Da Sa Dh Sh g:Nat):Prop where
 du:0<Du
 su:0<Su
 dl:0<Dl
 sl:0<Sl
 da:0<Da
 sa:0<Sa
 dh:0<Dh
 sh:0<Sh
 dS:Dl<=Sl
 a:Dl^(g+1)*Du<=10^200
 b:25*(Sl^(g+1)*Su)<=10^500
 c:Dl^(g+1)*Du*(Sl*Dl)^(g+1)<2^3000
 e:Sl^(g+1)*Su*(2*(Dl*Sl))^(g+1)<2^3000
 f:Da*Dh^g<=10^200
 h:Sa*Sh^g<=10^200
 hD:Dh<2^3000
 hS:Sh<2^3000
def Zma{Q L:ZZlk κ}{n k:Nat}(h:Q.length<=n):(sr Q*sr L).c k=Rg.Sg (λi=>Q.getD i 0*gs L i k) n:=by
 rw[ZhV,Zl6];have:=ZdD (h:=λi=>Q.getD i 0*gs L i k) (n:=Q.length) (n-Q.length) λi a=>by
  show Q.getD i 0*_=0;rw[Zah a];grind
 rw[<-this,show Q.length+(n-Q.length)=n by omega]
def Zti{L:ZZlk κ}(h:∀x∈L,QN κ D M x)(i k:Nat):QN κ D M (gs L i k):=by
 unfold gs
 split
 ·exact Zbk h _
 ·exact QN.zero
def ZnL{U L Q R:ZZlk κ}{g d w C n Sl:Nat}(lL:L.length=d+1)(c0:L.getD d 0≠0)(Y:Q.length<=g+1)(lR:R.length<=d)(M:κ = .q->g+d<=3)(N:0<w)(dl:0<n)(sl:0<Sl)
    (o:∀x∈U,QN κ (w:Int) C x) (J:∀x∈L,QN κ (n:Int) Sl x) (e:cn (rsd (L.getD d 0)<|g+1)*sr U=sr Q*sr L+sr R) (k:Nat):QN κ ((n^g*w:Nat):Int) (4*(Sl^g*C)) (Q.getD k 0):=by
  by_cases hk:g<k
  · rw[Zah ⋯]; exact QN.zero
  by_cases I:κ ≠ .q
  · cases κ with
    | q=>exact absurd rfl I
    | r p hp=>exact trivial
  have I:κ = .q:=Classical.byContradiction λz=>I z;have M:=M I;have A:∀j,d<=j->rsd (L.getD d 0) (g+1)*U.getD j 0=Rg.Sg (λi=>Q.getD i 0*gs L i j) (g+1):=λj hj=>by
    have z:=congrArg (λs=>s.c j) e;have z:(cn (rsd (L.getD d 0)<|g+1)*sr U).c j=(sr Q*sr L+sr R).c j:=z;rw[ZfD,Rg.Ps.c_add,Zbj,Zbj,Zah (F:=R) ⋯,Zma Y] at z;rw[z];generalize Rg.Sg (λi=>Q.getD i 0*gs L i j) (g+1)=s;grind
  have mi:=Fd.mul_inv _ c0;have qc:=Zbk J d;have l:∀ {x y:κ.F},L.getD d 0*x=L.getD d 0*y->x=y:=fun {x y} h=>by
    have v:x=Fd.inv (L.getD d 0)*(L.getD d 0*x):=by
      generalize L.getD d 0=c at *;grind
    rw[v,h];generalize L.getD d 0=c at *;grind
  have f:∀i,gs L i (i+d)=L.getD d 0:=λi=>by unfold gs; rw[if_pos<|Nat.le_add_right _ _,Nat.add_sub_cancel_left]
  have t:∀i j,i+d<j->gs L i j=0:=λi j h=>by
    unfold gs
    split
    · exact Zah ⋯
    · rfl
  have H:∀i j,j<i->gs L i j=0:=λi j h=>by unfold gs; rw[if_neg ⋯]
  by_cases d0:d=0
  · -- a number alone
    subst d0;have h:=A k<|Qg _;have s1:Rg.Sg (λi=>Q.getD i 0*gs L i k) (g+1)=Rg.Sg (λi=>(Q.getD i 0*L.getD 0 0)*(if k=i then 1 else 0)) (g+1):=Rg.Sg_congr λi _=>by
      by_cases q:k=i
      · rw[if_pos q,q,show gs L i i=L.getD 0 0 from f i]; grind
      · rw[if_neg q]
        rcases Nat.lt_or_gt_of_ne q with z | z
        · rw[H i k z]; grind
        · rw[t i k ⋯]; grind
    rw[s1,Rg.Sg_one,if_pos ⋯] at h;have P:Q.getD k 0=rsd (L.getD 0 0) g*U.getD k 0:=l (by
      have h:rsd (L.getD 0 0) g*L.getD 0 0*U.getD k 0=Q.getD k 0*L.getD 0 0:=h;generalize L.getD 0 0=c at *;grind)
    rw[P];have a:=QN.mulN (ZfF qc g)<|Zbk o k;exact a.mono ⋯
  rcases (by omega:g=0\/g=1\/g=2) with rfl | rfl | rfl
  · have m:=A (0+d) ⋯
    have W:k=0:=⋯;subst W;have m:(1:κ.F)*L.getD d 0*U.getD (0+d) 0=0+Q.getD 0 0*gs L 0 (0+d):=m;rw[f] at m;have E:Q.getD 0 0=U.getD (0+d) 0:=l (by
      generalize L.getD d 0=c at *;grind)
    rw[E,Nat.pow_zero,Wv,Nat.pow_zero,Wv];exact (Zbk o _).mono ⋯
  · have m:=A (0+d) ⋯
    have v:=A (1+d) ⋯;have m:(1:κ.F)*L.getD d 0*L.getD d 0*U.getD (0+d) 0=0+Q.getD 0 0*gs L 0 (0+d)+Q.getD 1 0*gs L 1 (0+d):=m;have v:(1:κ.F)*L.getD d 0*L.getD d 0*U.getD (1+d) 0=0+Q.getD 0 0*gs L 0 (1+d)+Q.getD 1 0*gs L 1 (1+d):=v;rw[f] at m;rw[f,t 0 (1+d) ⋯] at v;have B:=Zti J 1<|0+d;have G:Q.getD 1 0=L.getD d 0*U.getD (1+d) 0:=l (by
      generalize L.getD d 0=c at *;grind)
    have E:Q.getD 0 0=L.getD d 0*U.getD (0+d) 0-gs L 1 (0+d)*U.getD (1+d) 0:=l (by
      rw[G] at m;generalize L.getD d 0=c at *;grind)
    have D:(0:Int)<((n*w:Nat):Int):=by have:=Q8 dl N; omega
    rw[Ud,Ud];rcases (by omega:k=0\/k=1) with rfl | rfl
    · rw[E]
      exact (QN.sub D (QN.mulN qc<|Zbk o _)<|QN.mulN B<|Zbk o _).mono ⋯
    · rw[G]
      exact (QN.mulN qc<|Zbk o _).mono ⋯
  · have S:d=1:=⋯
    subst S;have m:=A (0+1) ⋯;have v:=A (1+1) ⋯;have K:=A (2+1) ⋯;have m:(1:κ.F)*L.getD 1 0*L.getD 1 0*L.getD 1 0*U.getD (0+1) 0=0+Q.getD 0 0*gs L 0 (0+1)+Q.getD 1 0*gs L 1 (0+1)+Q.getD 2 0*gs L 2 (0+1):=m;have v:(1:κ.F)*L.getD 1 0*L.getD 1 0*L.getD 1 0*U.getD (1+1) 0=0+Q.getD 0 0*gs L 0 (1+1)+Q.getD 1 0*gs L 1 (1+1)+Q.getD 2 0*gs L 2 (1+1):=v;have K:(1:κ.F)*L.getD 1 0*L.getD 1 0*L.getD 1 0*U.getD (2+1) 0=0+Q.getD 0 0*gs L 0 (2+1)+Q.getD 1 0*gs L 1 (2+1)+Q.getD 2 0*gs L 2 (2+1):=K;have T:gs L 1 (0+1)=L.getD 0 0:=by unfold gs; rw[if_pos ⋯]
    have X:gs L 2 (1+1)=L.getD 0 0:=by unfold gs; rw[if_pos ⋯]
    rw[f,T,H 2 (0+1) ⋯] at m;rw[f,X,t 0 (1+1) ⋯] at v;rw[f,t 0 (2+1) ⋯,t 1 (2+1) ⋯] at K;have B:=Zbk J 0;have O:Q.getD 2 0=L.getD 1 0*(L.getD 1 0*U.getD (2+1) 0):=l (by
      generalize L.getD 1 0=c at *;grind)
    have G:Q.getD 1 0=L.getD 1 0*(L.getD 1 0*U.getD (1+1) 0)-L.getD 1 0*(L.getD 0 0*U.getD (2+1) 0):=l (by
      rw[O] at v;generalize L.getD 1 0=c at *;grind)
    have E:Q.getD 0 0=L.getD 1 0*(L.getD 1 0*U.getD (0+1) 0)-L.getD 0 0*(L.getD 1 0*U.getD (1+1) 0)+L.getD 0 0*(L.getD 0 0*U.getD (2+1) 0):=l (by
      rw[G] at m;generalize L.getD 1 0=c at *;grind)
    have D:(0:Int)<((n*(n*w):Nat):Int):=by have:=Q8 dl<|Q8 dl N; omega
    have two:∀(a b u:κ.F),QN κ (n:Int) Sl a->QN κ (n:Int) Sl b->QN κ (w:Int) C u->QN κ ((n*(n*w):Nat):Int) (Sl*(Sl*C)) (a*(b*u)):=λa b u qa Z qu=>QN.mulN qa<|QN.mulN Z qu;rw[show n^2*w=n*(n*w) by rw[Qk,Ud]; grind,show Sl^2*C=Sl*(Sl*C) by rw[Qk,Ud]; grind];rcases (by omega:k=0\/k=1\/k=2) with rfl | rfl | rfl
    · rw[E]
      exact (QN.add D (QN.sub D (two _ _ _ qc qc<|Zbk o _)<|two _ _ _ B qc<|Zbk o _)<|two _ _ _ B B<|Zbk o _).mono ⋯
    · rw[G]
      exact (QN.sub D (two _ _ _ qc qc<|Zbk o _)<|two _ _ _ qc B<|Zbk o _).mono ⋯
    · rw[O]
      exact (two _ _ _ qc qc<|Zbk o _).mono ⋯
end
def ZnM{κ:KX}{F:ZZlk κ}{D M:Nat}(n:0<D)(h:Zoe κ F A)(q:∀x∈F,QN κ (D:Int) M x){y:κ.F}(b:NumV κ A y):y≠0/\QN κ 1 D y/\∀x∈F,QN κ 1 M (y*x):=by
 cases κ with
 |r p i =>
  have h:A=1:=h;subst h;have e:y=K1 (.r p i):=b.uniq Zda;exact (by rw[e];exact Zcl (κ:=.r p i),trivial,λ_ _=>trivial)
 |q =>
  obtain ⟨w,t,m⟩:=h;have o:A ∣ (D:Int):=m D λx a=>by
   obtain ⟨X,e,_⟩:=q x a;have e:x=Rat.divInt X (D:Int):=e;rw[e];exact (Zc9 X ⋯).1
  have g:A.natAbs<=D:=by
   have:=Int.le_of_dvd ⋯ o;omega
  have d:y=Rat.divInt A 1:=by
   rw[<-Qy y,b.1,b.2];rfl
  refine (λz=>?_,(A,d,g),λx a=>?_)
  ·have z:y=(0:Rat):=z;have:=b.1;rw[z] at this;have:(0:Int)=A:=this;omega
  ·obtain ⟨X,e,l⟩:=q x a;have e:x=Rat.divInt X (D:Int):=e;obtain ⟨c,j⟩:=t x a;have v:0<c:=by
    have:(0:Int)<(x.den:Int):=by have:=x.den_pos;omega
    refine Uy λz=>?_;have:=Int.mul_nonpos_of_nonneg_of_nonpos (Int.le_of_lt this) z;omega
   refine (c*x.num,?_,?_)
   ·show (y*x:Rat)=Rat.divInt (c*x.num) 1;rw[d]
    conv=>lhs;rw[<-Qy x]
    have B:(x.den:Int)≠0:=by have:=x.den_pos;omega
    rw[Ua,Wb ⋯ ∅,j];grind
   ·have f:=Zfs X (show 0<(D:Int) by omega);rw[<-e] at f;have s:(c*x.num)*(D:Int)=X*A:=by
     rw[Qx,f,j];grind
    have u:(c*x.num).natAbs*D=X.natAbs*A.natAbs:=by
     have:=congrArg Int.natAbs s;rw[Ql<|c*x.num,Ql X,Qo] at this;exact this
    have k:X.natAbs*A.natAbs<=M*D:=Qj l g;rw[<-u] at k;exact Nat.le_of_mul_le_mul_right k n
def ZuA{κ:KX}(h:κ ≠ .q){D:Int}{M:Nat}{x:κ.F}:QN κ D M x:=by
 cases κ with
 |q=>exact absurd rfl h
 |r p a=>exact trivial
def ZrN{κ:KX}{F:ZZlk κ}{d:Nat}(t:Trm F)(h:∀k,d<=k->F.getD k 0=0):F.length<=d:=by
 rcases t with z|z
 ·omega
 ·refine Wu λq=>z<|h _ ⋯
def eU:Nat->Nat
 |0=>60
 |1=>60
 |_=>245
def eL:Nat->Nat
 |0=>60
 |1=>245
 |_=>560
def eD:Nat->Nat
 |2=>180
 |_=>0
def eA:Nat->Nat
 |0=>0
 |1=>60
 |_=>245
def eH:Nat->Nat
 |0=>0
 |1=>120
 |_=>245
def zS(κ:KX)(n:Nat):Nat:=match κ with
 | .q=>n
 | .r _ _=>1
def ZrO{κ:KX}{n:Nat}(h:0<n):0<zS κ n:=by
 cases κ with
 |q=>exact h
 |r p a=>exact Nat.one_pos
def Zp6{κ:KX}{M n:Nat}{x:κ.F}(h:QN κ D M x)(l:κ = .q->M<=n):QN κ D (zS κ n) x:=by
 cases κ with
 |q=>exact h.mono<|l rfl
 |r p a=>exact trivial
def Zmb{b c a Sl d f e Sh g A B C E:Nat}(q:0<b)(u1:b<=A)(j:0<a)(l1:a<=B)(s:0<d)(k:d<=C)(n:0<e)(h:e<=E)(o:0<c)(l:0<Sl)(m:0<f)(p:0<Sh)
    (c1:B<=Sl) (c2:B^(g+1)*A<=10^200) (c3:25*(Sl^(g+1)*c)<=10^500) (c4:B^(g+1)*A*(Sl*B)^(g+1)<2^3000) (c5:Sl^(g+1)*c*(2*(B*Sl))^(g+1)<2^3000) (c6:C*E^g<=10^200) (c7:f*Sh^g<=10^200) (c8:E<2^3000) (c9:Sh<2^3000):FrSz b c a Sl d f e Sh g:=by
  have r:a^(g+1)<=B^(g+1):=U7 l1 _;have i:a^(g+1)*b<=B^(g+1)*A:=Qj r u1;refine (q,o,j,l,s,m,n,p,Q0 l1 c1,Q0 i c2,c3,Q7 (Qj i<|U7 (Qb _ l1) _) c4,Q7 (Qb _<|U7 (Qb _<|Qq _ l1) _) c5,Q0 (Qj k<|U7 h _) c6,c7,Q7 h c8,c9)
def ZuB{t g b:Nat}(h:(t=0/\g<=3)\/(t=1/\g<=2)\/(t=2/\g<=1))(d:0<b)(l1:b<=2^eD t):FrSz 1 (2^eU t) b (2^eL t) 1 (2^eA t) 1 (2^eH t) g:=by
 have a:∀t g,2^eD t<=2^eL t/\(2^eD t)^(g+1)*1<=10^200/\25*((2^eL t)^(g+1)*2^eU t)<=10^500/\(2^eD t)^(g+1)*1*(2^eL t*2^eD t)^(g+1)<2^3000/\(2^eL t)^(g+1)*2^eU t*(2*(2^eD t*2^eL t))^(g+1)<2^3000/\2^eA t*(2^eH t)^g<=10^200/\2^eH t<2^3000->b<=2^eD t->FrSz 1 (2^eU t) b (2^eL t) 1 (2^eA t) 1 (2^eH t) g:=λt g ⟨c,l,k,f,j,e,i⟩ l1 =>
  Zmb (A:=1) (B:=2^eD t) (C:=1) (E:=1) ∅ ∅ d l1 ∅ ∅ ∅ ∅ (Q9 ∅) (Q9 ∅) (Q9 ∅) (Q9 ∅) c l k f j (by rw[Uf];decide) e ∅ i
 rcases h with ⟨rfl,hg⟩|⟨rfl,hg⟩|⟨rfl,hg⟩
 ·rcases (by omega:g=0\/g=1\/g=2\/g=3) with rfl|rfl|rfl|rfl <;> exact a _ _ ‹4› l1
 ·rcases (by omega:g=0\/g=1\/g=2) with rfl|rfl|rfl <;> exact a _ _ ‹4› l1
 ·rcases (by omega:g=0\/g=1) with rfl|rfl <;> exact a _ _ ‹4› l1
def ZuC{g:Nat}(c:g<=19):FrSz 1 1 1 1 1 1 1 1 g:=by
 have a:∀n:Nat,(1:Nat)^n=1:=λn=>Uf n;have b:(2:Nat)^(g+1)<2^3000:=Nat.pow_lt_pow_right ∅ ⋯;refine Zmb (A:=1) (B:=1) (C:=1) (E:=1) ∅ ∅ ∅ ∅ ∅ ∅ ∅ ∅ ∅ ∅ ∅ ∅ ∅ ?_ ?_ ?_ ?_ ?_ ?_ ∅ ∅
 ·rw[a];decide
 ·rw[a];decide
 ·rw[show (1*1:Nat)=1 from rfl,a];decide
 ·rw[a,Wv,Wv];exact b
 ·rw[a];decide
 ·rw[a];decide
def Zmc{t g:Nat}(h:(t=0/\g<=2)\/(t=1/\g<=1)):eD t=0/\2^eA t*(2^eH t)^g*(1^(g+1)*1)<=2^eD (t+1)/\1*1^g*(25*((2^eL t)^(g+1)*2^eU t))<=2^eL (t+1)/\eL t<=eU (t+1)/\eL t<=eA (t+1)/\eH t<=eH (t+1)/\(∀g',g=g'+1->(2^eH t)^g'<=1/\(2^eL t)^g*1^g'<=2^eH (t+1)):=by
 rcases (by omega:(t=0/\g=0)\/(t=0/\g=1)\/(t=0/\g=2)\/(t=1/\g=0)\/(t=1/\g=1)) with ⟨rfl,rfl⟩|⟨rfl,rfl⟩|⟨rfl,rfl⟩|⟨rfl,rfl⟩|⟨rfl,rfl⟩
 ·exact (rfl,‹4›,‹4›,∅,∅,∅,λg' e=>⋯)
 ·refine (rfl,‹4›,‹4›,∅,∅,∅,λg' e=>?_);obtain rfl:g'=0:=⋯
  decide +kernel
 ·refine (rfl,‹4›,‹4›,∅,∅,∅,λg' e=>?_);obtain rfl:g'=1:=⋯
  decide +kernel
 ·exact (rfl,‹4›,‹4›,∅,∅,∅,λg' e=>⋯)
 ·refine (rfl,‹4›,‹4›,∅,∅,∅,λg' e=>?_);obtain rfl:g'=0:=⋯
  decide +kernel
def Ztj:∀t,eD t<=180/\eL t<=560
 |0=>∅
 |1=>∅
 |2=>∅
 |_+3=>(by show 0<=180;decide,by show 560<=560;decide)
def Ztk{κ:KX}{t g a:Nat}(b:g<=19)(d:κ = .q->(t=0/\g<=3)\/(t=1/\g<=2)\/(t=2/\g<=1))(c:0<a)(l1:a<=zS κ (2^eD t)):FrSz 1 (zS κ<|2^eU t) a (zS κ<|2^eL t) 1 (zS κ<|2^eA t) 1 (zS κ<|2^eH t) g:=by
 cases κ with
 |q=>exact ZuB (d rfl) c l1
 |r p e =>
  have l1:a<=1:=l1;obtain rfl:a=1:=⋯;exact ZuC b
section
variable{κ:KX}
structure CrJ (f g:Sr κ) (U L:ZZlk κ):Prop where
 tU:Trm U
 tL:Trm L
 bU:∃a b,Fs a/\Fs b/\sr U=f*a+g*b
 bL:∃a b,Fs a/\Fs b/\sr L=f*a+g*b
 id:∃a b c d,Fs a/\Fs b/\Fs c/\Fs d/\f=a*sr U+b*sr L/\g=c*sr U+d*sr L
def CrJ.step{f g:Sr κ}{U L N:ZZlk κ}{c α:κ.F}{i:ZZlk κ}(h:CrJ f g U L)(I:c≠0)(p:α≠0)
    (t:sr N=cn c*(cn α*sr U-sr i*sr L)) (C:Trm N):CrJ f g L N:=by
  have ic:=ZjE I;have O:=ZjE p;obtain ⟨a,b,x,J,v,A,w,M,G,y⟩:=h.id;obtain ⟨z,P,o,r,B⟩:=h.bU;obtain ⟨H,D,s,m,F⟩:=h.bL;have eU:sr U=cn (Fd.inv α)*sr i*sr L+cn (Fd.inv α)*cn (Fd.inv c)*sr N:=by
    rw[t];generalize sr U=u at *;generalize sr L=l at *;generalize sr i=q at *;generalize cn c=k at *;generalize cn α=e at *;generalize cn (Fd.inv c)=j at *;generalize cn (Fd.inv α)=d at *;have E:d*q*l+d*j*(k*(e*u-q*l))=d*q*l+d*(j*k)*(e*u-q*l):=by grind
    rw[E,ic];have K:d*q*l+d*1*(e*u-q*l)=(d*e)*u:=by grind
    rw[K,O];grind
  refine (h.tL,C,h.bL,(cn c*(cn α*z-sr i*H),cn c*(cn α*P-sr i*D),?_,?_,?_),(a*(cn (Fd.inv α)*sr i)+b,a*(cn (Fd.inv α)*cn (Fd.inv c)),x*(cn (Fd.inv α)*sr i)+J,x*(cn (Fd.inv α)*cn (Fd.inv c)),?_,?_,?_,?_,?_,?_))
  · exact (Fs.cn _).mul (((Fs.cn _).mul o).sub<|(Fs.sr _).mul s)
  · exact (Fs.cn _).mul (((Fs.cn _).mul r).sub<|(Fs.sr _).mul m)
  · rw[t,B,F]
    generalize sr i=q;generalize cn c=k;generalize cn α=e;grind
  · exact (v.mul<|(Fs.cn _).mul<|Fs.sr _).add A
  · exact v.mul ((Fs.cn _).mul<|Fs.cn _)
  · exact (w.mul<|(Fs.cn _).mul<|Fs.sr _).add M
  · exact w.mul ((Fs.cn _).mul<|Fs.cn _)
  · conv=>lhs; rw[G,eU]
    generalize sr L=l;generalize sr N=n;generalize sr i=q;generalize cn (Fd.inv c)=j;generalize cn (Fd.inv α)=d;grind
  · conv=>lhs; rw[y,eU]
    generalize sr L=l;generalize sr N=n;generalize sr i=q;generalize cn (Fd.inv c)=j;generalize cn (Fd.inv α)=d;grind
def CrJ.swap{f g:Sr κ}{U L:ZZlk κ}(h:CrJ f g U L):CrJ f g L U:=by
 obtain ⟨a,b,c,d,j,k,m,n,i,e⟩:=h.id;refine (h.tL,h.tU,h.bL,h.bU,(b,a,d,c,k,j,n,m,?_,?_))
 ·conv=>lhs;rw[i]
  generalize sr L=l;generalize sr U=u;grind
 ·conv=>lhs;rw[e]
  generalize sr L=l;generalize sr U=u;grind
structure CrP (f g:Sr κ) (R:ZZlk κ):Prop where
 t:Trm R
 b:∃a b,Fs a/\Fs b/\sr R=f*a+g*b
 o:(R=[]/\f=0/\g=0)\/(Mon R/\∃a c,Fs a/\Fs c/\f=a*sr R/\g=c*sr R)
def Ztl(κ:KX)(U:ZZlk κ):Prop:=∃D S:Nat,0<D/\D<=2^180/\0<S/\S<=2^560/\∀x∈U,QN κ (D:Int) S x
def ZrP{t:Nat}{L:ZZlk κ}{a:Nat}(c:0<a)(l1:a<=zS κ (2^eD t))(d:∀x∈L,QN κ (a:Int) (zS κ<|2^eL t) x):Ztl κ L:=by
 cases κ with
 |r p f=>exact (1,1,∅,∅,∅,∅,λ_ _=>trivial)
 |q =>
  obtain ⟨e,b⟩:=Ztj t;exact (a,2^eL t,c,Q0 l1<|Q5 ∅ e,Q9 ∅,Q5 ∅ b,d)
def Sm(u l:ZZlk κ):Prop:=∃(F:ZZlk κ) (a b:Sr κ),Mon F/\F.length=l.length/\Fs a/\Fs b/\sr u=a*sr F/\sr l=b*sr F
def ZfG{R F:ZZlk κ}{a:Sr κ}(b:Mon R)(c:Trm F)(g:F.length≠0)(f:Fs a)(e:sr F=a*sr R):R.length<=F.length:=Wu λq=>by
 have h:=b.1;have z:=Zdi (m:=R.length-1) (d:=R) (R:=F) ⋯ b.2 ⋯ f e;exact g (by rw[ZiP c z];rfl)
def ZnN{f g:Sr κ}{F G:ZZlk κ}{y z:κ.F}{X Y:ZZlk κ}(k:y≠0)(l:z≠0)(e:Trm X)(j:Trm Y)(c:f=sr F)(d:g=sr G)(a:sr X=cn y*sr F)(b:sr Y=cn z*sr G):CrJ f g X Y:=by
 have i:=ZjE k;have h:=ZjE l;subst c d;refine (e,j,(cn y,0,Fs.cn _,Fs.zero,?_),(0,cn z,Fs.zero,Fs.cn _,?_),(cn<|Fd.inv y,0,0,cn<|Fd.inv z,Fs.cn _,Fs.zero,Fs.zero,Fs.cn _,?_,?_))
 ·rw[a];generalize sr F=f;generalize sr G=g;generalize cn y=s;grind
 ·rw[b];generalize sr F=f;generalize sr G=g;generalize cn z=s;grind
 ·rw[a];generalize sr F=f at *;generalize sr Y=g at *;generalize cn y=s at *;generalize cn (Fd.inv y)=t at *;have:t*(s*f)+0*g=t*s*f:=by grind
  rw[this,i];grind
 ·rw[b];generalize sr G=f at *;generalize sr X=g at *;generalize cn z=s at *;generalize cn (Fd.inv z)=t at *;have:0*g+t*(s*f)=t*s*f:=by grind
  rw[this,h];grind
def ZoK{X F:ZZlk κ}{y:κ.F}(c:y≠0)(b:Trm F)(e:sr X=cn y*sr F):F.length<=X.length:=Wu λq=>by
 have a:F.length≠0:=⋯;have:=ZiQ b a;have h:=congrArg (λs=>Rg.Ps.c s<|F.length-1) e;have h:(sr X).c (F.length-1)=(cn y*sr F).c (F.length-1):=h;rw[ZfD,Zbj,Zbj,Zah ⋯] at h;have d:=Fd.mul_inv y c;generalize F.getD (F.length-1) 0=u at *;exact this (by
  have:u=Fd.inv y*(y*u):=by grind
  rw[this,<-h];grind)
def ZrQ{X F:ZZlk κ}{y:κ.F}(e:sr X=cn y*sr F)(l:X.length<=F.length)(q:∀x∈F,QN κ 1 S<|y*x):∀x∈X,QN κ ((1:Nat):Int) S x:=λx a=>by
 obtain ⟨k,b,rfl⟩:=ZbY a;rw[<-Zbj,e,ZfD,Zbj];refine q _ ?_;rw[Q2,Q6 ⋯];exact Qu _
end
end My
namespace My.Rg
section
variable{α:Type}[Lean.Grind.CommRing α]
def xS(s:Ps α):Ps α:=⟨λk=>match k with
 |0=>0
 |k+1=>s.c k⟩
def xS_0(s:Ps α):(xS s).c 0=0:=rfl
def xS_s(s:Ps α)(k:Nat):(xS s).c (k+1)=s.c k:=rfl
def xS_mul(s t:Ps α):xS s*t=xS (s*t):=Ps.ext λn=>by
 cases n with
 |zero =>
  rw[xS_0,Ps.c_mul];show 0+(xS s).c 0*t.c 0=0;rw[xS_0];grind
 |succ n =>
  rw[xS_s,Ps.c_mul,Ps.c_mul,ZbJ,xS_0];have:Sg (λi=>(xS s).c (i+1)*t.c (n+1-(i+1))) (n+1)=Sg (λi=>s.c i*t.c (n-i)) (n+1):=Sg_congr λi _=>by
   rw[xS_s,show n+1-(i+1)=n-i by omega]
  rw[this];grind
def Sg_mulR(c:α)(h:Nat->α)(n:Nat):Sg h n*c=Sg (λi=>h i*c) n:=by
 have:Sg h n*c=c*Sg h n:=by grind
 rw[this,Sg_mul];exact Sg_congr λi _=>by grind
def ZoL{a:Nat->Nat->α}{m:Nat}{u u1 u2:Nat->α}{c:α}(h:∀r,r<m->u r=u1 r+c*u2 r):∀k i,i<m->im a m u k i=im a m u1 k i+c*im a m u2 k i
 |0,i,hi=>h i hi
 |k+1,i,hi=>by
  show Sg _ m=Sg _ m+c*Sg _ m;rw[Sg_mul,Sg_add];exact Sg_congr λj b=>by rw[ZoL h k j b];grind
def ZjF(a:Nat->Nat->α)(m:Nat)(u:Nat->α):∀k i,im a m (λr=>Sg (λj=>a r j*u j) m) k i=im a m u (k+1) i
 |0,i=>rfl
 |k+1,i=>by
  show Sg _ m=Sg _ m;exact Sg_congr λj _=>by rw[ZjF a m u k j]
def Zmd{a:Nat->Nat->α}{m:Nat}{u:Nat->α}(h:∀r,r<m->u r=0):∀k i,i<m->im a m u k i=0
 |0,i,hi=>h i hi
 |k+1,i,hi=>by
  show Sg _ m=0;rw[Sg_congr (g:=λ_=>(0:α)) λj b=>by rw[Zmd h k j b];grind,Sg_zero]
def Stp(a:Nat->Nat->α)(m:Nat)(v:Nat->α)(E:Nat->Ps α)(f:Ps α):Prop:=∀r,r<m->xS (E r)=Sg (λj=>Ps.con (a r j)*E j) m+Ps.con (v r)*f
def Stp.z{a:Nat->Nat->α}{v:Nat->α}{E:Nat->Ps α}{f:Ps α}(h:Stp a m v E f){r:Nat}(hr:r<m):Sg (λj=>a r j*(E j).c 0) m+v r*f.c 0=0:=by
 have:=congrArg (λs=>Ps.c s 0)<|h r hr;have:(xS<|E r).c 0=(Sg (λj=>Ps.con (a r j)*E j) m+Ps.con (v r)*f).c 0:=this;rw[Ps.c_add,Ps.c_Sg,xS_0,show (Ps.con (v r)*f).c 0=v r*f.c 0 from Ps.con_mul _ _ _] at this;rw[this]
 congr 1
 exact Sg_congr λj _=>(Ps.con_mul (a r j) (E j) 0).symm
def Stp.s{a:Nat->Nat->α}{v:Nat->α}{E:Nat->Ps α}{f:Ps α}(h:Stp a m v E f){r:Nat}(hr:r<m)(k:Nat):(E r).c k=Sg (λj=>a r j*(E j).c (k+1)) m+f.c (k+1)*v r:=by
 have:=congrArg (λs=>Ps.c s<|k+1)<|h r hr;have:(xS<|E r).c (k+1)=(Sg (λj=>Ps.con (a r j)*E j) m+Ps.con (v r)*f).c (k+1):=this;rw[Ps.c_add,Ps.c_Sg,xS_s,show (Ps.con (v r)*f).c (k+1)=v r*f.c (k+1) from Ps.con_mul _ _ _] at this;rw[this];have e:Sg (λj=>(Ps.con (a r j)*E j).c<|k+1) m=Sg (λj=>a r j*(E j).c (k+1)) m:=Sg_congr λj _=>Ps.con_mul (a r j) (E j)<|k+1;rw[e];grind
def Stp.of{a:Nat->Nat->α}{m:Nat}{v:Nat->α}{E:Nat->Ps α}{f:Ps α}(c:∀r,r<m->Sg (λj=>a r j*(E j).c 0) m+v r*f.c 0=0)(d:∀r,r<m->∀k,(E r).c k=Sg (λj=>a r j*(E j).c (k+1)) m+f.c (k+1)*v r):Stp a m v E f:=λr b=>Ps.ext λk=>by
 rw[Ps.c_add,Ps.c_Sg,show (Ps.con (v r)*f).c k=v r*f.c k from Ps.con_mul _ _ _,Sg_congr (h:=λj=>(Ps.con (a r j)*E j).c k) (g:=λj=>a r j*(E j).c k) λj _=>Ps.con_mul (a r j) (E j) k]
 cases k with
 |zero=>rw[xS_0,c r b]
 |succ k=>rw[xS_s,d r b k];grind
def Stp.tele{a:Nat->Nat->α}{v:Nat->α}{E:Nat->Ps α}{f:Ps α}(h:Stp a m v E f){i:Nat}(b:i<m):∀N,Sg (λk=>f.c k*im a m v k i) (N+1)+im a m (λr=>(E r).c N) (N+1) i=0
 |0=>by
  have:=h.z b;show 0+f.c 0*v i+Sg (λj=>a i j*(E j).c 0) m=0;grind
 |N+1=>by
  have d:=Stp.tele h b N;have e:=ZoL (a:=a) (m:=m) (u:=λr=>(E r).c N) (u1:=λr=>Sg (λj=>a r j*(E j).c (N+1)) m) (u2:=v) (c:=f.c<|N+1) (λr g=>h.s g N) (N+1) i b;rw[ZjF] at e;show Sg _ (N+1)+f.c (N+1)*im a m v (N+1) i+_=0;rw[e] at d;generalize im a m (λr=>(E r).c<|N+1) (N+1+1) i=x at *;generalize im a m v (N+1) i=y at *;generalize Sg (λk=>f.c k*im a m v k i) (N+1)=z at *;grind
def Stp.nought{a:Nat->Nat->α}{v:Nat->α}{E:Nat->Ps α}{f:Ps α}(h:Stp a m v E f){N:Nat}(c:∀r,r<m->(E r).c N=0){i:Nat}(b:i<m):Sg (λk=>f.c k*im a m v k i) (N+1)=0:=by
 have:=h.tele b N;rw[Zmd c _ i b] at this;grind
def ZnO{a:Nat->Nat->α}{m:Nat}{D:Nat->Ps α}(h:∀r,r<m->xS (D r)=Sg (λj=>Ps.con (a r j)*D j) m){N:Nat}(z:∀r,r<m->∀k,N<=k->(D r).c k=0):∀r,r<m->D r=0:=by
 have e:Stp a m (λ_=>0) D 0:=λr b=>by
  rw[h r b];generalize Sg (λj=>Ps.con (a r j)*D j) m=x;generalize Ps.con (0:α)=y;grind
 have q:∀n,(∀r,r<m->∀k,n<=k->(D r).c k=0)->∀r,r<m->∀k,(D r).c k=0:=λn=>by
  induction n with
  |zero=>exact λq r b k=>q r b k<|Qg _
  |succ n d =>
   intro q;refine d λr b k f=>?_;rw[e.s b k,Sg_congr (g:=λ_=>(0:α)) λj c=>by rw[q j c (k+1) ⋯];grind,Sg_zero,Ps.c_zero];grind
 exact λr b=>Ps.ext λk=>by rw[q N z r b k,Ps.c_zero]
def Gs(a:Nat->Nat->α)(m:Nat)(v:Nat->α)(h:Ps α)(n r:Nat):Ps α:=⟨λk=>Sg (λt=>h.c (k+1+t)*im a m v t r) n⟩
def ZoM(a:Nat->Nat->α)(m:Nat)(v c:Nat->α)(n r:Nat):Sg (λj=>a r j*Sg (λt=>c (t+1)*im a m v t j) n) m+v r*c 0=Sg (λt=>c t*im a m v t r) (n+1):=by
 rw[ZbJ];have e:Sg (λj=>a r j*Sg (λt=>c (t+1)*im a m v t j) n) m=Sg (λt=>c (t+1)*im a m v (t+1) r) n:=by
  rw[Sg_congr (g:=λj=>Sg (λt=>c (t+1)*(a r j*im a m v t j)) n) λj _=>by
   rw[Sg_mul];exact Sg_congr λt _=>by grind,ZeA]
  exact Sg_congr λt _=>by rw[<-Sg_mul];rfl
 rw[e];show _=c 0*v r+_;grind
def stp_two{a:Nat->Nat->α}{v:Nat->α}{E G:Nat->Ps α}{f h:Ps α}(d:Stp a m v E f)(c:Stp a m v G h){N:Nat}(z:∀r,r<m->∀k,N<=k->(f*G r-h*E r).c k=0){r:Nat}(hr:r<m):f*G r=h*E r:=by
 have i:∀s t:Ps α,xS (s-t)=xS s-xS t:=λs t=>Ps.ext λk=>by
  cases k with
  |zero=>rw[Ps.c_sub,xS_0,xS_0,xS_0];grind
  |succ k=>rw[Ps.c_sub,xS_s,xS_s,xS_s,Ps.c_sub]
 have b:∀s t:Ps α,xS (s*t)=s*xS t:=λs t=>by
  have:s*t=t*s:=by grind
  rw[this,<-xS_mul];grind
 have q:=ZnO (a:=a) (D:=λr=>f*G r-h*E r) (λr hr=>by
  show xS (f*G r-h*E r)=Sg (λj=>Ps.con (a r j)*(f*G j-h*E j)) m;rw[i,b,b,c r hr,d r hr];have e:Sg (λj=>Ps.con (a r j)*(f*G j-h*E j)) m=f*Sg (λj=>Ps.con (a r j)*G j) m+(0-h)*Sg (λj=>Ps.con (a r j)*E j) m:=by
   rw[Sg_mul,Sg_mul,Sg_add];exact Sg_congr λj _=>by
    generalize Ps.con (a r j)=x;generalize G j=g;generalize E j=e;grind
  rw[e];generalize Sg (λj=>Ps.con (a r j)*G j) m=x;generalize Sg (λj=>Ps.con (a r j)*E j) m=y;generalize Ps.con (v r)=w;grind) z r hr
 have q:f*G r-h*E r=0:=q;generalize G r=g at *;generalize E r=e at *;grind
def tpS(a:Nat->Nat->α)(m:Nat)(v:Nat->α)(r:Nat):Ps α:=⟨λj=>if j<m then (Vz a m v r*qz m a).c (m-1-j) else 0⟩
def tp_stp{a:Nat->Nat->α}{m:Nat}{v:Nat->α}{f:Ps α}(c:∀j,j<=m->f.c j=(qz m a).c (m-j))(n:∀j,m<j->f.c j=0):Stp a m v (tpS a m v) f:=by
  have b:∀r k,k<m->(tpS a m v r).c k=(Vz a m v r*qz m a).c (m-1-k):=λr k h=>if_pos h;have d:∀r k,m<=k->(tpS a m v r).c k=0:=λr k h=>if_neg ⋯;refine Stp.of (λr i=>?_) λr i k=>?_
  · have e:=ZoE a m v r<|m-1
    rw[show m-1+1=m by omega,ZrG i<|Q4 m] at e;rw[Sg_congr (g:=λj=>a r j*(Vz a m v j*qz m a).c (m-1)) λj _=>by rw[b j 0 ⋯,Ul],c 0<|Qg _,Ul];rw[e]; grind
  · by_cases q:k+1<m
    · rw[b r k ⋯,Sg_congr (g:=λj=>a r j*(Vz a m v j*qz m a).c (m-1-(k+1))) λj _=>by rw[b j (k+1) q],c (k+1) ⋯,show m-1-k=m-1-(k+1)+1 by omega,ZoE,show m-1-(k+1)+1=m-(k+1) by omega]
    · have l:Sg (λj=>a r j*(tpS a m v j).c (k+1)) m=0:=by
        rw[Sg_congr (g:=λ_=>(0:α)) λj _=>by rw[d j (k+1) ⋯]; grind,Sg_zero]
      rw[l]
      by_cases q2:k+1=m
      · rw[b r k ⋯,c (k+1) ⋯,show m-1-k=0 by omega,show m-(k+1)=0 by omega,ZrH,qz_c0]; grind
      · rw[d r k ⋯,n (k+1) ⋯]; grind
end
end My.Rg
namespace My
open PySem L2 PyProof.Rows
section
variable{κ:KX}
def ZnP{d:ZZlk κ}{e:Sr κ}(a:Mon d)(j:Fs e)(h:e*sr d=0):e=0:=by
 obtain ⟨N,f⟩:=j;obtain ⟨m,hm⟩:∃m,d.length=m+1:=(d.length-1,by have:=a.1;omega);have top:=a.2;rw[hm,Qz] at top;have z:∀n,(∀k,n<=k->e.c k=0)->∀k,e.c k=0:=λn=>by
  induction n with
  |zero=>exact λq k=>q k<|Qg _
  |succ n g =>
   intro q;refine g λk o=>?_
   by_cases ek:k=n
   ·subst ek;have c:(e*sr d).c (k+m)=0:=by rw[h,Rg.Ps.c_zero]
    rw[Rg.Ps.c_mul,show k+m+1=k+1+m by omega,ZdD (h:=λi=>e.c i*(sr d).c (k+m-i)) (n:=k+1) m λi b=>by
     show e.c i*_=0;rw[q i b];grind] at c
    have l:Rg.Sg (λi=>e.c i*(sr d).c (k+m-i)) (k+1)=Rg.Sg (λ_=>0) k+e.c k*(sr d).c (k+m-k):=by
     show Rg.Sg _ k+_=_
     congr 1
     refine Rg.Sg_congr λi b=>?_;rw[Zbj,Zah ⋯];grind
    rw[l,Rg.Sg_zero,Zbj,show k+m-k=m by omega,top] at c;grind
   ·exact q k ⋯
 exact Rg.Ps.ext λk=>by rw[z N f k,Rg.Ps.c_zero]
def ZbG{d:ZZlk κ}{x y:Sr κ}(c:Mon d)(a:Fs x)(b:Fs y)(h:x*sr d=y*sr d):x=y:=by
 have:=ZnP c (a.sub b) (by generalize sr d=s at *;grind);grind
def Fs.sg{h:Nat->Sr κ}:∀n,(∀i,i<n->Fs (h i))->Fs (Rg.Sg h n)
 |0,_=>Fs.zero
 |n+1,e=>(Fs.sg n λi a=>e i ⋯).add<|e n ⋯
def Fs.xs{s:Sr κ}(h:Fs s):Fs (Rg.xS s):=by
 obtain ⟨N,h⟩:=h;refine (N+1,λk a=>?_);obtain ⟨j,rfl⟩:∃j,k=j+1:=(k-1,⋯);exact h j ⋯
def Fs.con(x:κ.F):Fs (Rg.Ps.con x:Sr κ):=by rw[<-Zgd];exact Fs.cn x
def Zme{D:Nat->Sr κ}:∀m,(∀r,r<m->Fs (D r))->∃N,∀r,r<m->∀k,N<=k->(D r).c k=0
 |0,_=>(0,λr a=>⋯)
 |m+1,h=>by
  obtain ⟨N,b⟩:=Zme m λr a=>h r ⋯;obtain ⟨M,c⟩:=h m ⋯;refine (N+M,λr a k d=>?_)
  by_cases q:r=m
  ·subst q;exact c k ⋯
  ·exact b r ⋯ k ⋯
def Cmb(c:Sr κ)(T:Nat->Sr κ)(i:Nat)(s:Sr κ):Prop:=∃(a:Sr κ) (b:Nat->Sr κ),Fs a/\(∀r,Fs<|b r)/\s=c*a+Rg.Sg (λr=>T r*b r) i
def Cmb.first(a:Sr κ)(T:Nat->Sr κ):Cmb a T 0 a:=(1,λ_=>0,Fs.one,λ_=>Fs.zero,by show a=a*1+0;grind)
def Cmb.stay{c:Sr κ}{T:Nat->Sr κ}{s:Sr κ}(h:Cmb c T i s):Cmb c T (i+1) s:=by
 obtain ⟨a,b,d,f,e⟩:=h;refine (a,λr=>if r=i then 0 else b r,d,λr=>by show Fs (if r=i then 0 else b r);split;exact Fs.zero;exact f r,?_);show s=c*a+(Rg.Sg _ i+T i*(if i=i then 0 else b i));rw[if_pos rfl,Rg.Sg_congr (g:=λr=>T r*b r) λr j=>by show T r*(if r=i then 0 else b r)=_;rw[if_neg ⋯],e];generalize Rg.Sg (λr=>T r*b r) i=x;generalize T i=y;grind
def Cmb.step{c:Sr κ}{T:Nat->Sr κ}{s t x y:Sr κ}(h:Cmb c T i s)(d:Fs x)(f:Fs y)(k:t=s*x+T i*y):Cmb c T (i+1) t:=by
 obtain ⟨a,b,l,j,e⟩:=h;refine (a*x,λr=>if r=i then y else b r*x,l.mul d,λr=>by show Fs (if r=i then y else b r*x);split;exact f;exact (j r).mul d,?_);show t=c*(a*x)+(Rg.Sg _ i+T i*(if i=i then y else b i*x));rw[if_pos rfl,Rg.Sg_congr (g:=λr=>(T r*b r)*x) λr m=>by show T r*(if r=i then y else b r*x)=_;rw[if_neg ⋯];generalize T r=u;generalize b r=w;grind,<-Rg.Sg_mulR,k,e];generalize Rg.Sg (λr=>T r*b r) i=x;generalize T i=y;grind
structure Shd (χ:Sr κ) (T:Nat->Sr κ) (i:Nat) (s:ZZlk κ):Prop where
 m:Mon s
 d:∃e,Fs e/\χ=e*sr s
 t:∀r,r<i->∃e,Fs e/\T r=e*sr s
 c:Cmb χ T i (sr s)
def ZuD{a:Nat->Nat->κ.F}{v:Nat->κ.F}{m:Nat}(e:m<=3)(c:∀i j,QN κ ((12:Nat):Int) 108<|a i j)(d:∀i,QN κ ((12:Nat):Int) 108<|v i)(r:Nat){t:Nat}(g:t<=2):QN κ ((1728:Nat):Int) (2^60) ((Rg.Vz a m v r*Rg.qz m a).c t):=by
 rw[Rg.Ps.c_mul];have b:∀k,0<12^k:=λk=>Q9 ∅;have q:QN κ ((12^(t+1):Nat):Int) ((t+1)*(756^t*108*763^3)) (Rg.Sg (λi=>(Rg.Vz a m v r).c i*(Rg.qz m a).c (t-i))<|t+1):=by
  refine Zgc (by have:=b<|t+1;omega) (t+1) λi f=>?_;have:=QN.mulN (ZnJ (m:=m) (show m<=7 by omega) c d i r)<|Zp2 (m:=m) (show m<=7 by omega) c<|t-i;rw[<-W4,show i+1+(t-i)=t+1 by omega] at this;refine QN.mono this<|Qj (Qq _<|Q5 ∅ ⋯)<|Q5 ∅ e
 have u:=q.upN (b<|t+1)<|b<|2-t;rw[<-W4,show t+1+(2-t)=3 by omega] at u;refine u.mono ?_;obtain rfl|rfl|rfl:t=0\/t=1\/t=2:=⋯
 ·decide
 ·decide
 ·decide
def W_q{A:ZZll κ}{m:Nat}{v:ZZlk κ}(b:κ = .q->m<=3)(c:AllR (Q12 κ) A)(a:∀x∈v,Q12 κ x)(r:Nat){t:Nat}(e:t<m):QN κ ((1728:Nat):Int) (2^60) ((Rg.Vz (ent A) m (vF v) r*Rg.qz m (ent A)).c t):=by
 cases κ with
 |r p d=>exact trivial
 |q =>
  have:=b rfl;exact ZuD this (λi j=>ZdC c i j) (λi=>ZcK a i) r ⋯
def Ztm{A:ZZll κ}(h:AllR (Q12 κ) A):GrS κ A:=(12,108,∅,∅,∅,h)
def Zg4{a:Nat->Nat->κ.F}{m j:Nat}(h:j<=m):(coL (Rg.chi m a)<|m+1).getD j 0=(Rg.qz m a).c (m-j):=by
 rw[<-ZiO,Q2,U4 (by rw[ZaI];omega),<-Q2,ZaI,show m+1-1-j=m-j by omega];exact Ze0 _ ⋯
def ZiR(a:Nat->Nat->κ.F)(m:Nat):Mon (coL (Rg.chi m a)<|m+1):=(by rw[ZaI];omega,by rw[ZaI,Qz,Zg4<|Q4 m,Ue,Rg.qz_c0])
def ZcM{F:ZZlk κ}(h:Mon F):Trm F:=.inr (by rw[h.2];exact Zcl)
def ZoN{A:ZZll κ}{m:Nat}(b:κ = .q->m<=3)(g:AllR (Q12 κ) A):∀x∈coL (Rg.chi m<|ent A) (m+1),QN κ ((1728:Nat):Int) (2^60) x:=λx d=>by
 cases κ with
 |r p h=>exact trivial
 |q =>
  have f:=b rfl;obtain ⟨j,e,rfl⟩:=ZbY d;rw[ZaI] at e;rw[Zg4 ⋯];have q:=Zp2 (κ:=.q) (a:=ent A) (m:=m) ⋯ (λi j=>ZdC g i j)<|m-j;have u:=q.upN (Q9 ∅) (c:=12^(3-(m-j)))<|Q9 ∅;rw[<-W4,show m-j+(3-(m-j))=3 by omega] at u;refine u.mono<|Q0 (Qj (Q5 ∅ f)<|Q5 ∅ (show 3-(m-j)<=3 by omega)) ∅
def TopL(A:ZZll κ)(m:Nat)(v:ZZlk κ)(a:ZZll κ)(i:Nat):Prop:=a.length=i/\∀r,r<i->sr (a.getD r [])=Rg.tpS (ent A) m (vF v) r/\Trm (a.getD r [])/\(a.getD r []).length<=m/\∀x∈a.getD r [],QN κ ((1728:Nat):Int) (2^60) x
noncomputable def Zh8(A:ZZll κ)(m:Nat)(v:ZZlk κ)(r:Nat):ZZlk κ:=(List.range m).map λt=>(Rg.Vz (ent A) m (vF v) r*Rg.qz m (ent A)).c t
def Zp7(A:ZZll κ)(m:Nat)(v:ZZlk κ){r:Nat}(hr:r<m):((List.range m).map<|wL A m v).map (λf=>f.getD r 0)=Zh8 A m v r:=by
 rw[List.map_map];unfold Zh8;refine List.map_congr_left λt _=>?_;exact ZaM _ hr
def ZnQ{A:ZZll κ}{v:ZZlk κ}(j:Nat):(Zh8 A m v r).reverse.getD j 0=(Rg.tpS (ent A) m (vF v) r).c j:=by
 show _=if j<m then _ else _
 by_cases h:j<m
 ·rw[if_pos h,Q2,U4 (by rw[Zh8,Za1];exact h),<-Q2,show (Zh8 A m v r).length=m from Za1 _ _];exact ZaM _ ⋯
 ·rw[if_neg h];exact Zah (by rw[Wd,Zh8,Za1];omega)
def TopL.snoc{A:ZZll κ}{v:ZZlk κ}{a:ZZll κ}{i k:Nat}(h:TopL A m v a i)(d:κ = .q->m<=3)(o:AllR (Q12 κ) A)(g:∀x∈v,Q12 κ x)(b:k<=(Zh8 A m v i).reverse.length)(z:∀j,k<=j->(Zh8 A m v i).reverse.getD j 0=0)(nz:k=0\/(Zh8 A m v i).reverse.getD (k-1) 0≠0):TopL A m v (a++[(Zh8 A m v i).reverse.take k]) (i+1):=by
 obtain ⟨l,h⟩:=h;refine (by rw[Qi,l];rfl,λr p=>?_)
 by_cases q:r<i
 ·rw[show (a++[(Zh8 A m v i).reverse.take k]).getD r []=a.getD r [] by rw[Q2,Wr ⋯,<-Q2]];exact h r q
 ·obtain rfl:r=i:=⋯;rw[show (a++[(Zh8 A m v r).reverse.take k]).getD r []=(Zh8 A m v r).reverse.take k by rw[Q2,Wz ⋯,l,Ue];rfl];have n:(Zh8 A m v r).reverse.length=m:=by rw[Wd,Zh8,Za1]
  refine (Rg.Ps.ext λj=>?_,Zg2 b nz,by rw[Qr,n];omega,λx e=>?_)
  ·rw[Zbj,<-ZnQ]
   by_cases c:j<k
   ·rw[Q2,U3,if_pos c,<-Q2]
   ·rw[z j ⋯];exact Zah (by rw[Qr];omega)
  ·have:=List.mem_reverse.mp<|Uc e;exact ZjD (λt f=>W_q d o g r f) x this
def Zmf{f G:ZZlk κ}{n l:Nat}(d:f.length=n+1)(c:G.length=l+1):(sr f*sr G).c (n+l)=f.getD n 0*G.getD l 0:=by
 rw[Rg.Ps.c_mul,show n+l+1=n+1+l by omega,ZdD (h:=λi=>(sr f).c i*(sr G).c (n+l-i)) (n:=n+1) l λi a=>by
  show (sr f).c i*_=0;rw[Zbj,Zah ⋯];grind]
 have b:Rg.Sg (λi=>(sr f).c i*(sr G).c (n+l-i)) (n+1)=Rg.Sg (λ_=>0) n+(sr f).c n*(sr G).c (n+l-n):=by
  show Rg.Sg _ n+_=_
  congr 1
  refine Rg.Sg_congr λi a=>?_;rw[Zbj G,Zah ⋯];grind
 rw[b,Rg.Sg_zero,Zbj,Zbj,show n+l-n=l by omega];grind
def Zp8{F G a R:ZZlk κ}{e:Sr κ}(b:Mon G)(i:Fs e)(f:sr F=e*sr G)(h:Dv F G (F.length+1-G.length) a R):sr F=sr a.reverse*sr G:=by
 obtain ⟨d,hd⟩:∃d,G.length=d+1:=(G.length-1,by have:=b.1;omega);have top:=b.2;rw[hd,Qz] at top;have c:sr F=sr a.reverse*sr G+sr (R.take d):=Rg.Ps.ext λk=>by
  rw[Rg.Ps.c_add,ZhV,Zbj,Zbj];exact ZoC hd rfl h k
 have z:=Zdi (m:=d) (d:=G) (R:=R.take d) (e:=e-sr a.reverse) hd top (by rw[Qr];omega) (i.sub<|Fs.sr _) (by
  rw[f] at c;generalize sr G=g at *;generalize sr a.reverse=q at *;generalize sr (R.take d)=r at *;grind)
 rw[c,z];generalize sr a.reverse*sr G=q;grind
def ZrR(a:Nat->Nat->κ.F)(m:Nat)(v:Nat->κ.F)(r:Nat):∀k,m<=k->(Rg.tpS a m v r).c k=0:=λk b=>if_neg ⋯
def Zmg(a:Nat->Nat->κ.F)(m:Nat)(v:Nat->κ.F):Rg.Stp a m v (Rg.tpS a m v) (sr<|coL (Rg.chi m a)<|m+1) :=
 Rg.tp_stp (λj b=>by rw[Zbj];exact Zg4 b) λj b=>by rw[Zbj];exact Zah (by rw[ZaI];omega)
def Zp9{F G:ZZlk κ}(k:F.length<=8)(f:κ = .q->F.length<=4)(a:Mon G)(e:∀x∈F,QN κ ((1728:Nat):Int) (2^60) x)(j:G.length<=8)(d:∀x∈G,QN κ ((1728:Nat):Int) (2^60) x):∃D E M N:Nat,DvIn F G D E M N:=by
 have g:=a.1
 cases κ with
 |r p i =>
  have c:(2*(1*1))^(F.length+1-G.length)<=2^9:=Q5 ∅ ⋯;have o:(1*1)^(F.length+1-G.length)=1:=Uf _;exact (1,1,1,1,⋯,⋯,ZcM a,λ_ _=>trivial,λ_ _=>trivial,∅,∅,∅,∅,∅,by rw[o];decide +kernel,Q7 (Qb 1 c) ‹4›,‹4›,‹4›)
 |q =>
  have h:=f rfl;have b:F.length+1-G.length<=4:=⋯;exact (1728,1728,2^60,2^60,⋯,⋯,ZcM a,e,d,∅,∅,∅,∅,∅,Q7 (Qb 1728<|Q5 ∅ b) ‹4›,Q7 (Qb (2^60)<|Q5 ∅ b) ‹4›,‹4›,‹4›)
end
end My
namespace My.Rg
section
variable{α:Type}[Lean.Grind.CommRing α]
def xs_add(s t:Ps α):xS (s+t)=xS s+xS t:=Ps.ext λk=>by
 cases k with
 |zero=>rw[Ps.c_add,xS_0,xS_0,xS_0];grind
 |succ k=>rw[Ps.c_add,xS_s,xS_s,xS_s,Ps.c_add]
def xs_mul(s t:Ps α):xS (s*t)=s*xS t:=by
 have:s*t=t*s:=by grind
 rw[this,<-xS_mul];grind
def con_c(x:α)(k:Nat):(Ps.con x:Ps α).c k=if k=0 then x else 0:=rfl
def gs_rem{a:Nat->Nat->α}{v:Nat->α}{h:Ps α}{n:Nat}(b:∀k,n<=k->h.c k=0)(r:Nat):xS (Gs a m v h n r)=Sg (λj=>Ps.con (a r j)*Gs a m v h n j) m+(Ps.con (v r)*h-Ps.con (Sg (λk=>h.c k*im a m v k r) n)):=Ps.ext λk=>by
 rw[Ps.c_add,Ps.c_Sg,Ps.c_sub,show (Ps.con (v r)*h).c k=v r*h.c k from Ps.con_mul _ _ _,Sg_congr (h:=λj=>(Ps.con (a r j)*Gs a m v h n j).c k) (g:=λj=>a r j*(Gs a m v h n j).c k) λj _=>Ps.con_mul _ _ _,con_c]
 cases k with
 |zero =>
  rw[xS_0,if_pos rfl];show 0=Sg (λj=>a r j*Sg (λt=>h.c (0+1+t)*im a m v t j) n) m+_;have:=ZoM a m v h.c n r;rw[show Sg (λt=>h.c t*im a m v t r) (n+1)=Sg (λt=>h.c t*im a m v t r) n+h.c n*im a m v n r from rfl,b n<|Q4 _] at this;have e:∀j t,h.c (0+1+t)*im a m v t j=h.c (t+1)*im a m v t j:=λj t=>by rw[show 0+1+t=t+1 by omega]
  simp only[e]
  grind
 |succ k =>
  rw[xS_s,if_neg ⋯];show Sg (λt=>h.c (k+1+t)*im a m v t r) n=Sg (λj=>a r j*Sg (λt=>h.c (k+1+1+t)*im a m v t j) n) m+_;have:=ZoM a m v (λt=>h.c<|k+1+t) n r;rw[show Sg (λt=>h.c (k+1+t)*im a m v t r) (n+1)=Sg (λt=>h.c (k+1+t)*im a m v t r) n+h.c (k+1+n)*im a m v n r from rfl,b (k+1+n) ⋯] at this;have e:∀j t,h.c (k+1+1+t)*im a m v t j=h.c (k+1+(t+1))*im a m v t j:=λj t=>by rw[show k+1+1+t=k+1+(t+1) by omega]
  simp only[e]
  have this:Sg (λj=>a r j*Sg (λt=>h.c (k+1+(t+1))*im a m v t j) n) m+v r*h.c (k+1)=Sg (λt=>h.c (k+1+t)*im a m v t r) n+0*im a m v n r:=this;grind
end
end My.Rg
namespace My
open PySem L2 PyProof.Rows
section
variable{κ:KX}{a:Nat->Nat->κ.F}{m:Nat}
def Kn(a:Nat->Nat->κ.F)(m:Nat)(U:Nat->Sr κ):Prop:=∃E:Nat->Sr κ,(∀r,r<m->Fs (E r))/\∀r,r<m->Rg.xS (E r)=Rg.Sg (λj=>Rg.Ps.con (a r j)*E j) m+U r
def Kn.cong{U W:Nat->Sr κ}(h:Kn a m U)(e:∀r,r<m->U r=W r):Kn a m W:=by
 obtain ⟨E,f,h⟩:=h;exact (E,f,λr b=>by rw[<-e r b];exact h r b)
def Kn.add{U W:Nat->Sr κ}(h:Kn a m U)(g:Kn a m W):Kn a m λr=>U r+W r:=by
 obtain ⟨E,f,h⟩:=h;obtain ⟨G,c,g⟩:=g;refine (λr=>E r+G r,λr b=>(f r b).add<|c r b,λr b=>?_);show Rg.xS (E r+G r)=Rg.Sg (λj=>Rg.Ps.con (a r j)*(E j+G j)) m+(U r+W r);rw[Rg.xs_add,h r b,g r b,Rg.Sg_congr (h:=λj=>Rg.Ps.con (a r j)*(E j+G j)) (g:=λj=>Rg.Ps.con (a r j)*E j+Rg.Ps.con (a r j)*G j) λj _=>by
  generalize Rg.Ps.con (a r j)=x;generalize E j=y;generalize G j=z;grind,<-Rg.Sg_add]
 generalize Rg.Sg (λj=>Rg.Ps.con (a r j)*E j) m=x;generalize Rg.Sg (λj=>Rg.Ps.con (a r j)*G j) m=y;generalize U r=u;generalize W r=w;grind
def Kn.mul{U:Nat->Sr κ}{s:Sr κ}(h:Kn a m U)(c:Fs s):Kn a m λr=>s*U r:=by
 obtain ⟨E,f,h⟩:=h;refine (λr=>s*E r,λr b=>c.mul<|f r b,λr b=>?_);show Rg.xS (s*E r)=Rg.Sg (λj=>Rg.Ps.con (a r j)*(s*E j)) m+s*U r;rw[Rg.xs_mul,h r b,Rg.Sg_congr (h:=λj=>Rg.Ps.con (a r j)*(s*E j)) (g:=λj=>s*(Rg.Ps.con (a r j)*E j)) λj _=>by
  generalize Rg.Ps.con (a r j)=x;generalize E j=y;grind,<-Rg.Sg_mul]
 generalize Rg.Sg (λj=>Rg.Ps.con (a r j)*E j) m=x;generalize U r=u;grind
def Kn.sub{U W:Nat->Sr κ}(h:Kn a m U)(g:Kn a m W):Kn a m λr=>U r-W r :=
 (h.add<|g.mul<|Fs.zero.sub Fs.one).cong λr _=>by generalize U r=u;generalize W r=w;grind
def Zmh(v:Nat->κ.F)(p:ZZlk κ):Kn a m λr=>Rg.Ps.con (v r)*sr p-Rg.Ps.con (Rg.Sg (λk=>p.getD k 0*Rg.im a m v k r) p.length):=by
 have c:∀k,p.length<=k->(sr p).c k=0:=λk b=>by rw[Zbj];exact Zah b
 refine (Rg.Gs a m v (sr p) p.length,λr _=>(p.length,λk b=>?_),λr _=>Rg.gs_rem c r);show Rg.Sg (λt=>(sr p).c (k+1+t)*_) p.length=0;rw[Rg.Sg_congr (g:=λ_=>(0:κ.F)) λt _=>by rw[c _ ⋯];grind,Rg.Sg_zero]
def Cp(s t:Sr κ):Prop:=∃x y,Fs x/\Fs y/\1=x*s+y*t
def Cp.mul{s d t:Sr κ}(h:Cp s t)(g:Cp d t)(l:Fs s)(f:Fs d)(p:Fs t):Cp (s*d) t:=by
 obtain ⟨x,y,k,n,e⟩:=h;obtain ⟨i,j,c,b,o⟩:=g;refine (x*i,x*s*j+y*(i*d+j*t),k.mul c,((k.mul l).mul b).add<|n.mul<|(c.mul f).add<|b.mul p,?_);have:(1:Sr κ)=(x*s+y*t)*(i*d+j*t):=by rw[<-e,<-o];grind
 rw[this];grind
def Cp.symm{s t:Sr κ}(h:Cp s t):Cp t s:=by
 obtain ⟨x,y,c,b,e⟩:=h;exact (y,x,b,c,by rw[e];grind)
structure Ord (a:Nat->Nat->κ.F) (m:Nat) (v:Nat->κ.F) (f:ZZlk κ):Prop where
 mo:Mon f
 k:Kn a m λr=>Rg.Ps.con (v r)*sr f
 d:∀h,Fs h->Kn a m (λr=>Rg.Ps.con (v r)*h)->∃e,Fs e/\h=e*sr f
def Ord.join{v w u:Nat->κ.F}{f g h o d j k F:ZZlk κ}(hf:Ord a m v f)(Z:Ord a m w g)(mh:Mon h)(P:∃x y,Fs x/\Fs y/\sr h=sr f*x+sr g*y)(fh:∃e,Fs e/\sr f=e*sr h)(O:sr g=sr o*sr h)(a0:Mon o)(D:sr g=sr j*sr d)(S:Mon d)(ci:Cp (sr d) (sr o))(cn:∀t:Sr κ,Fs t->Cp t (sr o)->Cp t (sr j))(ek:sr j=sr k*sr o)(mk:Mon k)(U:sr F=sr f*sr o)(mF:Mon F)
    (eu:∀r,r<m->u r=Rg.Sg (λi=>k.getD i 0*Rg.im a m v i r) k.length+Rg.Sg (λi=>d.getD i 0*Rg.im a m w i r) d.length):Ord a m u F:=by
  obtain ⟨x,y,fx,fy,P⟩:=P;obtain ⟨I,E,J⟩:=fh;have N:sr h=sr k*sr d:=ZbG a0 (Fs.sr _) ((Fs.sr _).mul<|Fs.sr _) (by
    have:sr h*sr o=sr j*sr d:=by rw[<-D,O]; generalize sr h=a; generalize sr o=b; grind
    rw[this,ek]; generalize sr k=a; generalize sr o=b; generalize sr d=c; grind)
  have c1:Cp I (sr o):=(x,y,fx,fy,ZbG mh Fs.one ((fx.mul E).add<|fy.mul<|Fs.sr _) (by
    have:(1:Sr κ)*sr h=sr h:=by generalize sr h=a; grind
    rw[this]
    conv=>lhs; rw[P,J,O]
    generalize sr h=a; generalize sr o=b; grind))
  have L:Fs (I*sr d):=E.mul<|Fs.sr _;obtain ⟨p,q,fp,fq,e2⟩:=cn _ L<|c1.mul ci E (Fs.sr _)<|Fs.sr _;have C:∀l:ZZlk κ,Fs (sr l):=Fs.sr;have H:∀t:Sr κ,Fs t->Kn a m λr=>Rg.Ps.con (v r)*(sr k*t)+Rg.Ps.con (w r)*(sr d*t)-Rg.Ps.con (u r)*t:=λt A=>by
    refine (((Zmh v k).mul A).add<|(Zmh w d).mul A).cong λr M=>?_;have ea:Rg.Ps.con (u r)=Rg.Ps.con (Rg.Sg (λi=>k.getD i 0*Rg.im a m v i r) k.length)+Rg.Ps.con (Rg.Sg (λi=>d.getD i 0*Rg.im a m w i r) d.length):=Rg.Ps.ext λn=>by
      rw[Rg.Ps.c_add,Rg.con_c,Rg.con_c,Rg.con_c,eu r M]
      split
      · rfl
      · grind
    rw[ea];generalize Rg.Ps.con (Rg.Sg (λi=>k.getD i 0*Rg.im a m v i r) k.length)=Q;generalize Rg.Ps.con (Rg.Sg (λi=>d.getD i 0*Rg.im a m w i r) d.length)=Y;generalize Rg.Ps.con (v r)=W;generalize Rg.Ps.con (w r)=x4;grind
  refine (mF,?_,λt A ht=>?_)
  · refine (((hf.k.mul<|(C k).mul<|C o).add<|Z.k.mul<|E.mul<|C d).sub<|H _<|C F).cong λr M=>?_
    rw[U];generalize Rg.Ps.con (v r)=Q;generalize Rg.Ps.con (w r)=Y;generalize Rg.Ps.con (u r)=W;rw[O,J];generalize sr k=B; generalize sr o=G; generalize sr d=K; generalize sr h=T;grind
  · have X:=ht.add<|H t A
    obtain ⟨z,fz,ez⟩:=Z.d (I*sr d*(sr d*t)) (L.mul<|(C d).mul A) (by
      refine ((X.mul L).sub<|hf.k.mul A).cong λr M=>?_;generalize Rg.Ps.con (v r)=Q;generalize Rg.Ps.con (w r)=Y;generalize Rg.Ps.con (u r)=W;rw[J,N];generalize sr k=B; generalize sr d=K;grind)
    have e3:I*sr d*t=z*sr j:=ZbG S (L.mul A) (fz.mul<|C j) (by
      rw[D] at ez;generalize sr d=K at *; generalize sr j=T at *;grind)
    obtain ⟨s,fs,es⟩:=hf.d (sr j*(sr k*t)) ((C j).mul<|(C k).mul A) (by
      refine ((X.mul<|C j).sub<|Z.k.mul A).cong λr M=>?_;generalize Rg.Ps.con (v r)=Q;generalize Rg.Ps.con (w r)=Y;generalize Rg.Ps.con (u r)=W;rw[D];generalize sr k=B; generalize sr d=K; generalize sr j=T;grind)
    have e4:sr j*t=s*(I*sr d):=ZbG mk ((C j).mul A) (fs.mul L) (by
      rw[J,N] at es;generalize sr d=K at *; generalize sr j=T at *; generalize sr k=B at *;grind)
    refine (p*(p*z+q*t)+q*(q*s+p*t),(fp.mul<|(fp.mul fz).add<|fq.mul A).add<|fq.mul<|(fq.mul fs).add<|fp.mul A,?_);have e5:sr F=I*sr d*sr j:=by
      rw[U,J,N,ek];generalize sr k=B; generalize sr o=G; generalize sr d=K;grind
    rw[e5];clear e5 es ez X H N J U D;generalize sr j=B at *;generalize I*sr d=G at *;have R:t=p*(G*t)+q*(B*t):=by
      have:t=(p*G+q*B)*t:=by rw[<-e2]; grind
      conv=>lhs; rw[this]
      grind
    have e7:t=B*(p*z+q*t):=by
      conv=>lhs; rw[R,e3]
      grind
    have e8:t=G*(q*s+p*t):=by
      conv=>lhs; rw[R,e4]
      grind
    have e9:G*t=G*B*(p*z+q*t):=by
      conv=>lhs; rw[e7]
      grind
    have e0:B*t=G*B*(q*s+p*t):=by
      conv=>lhs; rw[e8]
      grind
    conv=>lhs; rw[R,e9,e0]
    grind
def Zqa{s:ZZlk κ}{T E:Sr κ}{l n:Nat}(r:Mon s)(j:s.length=l+1)(f:Fs E)(e:T=E*sr s)(z:∀k,n+l<=k->T.c k=0):∀k,n<=k->E.c k=0:=by
 obtain ⟨N,c⟩:=f;have top:=r.2;rw[j,Qz] at top;have q:∀d,(∀k,n+d<=k->E.c k=0)->∀k,n<=k->E.c k=0:=λd=>by
  induction d with
  |zero=>exact λq=>q
  |succ d o =>
   intro q;refine o λk p=>?_
   by_cases ek:k=n+d
   ·have b:=z (k+l) ⋯;rw[e,Rg.Ps.c_mul,show k+l+1=k+1+l by omega,ZdD (h:=λi=>E.c i*(sr s).c (k+l-i)) (n:=k+1) l λi g=>by
     show E.c i*_=0;rw[q i ⋯];grind] at b
    have t:Rg.Sg (λi=>E.c i*(sr s).c (k+l-i)) (k+1)=Rg.Sg (λ_=>0) k+E.c k*(sr s).c (k+l-k):=by
     show Rg.Sg _ k+_=_
     congr 1
     refine Rg.Sg_congr λi g=>?_;rw[Zbj,Zah ⋯];grind
    rw[t,Rg.Sg_zero,Zbj,show k+l-k=l by omega,top] at b;grind
   ·exact q k ⋯
 exact q N λk p=>c k ⋯
def ZnR{v:Nat->κ.F}(h:∀r,r<m->v r=0):Ord a m v [1]:=by
 have b:sr ([1]:ZZlk κ)=1:=Zge;refine ((Q4 1,rfl),(λ_=>0,λ_ _=>Fs.zero,λr c=>?_),λt d _=>(t,d,by rw[b];grind));have:Rg.Sg (λj=>Rg.Ps.con (a r j)*(0:Sr κ)) m=0:=by
  rw[Rg.Sg_congr (g:=λ_=>(0:Sr κ)) λj _=>by generalize Rg.Ps.con (a r j)=x;grind,Rg.Sg_zero]
 show Rg.xS 0=_+Rg.Ps.con (v r)*sr [1];rw[this,h r c,<-Zgd,Zl5,b];have:Rg.xS (0:Sr κ)=0:=Rg.Ps.ext λk=>by
  cases k with
  |zero=>rw[Rg.xS_0,Rg.Ps.c_zero]
  |succ k=>rw[Rg.xS_s,Rg.Ps.c_zero,Rg.Ps.c_zero]
 rw[this];grind
def Kn.sum{v:Nat->κ.F}{f:ZZlk κ}(h:Kn a m λr=>Rg.Ps.con (v r)*sr f){i:Nat}(e:i<m):Rg.Sg (λk=>f.getD k 0*Rg.im a m v k i) f.length=0:=by
 obtain ⟨E,c,h⟩:=h;obtain ⟨N,b⟩:=Zme m c;have:=Rg.Stp.nought (N:=N+f.length) h (λr g=>b r g _ ⋯) e;rw[show N+f.length+1=f.length+(N+1) by omega,ZdD (h:=λk=>(sr f).c k*Rg.im a m v k i) (n:=f.length) (N+1) λk d=>by
  show (sr f).c k*_=0;rw[Zbj,Zah d];grind] at this
 exact this
def Ord.ind{v:Nat->κ.F}{f:ZZlk κ}{n:Nat}(o:Ord a m v f)(j:f.length=n+1){h:Nat->κ.F}(l:∀i,i<m->Rg.Sg (λk=>h k*Rg.im a m v k i) n=0):∀k,k<n->h k=0:=by
 have top:=o.mo.2;rw[j,Qz] at top;have c:((List.range n).map h).length=n:=Za1 h n;have t:=Zmh (a:=a) (m:=m) v<|(List.range n).map h;obtain ⟨e,s,p⟩:=o.d (sr<|(List.range n).map h) (Fs.sr _) (t.cong λr q=>by
  rw[c,Rg.Sg_congr (g:=λk=>h k*Rg.im a m v k r) λk b=>by rw[ZaM _ b],l r q,<-Zgd 0,Zl5];generalize Rg.Ps.con (v r)*sr _=x;grind)
 have z:=Zdi (m:=n) (d:=f) (R:=(List.range n).map h) j top (Wo c) s p;intro k b;rw[<-ZaM h b,<-Zbj,z,Rg.Ps.c_zero]
def Zmi{v:Nat->κ.F}{l:Sr κ}{T:Nat->Sr κ}{s f:ZZlk κ}(I:Rg.Stp a m v T l)(d:Shd l T m s)(n:l=sr f*sr s)(H:Mon f):Ord a m v f:=by
 obtain ⟨E,hE⟩:∃E:Nat->Sr κ,∀r,r<m->Fs (E r)/\T r=E r*sr s:=by
  refine (λr=>if h:r<m then Classical.choose (d.t r h) else 0,λr c=>?_);show Fs (if h:r<m then Classical.choose (d.t r h) else 0)/\T r=(if h:r<m then Classical.choose (d.t r h) else 0)*sr s;rw[dif_pos c];exact Classical.choose_spec<|d.t r c
 have t:Rg.Stp a m v E (sr f):=λr c=>by
  refine ZbG d.m (hE r c).1.xs ((Fs.sg m λj i=>(Fs.con _).mul (hE j i).1).add<|(Fs.con _).mul<|Fs.sr f) ?_;rw[Rg.xS_mul,<-(hE r c).2,I r c,n];have e:Rg.Sg (λj=>Rg.Ps.con (a r j)*T j) m=Rg.Sg (λj=>Rg.Ps.con (a r j)*E j) m*sr s:=by
   rw[Rg.Sg_mulR];exact Rg.Sg_congr λj i=>by rw[(hE j i).2];generalize Rg.Ps.con (a r j)=x;generalize E j=y;grind
  rw[e];generalize Rg.Sg (λj=>Rg.Ps.con (a r j)*E j) m=x;generalize Rg.Ps.con (v r)=y;grind
 refine (H,(E,λr c=>(hE r c).1,t),λh q ⟨G,p,k⟩=>?_);have k:Rg.Stp a m v G h:=k;obtain ⟨N,C⟩:=Zme (D:=λr=>sr f*G r-h*E r) m λr c=>((Fs.sr f).mul<|p r c).sub<|q.mul (hE r c).1;have two:=λr (c:r<m)=>Rg.stp_two t k C c;obtain ⟨x,b,A,o,B⟩:=d.c;have one:(1:Sr κ)=sr f*x+Rg.Sg (λr=>E r*b r) m:=by
  refine ZbG d.m Fs.one (((Fs.sr f).mul A).add<|Fs.sg m λr c=>(hE r c).1.mul<|o r) ?_;have e:Rg.Sg (λr=>T r*b r) m=Rg.Sg (λr=>E r*b r) m*sr s:=by
   rw[Rg.Sg_mulR];exact Rg.Sg_congr λr c=>by rw[(hE r c).2];generalize E r=u;generalize b r=w;grind
  rw[e,n] at B;generalize Rg.Sg (λr=>E r*b r) m=w at *;generalize sr f=u at *;have:(1:Sr κ)*sr s=sr s:=by generalize sr s=y;grind
  rw[this]
  conv=>lhs;rw[B]
  generalize sr s=y;grind
 refine (h*x+Rg.Sg (λr=>G r*b r) m,(q.mul A).add<|Fs.sg m λr c=>(p r c).mul<|o r,?_);have e:h*Rg.Sg (λr=>E r*b r) m=Rg.Sg (λr=>G r*b r) m*sr f:=by
  rw[Rg.Sg_mul,Rg.Sg_mulR];exact Rg.Sg_congr λr c=>by
   have:=two r c;generalize G r=g at *;generalize E r=u at *;generalize b r=w at *;generalize sr f=y at *;have F:h*(u*w)=(h*u)*w:=by grind
   rw[F,<-this];grind
 have:h=h*(sr f*x+Rg.Sg (λr=>E r*b r) m):=by rw[<-one];grind
 conv=>lhs;rw[this]
 generalize Rg.Sg (λr=>G r*b r) m=w at *;generalize Rg.Sg (λr=>E r*b r) m=z at *;generalize sr f=y at *;grind
def ZoO(a:Nat->Nat->κ.F)(m:Nat)(v:Nat->κ.F):Kn a m λr=>Rg.Ps.con (v r)*sr (coL (Rg.chi m a)<|m+1):=(_,λr _=>(m,ZrR a m v r),Zmg a m v)
def Ord.chi{v:Nat->κ.F}{f:ZZlk κ}(o:Ord a m v f):∃e,Fs e/\sr (coL (Rg.chi m a)<|m+1)=e*sr f:=o.d _ (Fs.sr _)<|ZoO a m v
def Ord.len{v:Nat->κ.F}{f:ZZlk κ}(o:Ord a m v f):f.length<=m+1:=by
 obtain ⟨e,b,h⟩:=o.chi;have:=ZfG o.mo (ZcM<|ZiR a m) (by rw[ZaI];omega) b h
 rwa [ZaI] at this
def ZnS{F G:ZZlk κ}{e:Sr κ}(i:Mon F)(d:Mon G)(l:F.length=G.length)(j:Fs e)(h:sr F=e*sr G):sr F=sr G:=by
 obtain ⟨n,hn⟩:∃n,G.length=n+1:=(G.length-1,by have:=d.1;omega);have f:=i.2;have b:=d.2;rw[l,hn,Qz] at f;rw[hn,Qz] at b;have c:sr ((List.range n).map λk=>F.getD k 0-G.getD k 0)=(e-1)*sr G:=by
  have:(e-1)*sr G=sr F-sr G:=by rw[h];generalize sr G=g;grind
  rw[this];refine Rg.Ps.ext λk=>?_;rw[Rg.Ps.c_sub,Zbj,Zbj,Zbj]
  by_cases q:k<n
  ·rw[ZaM _ q]
  ·rw[Zah (by rw[Za1];omega)]
   by_cases q2:k=n
   ·rw[q2,f,b];grind
   ·rw[Zah ⋯,Zah ⋯];grind
 have z:=Zdi (m:=n) hn b (by rw[Za1];exact Q4 _) (j.sub Fs.one) c;rw[z] at c;have:sr F-sr G=(e-1)*sr G:=by rw[h];generalize sr G=g;grind
 rw[<-c] at this;generalize sr F=x at *;generalize sr G=y at *;grind
def Ord.all{v w:Nat->κ.F}{f:ZZlk κ}(o:Ord a m v f)(l:f.length=m+1):Kn a m λr=>Rg.Ps.con (w r)*sr f:=by
 obtain ⟨e,b,h⟩:=o.chi;have:=ZnS (ZiR a m) o.mo (by rw[ZaI,l]) b h;rw[<-this];exact ZoO a m w
end
def Zeb(X D:Int)(h:D≠0):Rat.divInt X D*(D:Rat)=X:=by
 rw[Rat.divInt_eq_div];exact Rat.div_mul_cancel λz=>h<|Rat.intCast_inj.mp z
def Zkp{y:Rat}{t s d:Int}(h:y*y*y=t*(y*y)-s*y+d):∃n:Int,y=n:=by
 have e:y*((y.den:Int):Rat)=((y.num:Int):Rat):=by
  have:=Zeb y.num (y.den:Int) (by have:=y.den_nz;omega)
  rwa [Qy] at this
 have z:((y.num*y.num*y.num:Int):Rat)=((((y.den:Int))*(t*(y.num*y.num)-s*(y.num*(y.den:Int))+d*((y.den:Int)*(y.den:Int))):Int):Rat):=by
  rw[Wi,Wi,Wi,Rat.intCast_add,Rat.intCast_sub,Wi,Wi,Wi,Wi,Wi,Wi,<-e];generalize ((y.den:Int):Rat)=q;have:y*q*(y*q)*(y*q)=y*y*y*(q*q*q):=by grind
  rw[this,h];grind
 have z:=Rat.intCast_inj.mp z;have a:y.den ∣ y.num.natAbs^3:=by
  have:(y.den:Int) ∣ y.num*y.num*y.num:=(_,z);have:=U2.mpr this;rw[Qo,Ql,Ql] at this;rw[show y.num.natAbs^3=y.num.natAbs*y.num.natAbs*y.num.natAbs by rw[Qk,Qk,Ud]];exact this
 have one:y.den=1:=Nat.Coprime.eq_one_of_dvd (Nat.Coprime.pow_right 3 y.reduced.symm) a;exact (y.num,by rw[one] at e;rw[<-e];show y=y*1;grind)
def Zqb{y t s d:Int}{B:Nat}(h:y*y*y=t*(y*y)-s*y+d)(b:t.natAbs<=B)(a:s.natAbs<=B)(g:d.natAbs<=B):y.natAbs<=B+1:=by
 have i:y.natAbs*y.natAbs*y.natAbs<=B*(y.natAbs*y.natAbs)+B*y.natAbs+B:=by
  rw[<-Ql,<-Ql,h];have f:(t*(y*y)).natAbs<=B*(y*y).natAbs:=by rw[Ql];exact Qq _ b
  have j:(s*y).natAbs<=B*y.natAbs:=by rw[Ql];exact Qq _ a
  omega
 refine Wu λq=>?_;generalize y.natAbs=Y at *;obtain ⟨c,rfl⟩:∃c,Y=B+c+2:=(Y-B-2,⋯);have e:(B+c+2)*(B+c+2)*(B+c+2)=B*((B+c+2)*(B+c+2))+B*(B+c+2)+B+(c*((B+c+2)*(B+c+2))+c*(B+c+2)+c+(B+c+2)*(B+c+2)+(B+c+2)+2):=by grind
 omega
section
variable{κ:KX}
def Zmj{x i c1 c2:κ.F}(h:x*(c1-x*(c2-x))=i)(w:QN κ 12 B c2)(E:QN κ 144 B c1)(H:QN κ 1728 B i):QN κ 12 (B+1) x/\QN κ 144 B (c1-x*(c2-x)):=by
 cases κ with
 |r p I=>exact (trivial,trivial)
 |q =>
  obtain ⟨t,k,F⟩:=w;obtain ⟨s,l,v⟩:=E;obtain ⟨d,j,C⟩:=H;have f:=Zeb t 12 ∅;have c:=Zeb s 144 ∅;have g:=Zeb d 1728 ∅;rw[<-k] at f;rw[<-l] at c;rw[<-j] at g;have h:(x:Rat)*((c1:Rat)-x*(c2-x))=(i:Rat):=h;have f:(c2:Rat)*12=(t:Rat):=f;have c:(c1:Rat)*144=(s:Rat):=c;have g:(i:Rat)*1728=(d:Rat):=g;clear k l j;obtain ⟨y,ey⟩:∃y:Int,(12:Rat)*(x:Rat)=y:=Zkp (t:=t) (s:=s) (d:=d) (by rw[<-f,<-c,<-g,<-h];generalize (x:Rat)=x;generalize (c1:Rat)=a;generalize (c2:Rat)=b;grind);have o:y*y*y=t*(y*y)-s*y+d:=Rat.intCast_inj.mp (by
   rw[Rat.intCast_add,Rat.intCast_sub,Wi,Wi,Wi,Wi,Wi,<-ey,<-f,<-c,<-g,<-h];generalize (x:Rat)=x;generalize (c1:Rat)=a;generalize (c2:Rat)=b;grind)
  have G:=Zqb o F v C;have m:∀(u:Rat) (X D:Int),D≠0->u*(D:Rat)=X->u=Rat.divInt X D:=λu X D n e=>by
   rw[Rat.divInt_eq_div,<-e];exact (Rat.mul_div_cancel (by intro z;exact n<|Rat.intCast_inj.mp z)).symm
  refine ((y,m x y 12 ∅ (by rw[<-ey];show (x:Rat)*12=12*x;generalize (x:Rat)=x;grind),G),(s-y*(t-y),m _ _ 144 ∅ ?_,?_))
  ·rw[Rat.intCast_sub,Wi,Rat.intCast_sub,<-ey,<-f,<-c];show ((c1:Rat)-x*(c2-x))*144=_;generalize (x:Rat)=x;generalize (c1:Rat)=a;generalize (c2:Rat)=b;grind
  ·have A:y*(s-y*(t-y))=d:=by grind
   by_cases y0:y=0
   ·rw[y0];omega
   ·have:=congrArg Int.natAbs A;rw[Ql] at this;have p:1<=y.natAbs:=⋯;have:=Qq (s-y*(t-y)).natAbs p;omega
def QN.up1{D c:Int}{x:κ.F}(h:QN κ D M x)(b:0<D)(a:0<c):QN κ (D*c) (M*c.natAbs) x:=by
 cases κ with
 |r p d=>exact trivial
 |q =>
  obtain ⟨X,rfl,l⟩:=h;refine (X*c,?_,by rw[Ql];exact Qq _ l);rw[Wb ⋯<|Int.ne_of_gt<|Wa b a,Qx,W1 c D]
def ZrS{C g:ZZlk κ}{e:Sr κ}(v:C.length=4)(top:C.getD 3 0=1)(s:Fs e)(mg:Mon g)(h:sr C=e*sr g)(d:QN κ 12 B (C.getD 2 0))(p:QN κ 144 B (C.getD 1 0))(q:QN κ 1728 B (C.getD 0 0)):∀x∈g,QN κ 1728 (300*(B+6)) x:=by
 have y:Mon C:=(⋯,by rw[v];exact top);have G:=ZfG mg (.inr (by rw[y.2];exact Zcl)) ⋯ s h;have D:=mg.1;obtain ⟨l,hl⟩:∃l,g.length=l+1:=(g.length-1,⋯);have b:=mg.2;rw[hl,Qz] at b;have a:=Zqa (n:=4-l) mg hl s h λk M=>by rw[Zbj];exact Zah ⋯
 have f:∀k,C.getD k 0=Rg.Sg (λi=>e.c i*g.getD (k-i) 0) (k+1):=λk=>by rw[<-Zbj,h,Rg.Ps.c_mul];rfl
 have F:C.getD 0 0=0+e.c 0*g.getD 0 0:=f 0;have K:C.getD 1 0=0+e.c 0*g.getD 1 0+e.c 1*g.getD 0 0:=f 1;have H:C.getD 2 0=0+e.c 0*g.getD 2 0+e.c 1*g.getD 1 0+e.c 2*g.getD 0 0:=f 2;have A:C.getD 3 0=0+e.c 0*g.getD 3 0+e.c 1*g.getD 2 0+e.c 2*g.getD 1 0+e.c 3*g.getD 0 0:=f 3;have o:QN κ 1728 (300*(B+6)) (1:κ.F):=(qn_one.up1 (c:=1728) ∅ ∅).mono (by show 1*1728<=_;omega);intro x t;obtain ⟨j,L,rfl⟩:=ZbY t;rcases (by omega:l=0\/l=1\/l=2\/l=3) with rfl|rfl|rfl|rfl
 ·obtain rfl:j=0:=⋯;rw[b];exact o
 ·have I:g.getD 2 0=0:=Zah ⋯;have z:g.getD 3 0=0:=Zah ⋯;have r:=a 3 ⋯;obtain ⟨m,-⟩:=Zmj (x:=g.getD 0 0) (by grind) d p q;rcases (by omega:j=0\/j=1) with rfl|rfl
  ·exact (m.up1 (c:=144) ∅ ∅).mono (by show (B+1)*144<=_;omega)
  ·rw[b];exact o
 ·have z:g.getD 3 0=0:=Zah ⋯;have r:=a 3 ⋯;have w:=a 2 ⋯;obtain ⟨m,u⟩:=Zmj (x:=e.c 0) (by grind) d p q;rcases (by omega:j=0\/j=1\/j=2) with rfl|rfl|rfl
  ·have:g.getD 0 0=C.getD 1 0-e.c 0*(C.getD 2 0-e.c 0):=by grind
   rw[this];exact (u.up1 (c:=12) ∅ ∅).mono (by show B*12<=_;omega)
  ·have:g.getD 1 0=C.getD 2 0-e.c 0:=by grind
   rw[this];exact ((d.sub ∅ m).up1 (c:=144) ∅ ∅).mono (by show (B+(B+1))*144<=_;omega)
  ·rw[b];exact o
 ·have r:=a 3 ⋯;have w:=a 2 ⋯;have J:=a 1 ⋯;have E:e.c 0=1:=by grind
  rcases (by omega:j=0\/j=1\/j=2\/j=3) with rfl|rfl|rfl|rfl
  ·have:g.getD 0 0=C.getD 0 0:=by grind
   rw[this];exact q.mono ⋯
  ·have:g.getD 1 0=C.getD 1 0:=by grind
   rw[this];exact (p.up1 (c:=12) ∅ ∅).mono (by show B*12<=_;omega)
  ·have:g.getD 2 0=C.getD 2 0:=by grind
   rw[this];exact (d.up1 (c:=144) ∅ ∅).mono (by show B*144<=_;omega)
  ·rw[b];exact o
def Zmk{a:Nat->Nat->κ.F}{g:ZZlk κ}{e:Sr κ}(d:Fs e)(h:sr (coL (Rg.chi m a)<|m+1)=e*sr g):∀k,∃b,Fs b/\sr ((List.range<|m+k+1).map λj=>(Rg.qz m a).c<|m+k-j)=b*sr g
 |0=>(e,d,by
  rw[<-h];refine ZrK λj=>?_
  by_cases q:j<m+1
  ·rw[ZaM (λj=>(Rg.qz m a).c<|m+0-j) q,Zg4 ⋯];rfl
  ·rw[Zah (by rw[Za1];omega),Zah (by rw[ZaI];omega)])
 |k+1=>by
  obtain ⟨b,c,f⟩:=Zmk d h k;refine (Rg.xS b,c.xs,?_);rw[Rg.xS_mul,<-f];refine Rg.Ps.ext λj=>?_;rw[Zbj]
  cases j with
  |zero=>rw[Rg.xS_0,ZaM (λj=>(Rg.qz m a).c<|m+(k+1)-j) ⋯];exact Rg.qz_deg m a ⋯
  |succ j =>
   rw[Rg.xS_s,Zbj]
   by_cases q:j<m+k+1
   ·rw[ZaM (λj=>(Rg.qz m a).c<|m+(k+1)-j) ⋯,ZaM (λj=>(Rg.qz m a).c<|m+k-j) q,show m+(k+1)-(j+1)=m+k-j by omega]
   ·rw[Zah (by rw[Za1];omega),Zah (by rw[Za1];omega)]
def Zml{A:ZZll κ}{m:Nat}{g:ZZlk κ}{e:Sr κ}(f:κ = .q->m<=3)(o:AllR (Q12 κ) A)(mg:Mon g)(u:Fs e)(h:sr (coL (Rg.chi m<|ent A)<|m+1)=e*sr g):∀x∈g,QN κ ((1728:Nat):Int) (2^60) x:=λx l=>by
 cases κ with
 |r p w=>exact trivial
 |q =>
  have n:=f rfl;obtain ⟨v,c,d⟩:=Zmk u h<|3-m;have t:m+(3-m)=3:=⋯;rw[t] at d;have b:∀k,k<4->((List.range<|3+1).map λj=>(Rg.qz m<|ent A).c<|3-j).getD k 0=(Rg.qz m<|ent A).c (3-k):=λk s=>ZaM (λj=>(Rg.qz m<|ent A).c<|3-j) s;have qz:=λk=>(Zp2 (κ:=.q) (a:=ent A) (m:=m) ⋯ (λi j=>ZdC o i j) k).mono<|Q5 ∅ n;exact (ZrS (B:=763^3) (Za1 _ _) (by rw[b 3 ∅,Ue];exact Rg.qz_c0 m _) c mg d (by rw[b 2 ∅];exact qz 1) (by rw[b 1 ∅];exact qz 2) (by rw[b 0 ∅];exact qz 3) x l).mono ∅
end
end My
namespace Zp
open My
open PySem L2 PyProof.Rows
variable{Z:Zc}{X:Cx}{P:Program}{w:World}{K:ZZfg}{mg:ZZmg}{base:Heap}
def Zdj{α:Type}{f:α->PV}(g:List α)(r:Nat):ZgO (g.map f) none (some (r:Int))=(g.take r).map f:=by
 unfold ZgO HT.sIx
 simp only[Q1]
 rw[if_neg ⋯,List.drop_zero,List.map_take,Ul,Ws,Nat.min_def]
 split
 ·rfl
 ·rw[U1 (by rw[Q1];exact Q4 _),U1 (by rw[Q1];omega)]
def ZbK{κ:KX}{g:ZZlk κ}{i:Nat}(h:i<g.length):atI (g.map<|num κ) (i:Int)=some (num κ<|g.getD i 0):=ZdF (by rw[Q3,Q6 h,Q2,Q6 h];rfl)
def ZaB{κ:KX}(g:ZZlk κ):(g.map<|num κ).length=g.length:=Q1 _
def Zg5{κ:KX}{g:ZZlk κ}{d:Nat}(h:g.length=d+1):atI (g.map<|num κ) (-1)=some (num κ<|g.getD d 0):=by
 have:=ZbK (κ:=κ) (g:=g) (i:=d) ⋯;unfold atI at this ⊢;rw[ZaB,h] at this ⊢;have a:ixN (d+1) (d:Int)=some d:=Zer ⋯;have b:ixN (d+1) (-1)=some d:=by unfold ixN;rw[if_neg ⋯,if_pos ⋯];congr 1;omega
 rw[a] at this;rw[b];exact this
inductive S_trimmedW (c:List PV->PV):ZF
 |mk {Q:PK'} {κ:KX} {g:ZZlk κ} (q:∀r,r<=g.length->(∀j,r<=j->g.getD j 0=0)->(r=0\/g.getD (r-1) 0≠0)->Q (c ((g.take r).map (num κ)))):S_trimmedW c [.kd κ,nums κ g] Q
abbrev Zca:ZF:=S_trimmedW .lst
def sc_trimmed:FnScope ["kind","numbers","count"] ["kind","numbers"] (Zab Zff):=‹2›
def z_trimmedF(h:Here K mg "trimmed" Zff) (T:Nm mg) (p:Mt P w K mg base Z zKd "is_nought" 2 Snz):Fn P w K mg base Z "trimmed" 3 (S_trimmedW .fr):=by
  have o:=sc_trimmed.nd;refine Za9 h (λ_ _ F=>F.b2 λ_ _ _ _ _ _ _ _=>rfl) sc_trimmed (λv A B f ⟨q⟩=>⟨λr a b c=>f _<|q r a b c⟩) (λ_ _ ⟨_⟩=>rfl) (λ_ _ _ _ _ _ _ u =>
    Zae (Zat 2 o<|ZaP T.len<|qv 1)
    (Zae (Zd8 [] (Zrb (ZfK Ze3 lb (qv 2) Zas)<|Zoh<|ZpB<|q_m p (qv 0)<|qa1<|Zbs (qv 1)<|ZeQ Zbq li (qv 2) Zas).t<|Zak<|Zrf 2 ZqB o Zas)
    (Zak<|ZaA<|Zsg 0<|Znk (qv 1) Znj<|Zly<|qv 2))) ∅ ?_
  rintro _ Q ⟨q⟩
  rename_i d g
  refine (λm s=>m<=g.length/\s=[some<|.val<|.kd d,some<|.val<|nums d g,some<|.val<|.int m]/\∀j,m<=j->g.getD j 0=0,g.length,(Q4 _,by rw[<-Q1 (num d)],λj n=>Zah n),?_);rintro m _ ⟨t,rfl,k⟩;have i:(m=0\/g.getD (m-1) 0≠0)->Q (.fr<|ZgO (g.map<|num d) none<|some (m:Int)):=λz=>by rw[Zdj g m]; exact q m t k z
  refine br (λz=>?_) λz=>i<|.inl ⋯;have z:(0:Int)<m:=z;refine (num d<|g.getD (m-1) 0,by rw[show (m:Int)-1=((m-1:Nat):Int) by omega]; exact ZbK ⋯,⟨λb l=>?_⟩)
  cases b with
  | true=>exact (m-1,⋯,⋯,by rw[show ((m-1:Nat):Int)=m-1 by omega],λj n=>by
      by_cases e:j=m-1
      · rw[e]; exact l.mp rfl
      · exact k j ⋯)
  | false=>exact i (.inr λe=>by cases l.mpr e)
def z_trimmed{k:Nat}(h:Fn P w K mg base Z "trimmed" k (S_trimmedW .fr)):Fn P w K mg base Z "trimmed" k Zca:=Zrv h (λd A B f ⟨q⟩=>⟨λr a b c=>f _<|q r a b c⟩) λd Q ⟨q⟩=>⟨q⟩
inductive S_scaled_row:ZF
 |mk {Q:PK'} {κ:KX} {c:κ.F} {f:ZZlk κ} (bc:B1 κ c) (bf:∀x∈f,B1 κ x) (lf:f.length<=1000) (q:Q (nums κ (f.map (c * ·)))):S_scaled_row [.kd κ,num κ c,nums κ f] Q
def mget{α a:Type}{f:α->a}{l:List α}{i:Nat}{p:a}(h:(l.map f)[i]?=some p):∃x,l[i]?=some x/\p=f x:=by
 rw[Q3] at h
 cases e:l[i]? with
 |none=>rw[e] at h;cases h
 |some x=>rw[e] at h;exact (x,rfl,(Option.some.inj h).symm)
def Zg6:FnScope ["kind","number","row"] ["kind","number","row"] (Zab Zc3):=‹2›
def z_scaled_row(h:Here K mg "scaled_row" Zc3) (e:Mt P w K mg base Z zKd "times" 2 (S2 λ_ x y=>x*y)):Fn P w K mg base Z "scaled_row" 3 S_scaled_row:=by
 refine Za9 h (λ_ _ F=>F.b3 λ_ _ _ _ _ _ _ _ _=>rfl) Zg6 (λn A B f ⟨a,b,c,q⟩=>(a,b,c,f _ q)) (λ_ _ ⟨_,_,_,_⟩=>rfl) (λ_ _ _ _ _ _ _ m =>
  Zak (ZaA<|QL.toE<|Zh6 "each" [(0,"kind"),(1,"number")] (ZfT<|qv 2) (by exact λ_ _ _ _=>q_m e (qv 1)<|qa2 (qv 2)<|qv 0))) ∅ ?_
 rintro _ Q ⟨j,g,k,q⟩;refine (_,(by simp),(by simpa using k),λi p l=>?_,q);obtain ⟨y,d,rfl⟩:=mget l;exact (j,g y<|Qd d,by simp[d])
variable{cF:Addr}
abbrev tab(κ:KX)(R:ZZll κ):PV:=.lst<|R.map<|nums κ
def ZcS{κ:KX}{R:ZZll κ}{i:Nat}(h:i<R.length):atI (R.map<|nums κ) (i:Int)=some (nums κ<|R.getD i []):=ZdF (by rw[Q3,Q6 h,Q2,Q6 h];rfl)
def ZrT{spF d:Sp}(v:Kd K mg Z.f Z.r)(C:HasMX P w K mg base Z.f m k i c spF)(E:HasMX P w K mg base Z.r m k f b d)(A:MoF S)
    (o:∀H O a vs ws Q,FrA Z.f H a->Gd Z (hide O H)->Ls O H->Reps Z (hide O H) vs ws->S (.kd .q::vs) (Up Z O H Q)->spF (.ref a::(ws++c)) H Q E0)
    (t:∀(p:Nat) (n:PrN p) H O a vs ws Q,ReA Z.r (p:Int) H a->Gd Z (hide O H)->Ls O H->Reps Z (hide O H) vs ws->S (.kd (.r p n)::vs) (Up Z O H Q)->d (.ref a::(ws++b)) H Q E0) (F:¬m = "prime" := by decide):Mt P w K mg base Z zKd m k S :=
  (A,Zom,ZhN,λp x H O r D=>by
    obtain ⟨B,rfl⟩:=ZhO D;have y:=Zol r;obtain ⟨a,rfl,z⟩:=Zd9 r
    cases B with
    | q =>
      obtain ⟨e,h⟩:=z;exact (a,Z.f,e,[],i,c,spF,rfl,h,v.clF,C,rfl,λl vs ws Q g s j u=>o l O a vs ws Q (e,g _ _ h) (y.same<|Zan g) s j u)
    | r p n =>
      obtain ⟨e,h⟩:=z;exact (a,Z.r,e,fsR p,f,b,d,rfl,h,v.clR,E,ZdB _ F,λl vs ws Q g s j u=>t p n l O a vs ws Q (e,g _ _ h) (y.same<|Zan g) s j u))
def Zds{κ:KX}:∀ {f:ZZlk κ} {us:List V},Reps Z (hide O H) (f.map<|num κ) us->AllG (NR κ H) us f:=fun {f us} h=>(by have:=h.len;rw[Q1] at this;exact this,λi v x b c=>by
 obtain ⟨u,a,r⟩:=h.get (show (f.map<|num κ)[i]?=some (num κ x) by rw[Q3,c];rfl);rw[b] at a;cases a;exact Zdd r)
inductive Sdot:ZF
 |mk {Q:PK'} {κ:KX} {f g:ZZlk κ} {D E M N:Nat} (l:f.length=g.length) (l9:f.length<=100) (qf:∀x∈f,QN κ (D:Int) M x) (qg:∀x∈g,QN κ (E:Int) N x) (d0:0<D) (d1:D<=10^200) (e0:0<E) (e1:E<=10^200) (m1:M<=10^500) (n1:N<=10^500) (q:Q (num κ (Zh7 f g))):Sdot [.kd κ,nums κ f,nums κ g] Q
def mt_dot(h:ZlM P w K mg base Z.f Z.r):Mt P w K mg base Z zKd "sum_of_products" 3 Sdot :=
 (λo A B f ⟨y,a2,F,W,s,U,a7,a8,M,d,q⟩=>(y,a2,F,W,s,U,a7,a8,M,d,f _ q),Zom,ZhN,λp x H O r J=>by
  obtain ⟨k,rfl⟩:=ZhO J;obtain ⟨a,rfl,hk⟩:=Zd9 r;obtain ⟨C,L,z,o,S,sp,c1,c2,c3,R,rfl,c5⟩:=h k H a hk;refine (a,C,L,z,o,_,sp,rfl,c1,c2,c3.toX,R,λY j ws Q S1 L1 N m=>?_);generalize e:PV.kd k::j=l at m;obtain ⟨l,l9,T,I,d0,D,G,e1,m1,n1,q⟩:=m
  cases e
  obtain ⟨u,v,rfl,g,i⟩:=N.two;obtain ⟨b,E,rfl,hb,rb⟩:=Za0 g;obtain ⟨c,j,rfl,hc,rc⟩:=Za0 i;exact c5 Y b c E j _ _ _ _ _ _ Q S1 (Zaw _ _ hb) (Zaw _ _ hc) (Zds rb) (Zds rc) l l9 T I d0 D G e1 m1 n1 λH2 t S2 n=>q t H2 S2<|nr_rep (L1.same S2) n)
inductive Zsi:ZF
 |mk {Q:PK'} {κ:KX} {f:ZZlk κ} (B:Int) (b0:0<B) (b1:Bits 4000 B) (dv:∀x∈f,DvB κ B x) (q:∀A:Int,Zoe κ f A->Q (.int A)):Zsi [.kd κ,nums κ f] Q
def mt_bot(x:Kd K mg Z.f Z.r)(t:HasM P w K mg base Z.f "common_bottom" 2 ["self","some"] [] (ZbF K)) (v:HasM P w K mg base Z.r "common_bottom" 2 ["self","some"] [] Zex):Mt P w K mg base Z zKd "common_bottom" 2 Zsi:=by
 refine ZrT x t.toX v.toX (λz A B f ⟨b,g,c,d,q⟩=>(b,g,c,d,λA h=>f _<|q A h)) (λH O a j o Q _ _ _ r s=>?_) λp y H O a j o Q _ _ _ r s=>?_
 ·generalize e:PV.kd .q::j=l at s;obtain ⟨B,g,c,d,q⟩:=s
  cases e
  obtain ⟨u,rfl,i⟩:=r.one;obtain ⟨b,m,rfl,k,n⟩:=Za0 i;exact (a,b,m,_,B,rfl,Zaw _ _ k,Zds n,g,c,d,λA h=>q A h _ H ZaT rep_i)
 ·generalize e:PV.kd (.r p y)::j=l at s;obtain ⟨B,g,c,d,q⟩:=s
  cases e
  obtain ⟨u,rfl,i⟩:=r.one;obtain ⟨b,m,rfl,k,n⟩:=Za0 i;exact (a,b,rfl,q 1 rfl _ H ZaT rep_i)
inductive Zcb:ZF
 |mk {Q:PK'} {κ:KX} {R:ZZll κ} {j:Nat} (w:∀r∈R,j<r.length) (l:R.length<=1000) (q:Q (nums κ (R.map λr=>r.getD j 0))):Zcb [tab κ R,.int (j:Int)] Q
def ZhX:FnScope ["table","place"] ["table","place"] (Zab ZdH):=‹2›
def z_column_at(h:Here K mg "column_at" ZdH):Fn P w K mg base Z "column_at" 1 Zcb:=by
 refine Za9 h (λ_ _ F=>F.b2 λ_ _ _ _ _ _ _ _=>rfl) ZhX (λe A B f ⟨a,b,q⟩=>(a,b,f _ q)) (λ_ _ ⟨_,_,_⟩=>rfl) (λ_ _ _ _ _ _ _ c =>
  (Zak<|ZaA<|QL.toE<|Zh6 "row" [(1,"place")] (ZfT<|qv 0) (by exact λ_ _ _ _=>(Zbs (qv 0)<|qv 1)))) ∅ ?_
 rintro _ Q ⟨w,l,q⟩;refine (_,by rw[Q1,Q1,Q1],by rw[Q1];exact l,λi p d=>?_,q);obtain ⟨r,c,rfl⟩:=mget d;exact (_,ZbK<|w r<|Qd c,by rw[Q3,Q3,c];rfl)
inductive S_turned:ZF
 |mk {Q:PK'} {κ:KX} {R:ZZll κ} {m:Nat} (n1:1<=R.length) (n9:R.length<=1000) (w:Wid m R) (m9:m<=1000) (q:Q (tab κ ((List.range m).map λj=>R.map λr=>r.getD j 0))):S_turned [tab κ R] Q
def Zsj{α:Type}{R:List (List α)}(w:Wid m R)(n1:1<=R.length):(R.getD 0 []).length=m:=w _ (by rw[Q2,Q6 ⋯];exact Qu _)
def Zmm:FnScope ["table"] ["table"] (Zab Zgs):=‹2›
def z_turned(h:Here K mg "turned" Zgs) (T:Nm mg) (g:Fn P w K mg base Z "column_at" 1 Zcb):Fn P w K mg base Z "turned" 2 S_turned:=by
 refine Za9 h (λ_ _ F=>F.b1 λ_ _ _ _ _ _ _=>rfl) Zmm (λs A B f ⟨a,b,c,d,q⟩=>(a,b,c,d,f _ q)) (λ_ _ ⟨_,_,_,_,_⟩=>rfl) (λ_ _ _ _ _ _ _ j =>
  (Zak<|ZaA<|QL.toE<|Zh6 "place" [(0,"table")] (Zdx T.range<|ZaP T.len<|Zbs (qv 0) Zas) (by exact λ_ _ _ _=>(Zal g<|qa2 (qv 1)<|qv 0)))) ∅ ?_
 rintro _ Q ⟨k,l,w,o,q⟩;have e:=Zsj w k;refine (_,ZcS k,?_);show ((List.map (num _) _).length:Int)<_/\_;rw[ZaB,e];refine (⋯,⋯,_,by rw[Zaz,Q1,Q1,Qn];omega,by rw[Zaz];omega,λi p m=>?_,q);obtain ⟨n,rfl⟩:=ZaO m;rw[Wk];refine (λr j=>by rw[w r j];omega,l,?_);rw[Q3,Q3,Qs ⋯];rfl
inductive Zg7:ZF
 |mk {Q:PK'} {κ:KX} {c:κ.F} {R:ZZll κ} (bc:B1 κ c) (bf:AllR (B1 κ) R) (w:∀r∈R,r.length<=1000) (l:R.length<=1000) (q:Q (tab κ (ZhR c R))):Zg7 [.kd κ,num κ c,tab κ R] Q
def Zmn:FnScope ["kind","number","table"] ["kind","number","table"] (Zab Zgt):=‹2›
def z_scaled(h:Here K mg "scaled" Zgt) (e:Fn P w K mg base Z "scaled_row" 3 S_scaled_row):Fn P w K mg base Z "scaled" 4 Zg7:=by
 refine Za9 h (λ_ _ F=>F.b3 λ_ _ _ _ _ _ _ _ _=>rfl) Zmn (λo A B f ⟨a,b,c,d,q⟩=>(a,b,c,d,f _ q)) (λ_ _ ⟨_,_,_,_,_⟩=>rfl) (λ_ _ _ _ _ _ _ g =>
  (Zak<|ZaA<|QL.toE<|Zh6 "row" [(0,"kind"),(1,"number")] (ZfT<|qv 2) (by exact λ_ _ _ _=>(Zal e<|qa3 (qv 1) (qv 2)<|qv 0)))) ∅ ?_
 rintro _ Q ⟨k,j,w,l,q⟩;refine (_,by unfold ZhR;rw[Q1,Q1,Q1],by rw[Q1];exact l,λi p n=>?_,q);obtain ⟨r,g,rfl⟩:=mget n;have m:=Qd g;exact (k,j r m,w r m,by unfold ZhR;rw[Q3,Q3,g];rfl)
inductive S_plus_rowW (c:List PV->PV):ZF
 |mk {Q:PK'} {κ:KX} {f g:ZZlk κ} (bf:∀x∈f,B1 κ x) (bg:∀x∈g,B1 κ x) (l:f.length<=1000) (q:Q (c ((List.zipWith (· + ·) f g).map (num κ)))):S_plus_rowW c [.kd κ,nums κ f,nums κ g] Q
abbrev Zgf:ZF:=S_plus_rowW .lst
def ZiS:FnScope ["kind","row","other"] ["kind","row","other"] (Zab Zek):=‹2›
def z_plus_rowF(h:Here K mg "plus_row" Zek) (n:mg "zip"=none) (d:Mt P w K mg base Z zKd "plus" 2 (S2 λ_ x y=>x+y)):Fn P w K mg base Z "plus_row" 3 (S_plus_rowW .fr):=by
 refine Za9 h (λ_ _ F=>F.b3 λ_ _ _ _ _ _ _ _ _=>rfl) ZiS (λt A B f ⟨a,b,c,q⟩=>(a,b,c,f _ q)) (λ_ _ ⟨_,_,_,_⟩=>rfl) (λ_ _ _ _ _ _ _ s =>
  (Zak<|ZaA<|Zsg 0<|Zs3 "left" "right" [(0,"kind")] (ZlF n (qv 1)<|qv 2) (by exact λ_ _ _ _=>(q_m d (qv 2)<|qa2 (qv 0)<|qv 1)))) ∅ ?_
 rintro _ Q ⟨m,k,l,q⟩;refine (_,by rw[ZcG,ZaB,ZaB,Q1,Wx],by rw[ZcG,ZaB,ZaB];omega,λi p r=>?_,q);obtain ⟨a,b,o,j,rfl⟩:=ZeZ r;obtain ⟨x,e,rfl⟩:=mget o;obtain ⟨y,g,rfl⟩:=mget j;exact (m x<|Qd e,k y<|Qd g,by rw[Q3,Uq,e,g];rfl)
def z_plus_row{k:Nat}(h:Fn P w K mg base Z "plus_row" k (S_plus_rowW .fr)):Fn P w K mg base Z "plus_row" k Zgf:=Zrv h (λd A B f ⟨a,b,c,q⟩=>(a,b,c,f _ q)) λd Q ⟨a,b,c,q⟩=>(a,b,c,q)
inductive S_sums:ZF
 |mk {Q:PK'} {κ:KX} {R:ZZll κ} {f:ZZlk κ} {D E M N:Nat} (w:Wid f.length R) (l:R.length<=100) (l9:f.length<=100) (qf:AllR (QN κ (D:Int) M) R) (qg:∀x∈f,QN κ (E:Int) N x) (d0:0<D) (d1:D<=10^200) (e0:0<E) (e1:E<=10^200) (m1:M<=10^500) (n1:N<=10^500) (q:Q (nums κ (R.map λr=>Zh7 r f))):S_sums [.kd κ,tab κ R,nums κ f] Q
def ZhY:FnScope ["kind","table","column"] ["kind","table","column"] (Zab ZdI):=‹2›
def z_sums_with(h:Here K mg "sums_with" ZdI) (a:Mt P w K mg base Z zKd "sum_of_products" 3 Sdot):Fn P w K mg base Z "sums_with" 4 S_sums:=by
 refine Za9 h (λ_ _ F=>F.b3 λ_ _ _ _ _ _ _ _ _=>rfl) ZhY (λJ A B f ⟨g,D,n,v,e,u,E,I,s,c,b,q⟩=>(g,D,n,v,e,u,E,I,s,c,b,f _ q)) (λ_ _ ⟨_,_,_,_,_,_,_,_,_,_,_,_⟩=>rfl) (λ_ _ _ _ _ _ _ d =>
  (Zak<|ZaA<|QL.toE<|Zh6 "row" [(0,"kind"),(2,"column")] (ZfT<|qv 1) (by exact λ_ _ _ _=>(q_m a (qv 1)<|qa2 (qv 0)<|qv 2)))) ∅ ?_
 rintro _ Q ⟨w,l,G,t,o,H,j,k,C,z,x,q⟩;refine (_,by rw[Q1,Q1,Q1],by rw[Q1];omega,λi p y=>?_,q);obtain ⟨r,d,rfl⟩:=mget y;have m:=Qd d;exact (w r m,by rw[w r m];exact G,t r m,o,H,j,k,C,z,x,by rw[Q3,Q3,d];rfl)
inductive S_image:ZF
 |mk {Q:PK'} {κ:KX} {R:ZZll κ} {f:ZZlk κ} {D E M N:Nat} (n1:1<=R.length) (w:Wid f.length R) (l:R.length<=100) (l9:f.length<=100) (qf:AllR (QN κ (D:Int) M) R) (qg:∀x∈f,QN κ (E:Int) N x) (d0:0<D) (d1:D<=10^200) (e0:0<E) (e1:E<=10^200) (m1:M<=10^500) (n1:N<=10^500) (q:Q (nums κ (R.map λr=>Zh7 r f))):S_image [.kd κ,tab κ R,nums κ f] Q
def ZnT:FnScope ["kind","table","column"] ["kind","table","column"] (Zab Zim):=‹2›
def z_image(h:Here K mg "image" Zim) (T:Nm mg) (a:Fn P w K mg base Z "sums_with" 4 S_sums):Fn P w K mg base Z "image" 5 S_image:=by
 refine Za9 h (λ_ _ F=>F.b3 λ_ _ _ _ _ _ _ _ _=>rfl) ZnT (λG A B f ⟨y,g,v,k,s,e,p,x,E,n,c,b,q⟩=>(y,g,v,k,s,e,p,x,E,n,c,b,f _ q)) (λ_ _ ⟨_,_,_,_,_,_,_,_,_,_,_,_,_⟩=>rfl) (λ_ _ _ _ _ _ _ H =>
  (Zae (ZdQ (ZfK Zgi lne (ZaP T.len<|qv 2)<|ZaP T.len<|Zbs (qv 1) Zas) (Zak ZpD) Zb8)
  (Zak<|ZaA<|Zal a<|qa3 (qv 0) (qv 1)<|qv 2))) ∅ ?_
 rintro _ Q ⟨d,w,l,C,o,m,D,i,j,u,t,r,q⟩;refine (_,ZcS d,brn (λz=>absurd ?_ z) λ_=>(w,l,C,o,m,D,i,j,u,t,r,q));rw[ZaB,ZaB,Zsj w d]
variable{cN:Addr}
def ZhZ{α:Type}{f:α->PV}(g:List α)(r:Nat):ZgO (g.map f) (some (r:Int)) none=(g.drop r).map f:=by
 unfold ZgO HT.sIx
 simp only[Q1]
 rw[if_neg ⋯,Ws,List.map_drop,U1 (by rw[Wj,Q1];exact Q4 _),Nat.min_def]
 split
 ·rfl
 ·rw[List.drop_of_length_le (by rw[Q1];exact Q4 _),List.drop_of_length_le (by rw[Q1];omega)]
def Zmo{α:Type}{f:α->PV}(g:List α){a b:Nat}(h:a<=b)(l:b<=g.length):ZgO (g.map f) (some (a:Int)) (some (b:Int))=((g.drop a).take<|b-a).map f:=by
 unfold ZgO HT.sIx
 simp only[Q1]
 rw[if_neg ⋯,if_neg ⋯,Ws,Ws,Nat.min_eq_left l,Nat.min_eq_left ⋯,List.map_take,List.map_drop]
inductive Zsk:ZF
 |mk {Q:PK'} {κ:KX} {f g:ZZlk κ} {pl D E M N:Nat} (lp:pl+2<=f.length+g.length) (l9:f.length<=90) (g9:g.length<=90) (qf:∀x∈f,QN κ (D:Int) M x) (qg:∀x∈g,QN κ (E:Int) N x) (d0:0<D) (d1:D<=10^200) (e0:0<E) (e1:E<=10^200) (m1:M<=10^500) (n1:N<=10^500) (q:Q (num κ ((sr f*sr g).c pl))):Zsk [.kd κ,nums κ f,nums κ g,.int (pl:Int)] Q
def sc_product_number:FnScope ["kind","some","others","place","start","bound"] ["kind","some","others","place"] (Zab ZbO):=‹2›
def z_product_number(h:Here K mg "product_number" ZbO) (T:Nm mg) (l:mg "max"=none) (m:mg "min"=none) (k:Mt P w K mg base Z zKd "sum_of_products" 3 Sdot):Fn P w K mg base Z "product_number" 4 Zsk:=by
 have v:=sc_product_number.nd;refine Za9 h (λ_ _ F=>F.b4 λ_ _ _ _ _ _ _ _ _ _=>rfl) sc_product_number (λps A B f ⟨a1,U,G,O,z,L,a7,Y,I,s,n,q⟩=>(a1,U,G,O,z,L,a7,Y,I,s,n,f _ q)) (λ_ _ ⟨_,_,_,_,_,_,_,_,_,_,_,_⟩=>rfl) (λ_ _ _ _ _ _ _ hr =>
  (Zae (Zat 4 v<|Zri l Zas<|ZeQ Za6 li (ZeQ Zbq li (qv 3)<|ZaP T.len<|qv 2) Zas)
  (Zae (Zat 5 v<|Zrj m (ZeQ Za6 li (qv 3) Zas)<|ZaP T.len<|qv 1)
  (Zak<|ZaA<|q_m k (qv 0)<|qa2 (QL.toE<|Znk (qv 1) (Zly<|qv 4)<|Zly<|qv 5)<|QL.toE<|Zh6 "each" [(2,"others"),(3,"place")] (Zrc T.range (qv 4)<|qv 5) (by exact λ_ _ _ _=>(Zbs (qv 1)<|ZeQ Zbq li (qv 2)<|qv 0)))))) ∅ ?_
 rintro _ Q ⟨lp,l9,g9,J,H,W,d1,e0,S,m1,R,q⟩
 rename_i d f g c D E M N
 have lf:=ZaB f;have lg:=ZaB g;obtain ⟨a,est,hst⟩:∃a:Nat,(if (c:Int)-((g.map<|num d).length:Int)+1>0 then (c:Int)-((g.map<|num d).length:Int)+1 else 0)=(a:Int)/\a=c+1-g.length:=(c+1-g.length,by split <;> omega,rfl);obtain ⟨b,eb,hb⟩:∃b:Nat,(if ((f.map<|num d).length:Int)<(c:Int)+1 then ((f.map<|num d).length:Int) else (c:Int)+1)=(b:Int)/\b=min (c+1) f.length:=(min (c+1) f.length,by split <;> omega,rfl);have y:a<=b:=⋯;have t:Sdot [.kd d,.lst<|ZgO (f.map<|num d) (some (a:Int))<|some (b:Int),nums d<|(List.range<|b-a).map λi=>g.getD (c-(a+i)) 0] Q:=by
  rw[Zmo f y ⋯];have u:((f.drop a).take<|b-a).length=b-a:=by rw[Qr,Wj];omega
  refine (by rw[u,Q1,Qn],⋯,λx o=>J x<|List.mem_of_mem_drop<|Uc o,λx o=>?_,W,d1,e0,S,m1,R,by rw[ZnK hst hb y];exact q);obtain ⟨i,hi,rfl⟩:=W5.mp o;exact Zbk H _
 have e:(-(2^62)<=(a:Int)/\(a:Int)<2^62 /\ -(2^62)<=(b:Int)/\(b:Int)<2^62)/\Comp (ZmM a ((b:Int)-a).toNat) (λp C=>zOp zIx (zV 1) (zOp (zI0 λi j => .int<|i-j) (zV 2)<|zV 0) [some<|.val p,some<|.val<|nums d g,some<|.val<|.int c] C) (λr=>Sdot [.kd d,.lst<|ZgO (f.map<|num d) (some (a:Int))<|some (b:Int),.lst r] Q):=by
  refine (⋯,_,by rw[Zaz,Q1,Q1,Qn];omega,by rw[Zaz];omega,λi p hp=>?_,t);obtain ⟨hi,rfl⟩:=ZaO hp;refine (_,by rw[show (c:Int)-((a:Int)+(i:Int))=((c-(a+i):Nat):Int) by omega];exact ZbK ⋯,?_);rw[Q3,Q3,Qs ⋯];rfl
 rw[<-est,<-eb] at e;exact e
inductive S_divided:ZF
 |mk {Q:PK'} {κ:KX} {F G:ZZlk κ} {D E M N:Nat} (di:DvIn F G D E M N) (g0:0<G.length) (q:∀a qs R r,DvOut F G D E M N a qs R r->Q (.tup [nums κ qs.reverse,nums κ ((R.take (G.length-1)).take r)])):S_divided [.kd κ,nums κ F,nums κ G] Q
def sc_divided:FnScope ["kind","f","g","degree","back","rest","quotient","place","factor","above"] ["kind","f","g"] (Zab Zfg):=‹2›
def z_divided(h:Here K mg "divided" Zfg) (T:Nm mg) (Tr:mg "reversed"=none) (s:Mt P w K mg base Z zKd "back" 4 Zkh) (i:Mt P w K mg base Z zKd "times" 4 (S2 λ_ x y=>x*y)) (o:Mt P w K mg base Z zKd "minus" 4 (S2 λ_ x y=>x-y)) (k:Fn P w K mg base Z "trimmed" 4 Zca):Fn P w K mg base Z "divided" 5 S_divided:=by
 have v:=sc_divided.nd;refine Za9 h (λ_ _ F=>F.b3 λ_ _ _ _ _ _ _ _ _=>rfl) sc_divided (λps A B f ⟨a,b,q⟩=>(a,b,λa p R r d=>f _<|q a p R r d)) (λ_ _ ⟨_,_,_⟩=>rfl) (λ_ _ _ _ _ _ _ hr =>
  (Zae (ZdQ (ZfK Zbr leq (ZaP T.len<|qv 2) Zas) (Zak ZpD) Zb8)
  (Zae (Zat 3 v<|ZeQ Zbq li (ZaP T.len<|qv 2) Zas)
  (Zae (Zat 4 v<|q_m s (qv 0)<|qa1<|Zbs (qv 2)<|ZgQ Zas)
  (Zae (ZcF 5 v<|Zjn T.list<|qv 1)
  (Zae (ZcF 6 v<|Zdw Zdc)
  (Zae (Zby [7,8,9] (Zs1 T.range (ZeQ Zbq li (ZaP T.len<|qv 1)<|ZaP T.len<|qv 2) (ZgQ Zas)<|ZgQ Zas) (ZhL 7 v)<|Zae (Zat 8 v<|q_m i (qv 0)<|qa2 (ZfS 5<|ZeQ Za6 li (qv 7)<|qv 3)<|qv 4)
   (Zae (Zby [9] (Zdx T.range<|qv 3) (ZhL 9 v)<|Zak<|ZhM 5 (q_m o (qv 0)<|qa2 (ZfS 5<|ZeQ Za6 li (qv 7)<|qv 9)<|q_m i (qv 0)<|qa2 (qv 8)<|Zbs (qv 2)<|qv 9)<|ZeQ Za6 li (qv 7)<|qv 9)
   (Zak<|Zfz 6<|qv 8)))
  (Zak<|Zck 6<|ZaA<|Zlx<|qa2 (QL.toE<|ZlN T.list Tr<|qv 6)<|Zal k<|qa2 (qv 0)<|QL.toE<|ZsQ 5 Znj<|Zly<|qv 3)))))))) ∅ ?_
 rintro _ Q ⟨g,g0,q⟩
 rename_i c F G D E M N
 have lF:=g.lF;have lG:=g.lG;obtain ⟨d,hd⟩:∃d,G.length=d+1:=(G.length-1,⋯);have hc:G.getD d 0≠0:=by
  rcases g.tG with z|z
  ·omega
  ·rw[hd] at z;exact z
 obtain ⟨a,U,W,qa⟩:=ZhT g.e0 g.n0 (g.qG _<|Qd<|Zdf (show d<G.length by omega)) hc;generalize hn:F.length+1-G.length=n at *;have a1:D*(a*E)^n<2^3000:=Q7 (Zuz W) (by have:=g.bD;rw[hn] at this;exact this);have a2:M*(2*(E*N))^n<2^3000:=by have:=g.bM;rw[hn] at this;exact this
 have l:∀ {t:Nat} {x:c.F},t<=n->QN c ((D*(a*E)^t:Nat):Int) (M*(2*(E*N))^t) x->B1 c x:=by
  intro t x ht H;have p0:0<D*(a*E)^t:=Q8 g.d0<|Q9<|Q8 U g.e0;have l1:=Ztb (D:=D) U g.e0 ht;have l2:=Ztc (M:=M) g.e0 g.n0 ht;exact H.b1 ⋯ (by rw[Qo];omega) ⋯
 have bb:B1 c (Fd.inv<|G.getD d 0):=qa.b1 ⋯ (by rw[Qo];exact Q7 W g.bN) g.bE;have gB:∀j,j<G.length->B1 c (G.getD j 0):=λj C=>(g.qG _<|Qd<|Zdf C).b1 (by have:=g.e0;omega) (by rw[Qo];exact g.bE) g.bN;have l1:=ZaB F;have l2:=ZaB G;refine br (λz=>absurd z ⋯) λ_=>?_;refine (_,Zg5 hd,(hc,(∅,rfl,⋯,?_)));rw[show (((F.map<|num c).length:Int)-(G.map<|num c).length - -1).toNat=n by omega];refine (λt ρ=>∃p R,ρ=[some<|.val<|.kd c,some<|.val<|nums c F,some<|.val<|nums c G,some<|.val<|.int<|(G.map<|num c).length-1,some<|.val<|num c<|Fd.inv<|G.getD d 0,some<|.own<|R.map<|num c,some<|.own<|p.map<|num c,none,none,none]/\Dv F G t p R/\(∀x∈R,QN c ((D*(a*E)^t:Nat):Int) (M*(2*(E*N))^t) x)/\(∀x∈p,QN c ((D*(a*E)^t:Nat):Int) (M*(2*(E*N))^t) x),([],F,rfl,Zuy F G,(λx H=>by have:=g.qF x H;simpa using this),λx h=>nomatch h),?_,?_)
 ·rintro t _ _ hp ⟨p,R,rfl,I,J,Y⟩;obtain ⟨ht,rfl⟩:=ZlE hp;obtain ⟨m,hp_⟩:∃m:Nat,m=F.length-(d+1)-t:=(_,rfl);have g4:m+(d+1)+t=F.length:=⋯;have lR:=I.lr;have a3:=I.lq;have lm:=ZaB R;have mR:=Qd<|Zdf (show m+d<R.length by omega);have L:=J _ mR;have u:=λ(j:Nat) (C:j<G.length)=>Ztd (M:=M) g.d0 U W g.e0 g.eN L qa<|g.qG _<|Qd<|Zdf C;refine (_,by rw[show ((F.map<|num c).length:Int)-(G.map<|num c).length-(t:Int)+((G.map<|num c).length-1)=((m+d:Nat):Int) by omega];exact ZbK ⋯,(l ⋯ L,bb,?_));obtain ⟨x,H⟩:∃x:c.F,x=R.getD (m+d) 0*Fd.inv (G.getD d 0):=(_,rfl)
  simp only[<-H] at u ⊢
  have bx:B1 c x:=l (t:=t+1) ⋯ (u d ⋯).1;refine (⋯,⋯,λj ρ=>ρ=[some<|.val<|.kd c,some<|.val<|nums c F,some<|.val<|nums c G,some<|.val<|.int<|(G.map<|num c).length-1,some<|.val<|num c<|Fd.inv<|G.getD d 0,some<|.own<|(dI G x m j R).map<|num c,some<|.own<|p.map<|num c,some<|.val<|.int<|(F.map<|num c).length-(G.map<|num c).length-t,some<|.val<|num c x,none],by rw[Zux],?_,?_)
  ·rintro j _ _ C rfl;obtain ⟨C,rfl⟩:=ZaO C;have er:(dI G x m j R).getD (m+j) 0=R.getD (m+j) 0:=by rw[Zl4 ⋯,if_neg ⋯]
   have ej:((F.map<|num c).length:Int)-(G.map<|num c).length-(t:Int)+(0+(j:Int))=((m+j:Nat):Int):=⋯;refine (_,by rw[ej];exact ZbK (by rw[ZeM];omega),_,by rw[Wk];exact ZbK ⋯,(bx,gB j ⋯,(by rw[er];exact l ⋯<|J _<|Qd<|Zdf (show m+j<R.length by omega),l (t:=t+1) ⋯ (u j ⋯).2.1,m+j,by rw[ej,ZaB,ZeM];exact Zer ⋯,?_)));rw[ZpV ⋯,List.map_set]
  ·rintro _ e;rw[Zaz,show ((G.map<|num c).length-1:Int).toNat=d by omega] at e;subst e;refine (by rw[ZaB];omega,p++[x],dI G x m d R,by rw[Wh];rfl,ZpW hd hc g4 I H,Zte (λy O=>((u d ⋯).2.2 y<|J y O).1) λy O j C=>((u j ⋯).2.2 y<|J y O).2,λy O=>?_);rcases We.mp O with q|q
   ·exact ((u d ⋯).2.2 y<|Y y q).1
   ·rw[Qf.mp q];exact (u d ⋯).1
 ·rintro _ e;rw[ZiC] at e;obtain ⟨p,R,rfl,I,J,Y⟩:=e;have lR:=I.lr;have S:G.length-1=d:=⋯;have lt:ZgO (R.map<|num c) none (some ((G.map<|num c).length-1:Int))=(R.take d).map (num c):=by rw[show ((G.map<|num c).length-1:Int)=(d:Int) by omega];exact Zdj R d
  show Zca [.kd c,.lst<|ZgO (R.map<|num c) none<|some ((G.map<|num c).length-1:Int)] _;rw[lt];refine ⟨λr r0 r1 r2=>(by show 2<=1000;decide,?_)⟩;have:=q a p R r (by rw[hn];exact I,by rw[S];exact r0,by rw[S];exact r1,by rw[S];exact r2,U,W,by rw[hn];exact Y,by rw[hn];exact J);rw[S,nums,List.map_reverse] at this;exact this
abbrev zPo(te:ZE):ZE:=λa Q=>te a λp=>match p with
 | .kd κ=>Q<|.kp κ
 |_=>False
def Zg8{p l:Pos}(y:HasI X.prog X.w X.K X.mg X.base Z.p k ["self","under"] (ZcL Z.p)) (z:X.mg "Polys"=some (.ref Z.p)) (h:QE Z X e te) (hr:Room (k+1) X.A:=by assumption) (A:Gl X "Polys":= by rfl) (r:starEach [e] X.env=(false,eval e X.env)::starEach [] X.env:=by rfl):QE Z X (.Call (.Name "Polys" p) [e] [] l) (zPo te) :=
 (λc _ _ f q=>h.mo c _ _ (λp k=>by
  split at k
  ·exact f _ k
  ·exact k.elim) q,λC B=>Zbi (Zjf y hr A z (Zaa (h.ok C B) Zaf r) ∅ r rfl) λD H Q ⟨O,c,s,q⟩=>(O,c,s,h.mo c _ _ (λp k v u n d=>by
  split at k
  ·obtain ⟨a,rfl,F⟩:=Zd9 d;intro x b o g t;have S2:=Zar g<|.own x;have j:upd u b (.own x) x=none:=by rw[Zaj<|Ne.symm t];exact o
   refine (x,b,a,rfl,Zai,rfl,?_);rw[ZoY];have m:=ZaH S2<|Zar j<|.ins Z.p b [("under", .ref a)];refine k _ _ (ZaH n m) ?_;unfold Rep;unfold Rep at d;obtain ⟨E,e,i⟩:=d
   cases e
   exact (x,b,a,rfl,by rw[hide_out<|(s.ls.same n).new o];exact Zai,i.same<|Zan m)
  ·exact k.elim) q))
inductive S_PtW (c:List PV->PV):ZF
 |mk {Q:PK'} {κ:KX} {F G:ZZlk κ} {D E M N:Nat} (lF:F.length<=90) (lG:G.length<=90) (qF:∀x∈F,QN κ (D:Int) M x) (qG:∀x∈G,QN κ (E:Int) N x) (d0:0<D) (d1:D<=10^200) (e0:0<E) (e1:E<=10^200) (m1:M<=10^500) (n1:N<=10^500) (q:∀T,Trm T->sr T=sr F*sr G->T.length<=F.length+G.length-1->Q (c (T.map (num κ)))):S_PtW c [.kp κ,nums κ F,nums κ G] Q
abbrev Zsl:ZF:=S_PtW .lst
def ZrU:MoF (S_PtW c):=λo A B f ⟨g,i,h,m,e,l,j,n,k,d,q⟩=>(g,i,h,m,e,l,j,n,k,d,λT a b c=>f _<|q T a b c)
def sc_Polys_times:FnScope ["self","one","other","count"] ["self","one","other"] (Zab ZcA):=‹2›
def z_PtF(h:HereM K Z.p "times" "Polys.times" ZcA) (T:Nm mg) (b:Pc K mg Z.p) (a:Fn P w K mg base Z "trimmed" 4 (S_trimmedW .fr)) (c:Fn P w K mg base Z "product_number" 4 Zsk):Mt P w K mg base Z zKp "times" 5 (S_PtW .fr):=by
 have z:=sc_Polys_times.nd;refine ZpI b.cl ZrU<|ZlP h (λ_ _ F=>F.b3 λ_ _ _ _ _ _ _ _ _=>rfl) sc_Polys_times (λ_ _ ⟨_,_,_,_,_,_,_,_,_,_,_⟩=>rfl) (λ_ _ _ _ _ _ _ H =>
  (Zae (Zat 3 z<|ZeQ Zbq li (ZeQ Za6 li (ZaP T.len<|qv 1)<|ZaP T.len<|qv 2) Zas)
  (Zak<|ZaA<|Zal a<|qa2 (Zqq b.nU b.cl<|qv 0)<|QL.toE<|Zh6 "place" [(0,"self"),(1,"one"),(2,"other")] (Zdx T.range<|qv 3) (by exact λ_ _ _ _=>(Zal c<|qa4 (Zqq b.nU b.cl<|qv 1) (qv 2) (qv 3)<|qv 0))))) ∅ ?_
 rintro _ Q ⟨u,t,v,k,y,d,e,s,o,m,q⟩
 rename_i f F G D E M N
 have A:=ZaB F;have C:=ZaB G;refine (⋯,⋯,(((List.range<|F.length+G.length-1).map λi=>(sr F*sr G).c i).map<|num f),by rw[Zaz,Q1,Q1,Qn];omega,by rw[Zaz];omega,λi p n=>?_,⟨λr x l g=>q _ (Zg2 x g) ?_ ?_⟩)
 ·obtain ⟨B,rfl⟩:=ZaO n;rw[Wk];refine (⋯,u,t,v,k,y,d,e,s,o,m,?_);rw[Q3,Q3,Qs ⋯];rfl
 ·refine Rg.Ps.ext λj=>?_;rw[Zbj,ZhU l]
  by_cases hj:j<F.length+G.length-1
  ·rw[Q2,Q3,Qs hj];rfl
  ·rw[Zah (by rw[Q1,Qn];omega),ZhV,ZpF ⋯]
 ·rw[Qr,Q1,Qn];omega
def z_Pt{k:Nat}(h:Mt P w K mg base Z zKp "times" k (S_PtW .fr)):Mt P w K mg base Z zKp "times" k Zsl:=Zta h ZrU λm Q ⟨c,g,f,e,b,d,j,i,l,a,q⟩=>(c,g,f,e,b,d,j,i,l,a,q)
inductive S_Pp (g:(κ:KX)->Sr κ->Sr κ->Sr κ):ZF
 |mk {Q:PK'} {κ:KX} {F G:ZZlk κ} (lF:F.length<=90) (lG:G.length<=90) (bF:∀x∈F,B1 κ x) (bG:∀x∈G,B1 κ x) (q:∀T,Trm T->sr T=g κ (sr F) (sr G)->T.length<=max F.length G.length->Q (nums κ T)):S_Pp g [.kp κ,nums κ F,nums κ G] Q
def ZrV{g:(κ:KX)->Sr κ->Sr κ->Sr κ}:MoF (S_Pp g):=λj A B f ⟨d,h,e,i,q⟩=>(d,h,e,i,λT a b c=>f _<|q T a b c)
def sc_Polys_plus:FnScope ["self","one","other","both"] ["self","one","other"] (Zab Zc4):=‹2›
def z_Pp(h:HereM K Z.p "plus" "Polys.plus" Zc4) (T:Nm mg) (z:mg "zip"=none) (l:Pc K mg Z.p) (d:Mt P w K mg base Z zKd "plus" 4 (S2 λ_ x y=>x+y)) (c:Fn P w K mg base Z "trimmed" 4 Zca):Mt P w K mg base Z zKp "plus" 5 (S_Pp λ_ f g=>f+g):=by
 have L:=sc_Polys_plus.nd;refine ZpI l.cl ZrV<|ZlP h (λ_ _ F=>F.b3 λ_ _ _ _ _ _ _ _ _=>rfl) sc_Polys_plus (λ_ _ ⟨_,_,_,_,_⟩=>rfl) (λ_ _ _ _ _ _ _ O =>
  (Zae (Znt 3 "left" "right" [(0,"self")] L (ZlF z (qv 1)<|qv 2) (by exact λ_ _ _ _=>(q_m d (Zqq l.nU l.cl<|qv 2)<|qa2 (qv 0)<|qv 1)))
  (Zak<|Zck 3<|ZaA<|Zal c<|qa2 (Zqq l.nU l.cl<|qv 0)<|QL.toE<|Zq9 (QL.toE<|Zq9 (qv 3)<|QL.toE<|Znk (qv 1) (Zly<|ZaP T.len<|qv 3) Znj)<|QL.toE<|Znk (qv 2) (Zly<|ZaP T.len<|qv 3) Znj))) ∅ ?_
 rintro _ Q ⟨N,M,I,D,q⟩
 rename_i k F G
 have u:=ZaB F;have H:=ZaB G;have m:((List.zipWith (· + ·) F G).map<|num k).length=min F.length G.length:=by rw[Q1,Wx]
 refine ((List.zipWith (· + ·) F G).map<|num k,by rw[ZcG,m,u,H],by rw[ZcG];omega,λi p C=>?_,?_)
 ·obtain ⟨a,b,B,E,rfl⟩:=ZeZ C;obtain ⟨x,s,rfl⟩:=mget B;obtain ⟨y,t,rfl⟩:=mget E;exact (I x<|Qd s,D y<|Qd t,by rw[Q3,Uq,s,t];rfl)
 ·have n:=ZhZ (f:=num k) F<|min F.length G.length;have o:=ZhZ (f:=num k) G<|min F.length G.length;rw[<-m] at n o;have e:Zca [.kd k,nums k<|plP F G] Q:=⟨λr J A v=>q _ (Zg2 J v) (Rg.Ps.ext λj=>by rw[Zbj,ZhU A,Zp4,Rg.Ps.c_add,Zbj,Zbj]) (by rw[Qr,Zp5];omega)⟩;unfold plP at e;rw[nums,Wh,Wh,<-m,<-n,<-o] at e;refine (?_,?_,e)
  ·rw[n,m,Q1,Wj];omega
  ·rw[n,o,Qi,m,Q1,Wj,Q1,Wj];omega
def sc_Polys_minus:FnScope ["self","one","other"] ["self","one","other"] (Zab Zcz):=‹2›
def z_Pm(h:HereM K Z.p "minus" "Polys.minus" Zcz) (d:Pc K mg Z.p) (b:Mt P w K mg base Z zKd "minus" 5 (S2 λ_ x y=>x-y)) (a:Mt P w K mg base Z zKd "number" 5 Snum) (c:Mt P w K mg base Z zKp "plus" 5 (S_Pp λ_ f g=>f+g)):Mt P w K mg base Z zKp "minus" 6 (S_Pp λ_ f g=>f-g):=by
 have C:=sc_Polys_minus.nd;refine ZpI d.cl ZrV<|ZlP h (λ_ _ F=>F.b3 λ_ _ _ _ _ _ _ _ _=>rfl) sc_Polys_minus (λ_ _ ⟨_,_,_,_,_⟩=>rfl) (λ_ _ _ _ _ _ _ B =>
  (Zak<|ZaA<|q_m c (qv 0)<|qa2 (qv 1)<|QL.toE<|Zh6 "each" [(0,"self")] (ZfT<|qv 2) (by exact λ_ _ _ _=>(q_m b (Zqq d.nU d.cl<|qv 1)<|qa2 (q_m a (Zqq d.nU d.cl<|qv 1)<|qa1 Zas)<|qv 0)))) ∅ ?_
 rintro _ Q ⟨u,r,v,n,q⟩
 rename_i m F G
 refine ((G.map λx=>0-x).map<|num m,by rw[Q1,Q1,Q1],by rw[ZaB];omega,λi p A=>?_,(u,by rw[Q1];exact r,v,λx t=>?_,λT o s k=>q T o ?_ (by rw[Q1] at k;exact k)))
 ·obtain ⟨y,e,rfl⟩:=mget A;exact (0,Zfv,(Zpx,n y<|Qd e,by rw[Q3,Q3,e];rfl))
 ·obtain ⟨y,e,rfl⟩:=W5.mp t;exact Zlt<|n y e
 ·rw[s];refine Rg.Ps.ext λj=>?_;rw[Rg.Ps.c_add,Rg.Ps.c_sub,Zbj,Zbj,Zbj,Q2 (l:=G.map λx=>0-x),Q3,Q2 (l:=G)]
  cases G[j]? with
  |none=>show _+(0:m.F)=_-0;generalize F.getD j 0=z;grind
  |some y=>show _+(0-y)=_-y;generalize F.getD j 0=z;grind
inductive Zdt:ZF
 |mk {Q:PK'} {κ:KX} {x:κ.F} {n D M:Nat} (n60:n<=60) (qx:QN κ (D:Int) M x) (d0:0<D) (m0:0<M) (bD:D^n<2^3000) (bM:M^n<2^3000) (bD1:D<2^3000) (bM1:M<2^3000) (q:Q (num κ (rsd x n))):Zdt [.kd κ,num κ x,.int (n:Int)] Q
def sc_raised:FnScope ["kind","number","count","product","turn"] ["kind","number","count"] (Zab Zgu):=‹2›
def z_raised(h:Here K mg "raised" Zgu) (T:Nm mg) (a:Mt P w K mg base Z zKd "number" 3 Snum) (b:Mt P w K mg base Z zKd "times" 3 (S2 λ_ x y=>x*y)):Fn P w K mg base Z "raised" 4 Zdt:=by
 have i:=sc_raised.nd;refine Za9 h (λ_ _ F=>F.b3 λ_ _ _ _ _ _ _ _ _=>rfl) sc_raised (λL A B f ⟨o,C,p,u,m,s,E,H,q⟩=>(o,C,p,u,m,s,E,H,f _ q)) (λ_ _ ⟨_,_,_,_,_,_,_,_,_⟩=>rfl) (λ_ _ _ _ _ _ _ N =>
  (Zae (Zat 3 i<|q_m a (qv 0)<|qa1 Zas)
  (Zae (Zby [4] (Zdx T.range<|qv 2) (ZhL 4 i)<|Zak<|Zat 3 i<|q_m b (qv 0)<|qa2 (qv 3)<|qv 1)
  (Zak<|ZaA<|qv 3)))) ∅ ?_
 rintro _ Q ⟨r,j,e,l,v,J,d,g,q⟩
 rename_i c x n D M
 refine (1,Zda,⋯,⋯,λt I=>I=[some<|.val<|.kd c,some<|.val<|num c x,some<|.val<|.int n,some<|.val<|num c<|rsd x t,none],rfl,?_,?_)
 ·rintro t _ _ k rfl;obtain ⟨k,rfl⟩:=ZaO k;have G:D^t<=D^n:=Q5 e ⋯;have z:M^t<=M^n:=Q5 l ⋯;exact (ZeN (ZfF j t) (Q9 e) (Q7 G v)<|Q7 z J,ZeN j e d g,rfl)
 ·rintro _ rfl;rw[Zaz,Ws];exact q
inductive S_botf:ZF
 |mk {Q:PK'} {κ:KX} {F:ZZlk κ} {D M:Nat} (qF:∀x∈F,QN κ (D:Int) M x) (d0:0<D) (dB:D<2^3000) (q:∀y,y≠0->QN κ 1 D y->(∀x∈F,QN κ 1 M (y*x))->Q (nums κ [y])):S_botf [.kd κ,nums κ F] Q
def ZeR:FnScope ["kind","f"] ["kind","f"] (Zab Zb5):=‹2›
def z_botf(h:Here K mg "bottom_factor" Zb5) (d:Mt P w K mg base Z zKd "number" 3 Snum) (g:Mt P w K mg base Z zKd "common_bottom" 3 Zsi):Fn P w K mg base Z "bottom_factor" 4 S_botf:=by
 refine Za9 h (λ_ _ F=>F.b2 λ_ _ _ _ _ _ _ _=>rfl) ZeR (λH A B f ⟨m,t,s,q⟩=>(m,t,s,λy a b c=>f _<|q y a b c)) (λ_ _ ⟨_,_,_,_⟩=>rfl) (λ_ _ _ _ _ _ _ E =>
  (Zak<|ZaA<|QL.toE<|Zdw<|qa1<|q_m d (qv 0)<|qa1<|q_m g (qv 0)<|qa1<|qv 1)) ∅ ?_
 rintro _ Q ⟨j,l,C,q⟩
 rename_i i F D M
 refine ((D:Int),⋯,(Bits.of (n:=3000) (by rw[Qo];exact C)).up ∅,λx u=>ZpP l<|j x u,λA k=>?_);obtain ⟨y,hy⟩:∃y:i.F,NumV i A y:=by
  cases i with
  |q=>exact ((A:Rat),rfl,rfl)
  |r p G =>
   have e:A=1:=k;rw[e];exact (K1 _,Zda)
 obtain ⟨z,o,v⟩:=ZnM l k j hy;exact (y,hy,by show 1<=1000;decide,q y z o v)
inductive Zg9:ZF
 |mk {Q:PK'} {κ:KX} {u l:ZZlk κ} {x y:κ.F} {g d Du Su Dl Sl Da Sa Dh Sh:Nat} (lL0:l.length=d+1) (c0:l.getD d 0≠0) (lU0:u.length=d+1+g) (lU:u.length<=20) (hq:κ = .q->g+d<=3) (x0:x≠0) (y0:y≠0) (qU:∀z∈u,QN κ (Du:Int) Su z) (qL:∀z∈l,QN κ (Dl:Int) Sl z) (qx:QN κ (Da:Int) Sa x) (qy:QN κ (Dh:Int) Sh y) (z:FrSz Du Su Dl Sl Da Sa Dh Sh g)
  (q:∀(N:ZZlk κ) c α Qt (D':Nat),c≠0->α≠0->sr N=cn c*(cn α*sr u-sr Qt*sr l)->Trm N->N.length<=d->0<D'->D'<=Sa*Sh^g*(Dl^(g+1)*Du)->(∀z∈N,QN κ (D':Int) (Da*Dh^g*(25*(Sl^(g+1)*Su))) z)->Q (tab κ [N])):Zg9 [.kd κ,tab κ [u],tab κ [l],num κ x,num κ y] Q
def sc_following_row:FnScope ["kind","upper","lower","last","height","polys","gap","factor","quotient","shrink","answer","one","other"] ["kind","upper","lower","last","height"] (Zab Zb4):=‹2›
def z_follow(h:Here K mg "following_row" Zb4) (T:Nm mg) (Tz:mg "zip"=none) (pc:Pc K mg Z.p) (hI:HasI P w K mg base Z.p 5 ["self","under"] (ZcL Z.p)) (J:Mt P w K mg base Z zKd "times" 6 (S2 λ_ x y=>x*y)) (U:Mt P w K mg base Z zKd "back" 6 Zkh) (m:Mt P w K mg base Z zKp "times" 6 Zsl) (S:Mt P w K mg base Z zKp "minus" 6 (S_Pp λ_ f g=>f-g)) (s:Fn P w K mg base Z "raised" 6 Zdt) (v:Fn P w K mg base Z "divided" 6 S_divided):Fn P w K mg base Z "following_row" 7 Zg9:=by
 have nd:=sc_following_row.nd;refine Za9 h (λf fd F=>F.binds λ_ _ _ _ _ _ us hl=>by obtain ⟨_,_,_,_,_,rfl⟩:=ZtI hl;exact rfl) sc_following_row (λps A B f ⟨a1,a2,a3,a4,a5,a6,a7,a8,a9,d7,d6,e0,q⟩=>(a1,a2,a3,a4,a5,a6,a7,a8,a9,d7,d6,e0,λN c E I D' b1 b2 b3 b4 b5 b6 b7 b8=>f _<|q N c E I D' b1 b2 b3 b4 b5 b6 b7 b8)) (λ_ _ ⟨_,_,_,_,_,_,_,_,_,_,_,_,_⟩=>rfl) (λ_ _ _ _ _ _ _ hr =>
  (Zae (Zat 5 nd<|Zg8 hI pc.m<|qv 0)
  (Zae (ZlQ 6 nd<|ZeQ Zbq li (ZaP T.len<|Zbs (qv 1) Zas)<|ZaP T.len<|Zbs (qv 2) Zas)
  (Zae (Zat 7 nd<|QL.toE<|Zdw<|qa1<|Zal s<|qa3 (qv 0) (Zbs (Zbs (qv 2) Zas)<|ZgQ Zas)<|ZeQ Za6 li (qv 6) Zas)
  (Zae (Zat 8 nd<|Zbs (Zal v<|qa3 (qv 0) (q_m m (qv 5)<|qa2 (qv 7)<|Zbs (qv 1) Zas)<|Zbs (qv 2) Zas) Zas)
  (Zae (Zat 9 nd<|QL.toE<|Zdw<|qa1<|q_m U (qv 0)<|qa1<|q_m J (qv 0)<|qa2 (qv 3)<|Zal s<|qa3 (qv 0) (qv 4)<|qv 6)
  (Zae (ZcF 10 nd<|Zdw Zdc)
  (Zae (Zby [11,12] (ZlF Tz (qv 1)<|qv 2) (Zut 11 12 nd)<|Zak<|Zfz 10<|q_m m (qv 5)<|qa2 (qv 9)<|q_m S (qv 5)<|qa2 (q_m m (qv 5)<|qa2 (qv 7)<|qv 11)<|q_m m (qv 5)<|qa2 (qv 8)<|qv 12)
  (Zak<|Zck 10<|ZaA<|qv 10))))))))) ∅ ?_
 rintro _ Q ⟨L,c0,f4,lU,hq,x0,y0,qU,qL,qx,qy,z,kk⟩
 rename_i b u l x y g d H C o Sl Da Sa Dh Sh
 have lu:=ZaB u;have ll:=ZaB l;have O:(10^200:Nat)<2^3000:=∅;have p5:(10^500:Nat)<2^3000:=∅;have qc:QN b (o:Int) Sl (l.getD d 0):=Zbk qL d;have M:0<o^(g+1):=Q9 z.dl;have d1:0<Sl^(g+1):=Q9 z.sl;have za:=z.a;have zb:=z.b;have aD:o^(g+1)<=10^200:=Q0 (U8 _ z.du) za;have aU:H<=10^200:=Q0 (Wt _ M) za;have aM:Sl^(g+1)*C<=10^500:=⋯;have aS:Sl^(g+1)<=10^500:=Q0 (U8 _ z.su) aM;have c8:C<=10^500:=Q0 (Wt _ d1) aM;have b0:o<=10^200:=Q0 (by rw[Qk];exact Wt _<|Q9 z.dl) aD;have c2:Sl<=10^500:=Q0 (by rw[Qk];exact Wt _<|Q9 z.sl) aS;refine (_,rfl,_,rfl,((g:Int),⋯,?_));refine (_,rfl,_,Zg5 L,?_);show Zdt [.kd b,num b<|l.getD d 0,.int ((g+1:Nat):Int)] _;refine (⋯,qc,z.dl,z.sl,Q7 aD O,Q7 aS p5,Q7 b0 O,Q7 c2 p5,by show 1<=1000;decide,?_);have d2:=ZhW c0<|g+1;have Y:=ZfF qc<|g+1;obtain ⟨E,eα⟩:∃E,E=rsd (l.getD d 0) (g+1):=(_,rfl);rw[<-eα] at d2 Y ⊢;have d4:∀x∈[E],QN b ((o^(g+1):Nat):Int) (Sl^(g+1)) x:=λx t=>by rw[Qf.mp t];exact Y
 refine (_,rfl,S_PtW.mk (F:=[E]) (G:=u) (by show 1<=90;decide) ⋯ d4 qU M aD z.du aU aS c8 λPl tP eP lP=>(_,rfl,?_));have e1:sr [E]=cn E:=rfl;rw[e1] at eP;have e9:Pl.length<=d+1+g:=by
  have:Pl.length<=1+u.length-1:=lP;omega
 have qP:∀x∈Pl,QN b ((o^(g+1)*H:Nat):Int) (Sl^(g+1)*C) x:=λx t=>by
  obtain ⟨j,_,rfl⟩:=ZbY t;rw[<-Zbj,eP,W2];exact ZfE Y qU j
 have tL:Trm l:=.inr (by rw[L,Qz];exact c0);have ND:0<Sl*o:=Q8 z.sl z.dl;have DS:0<2*(o*Sl):=by have:=Q8 z.dl z.sl;omega
 have tt:Pl.length+1-l.length<=g+1:=⋯;have d9:DvIn Pl l (o^(g+1)*H) o (Sl^(g+1)*C) Sl:=(⋯,⋯,tL,qP,qL,Q8 M z.du,z.dl,Q8 d1 z.su,z.sl,z.dS,
  Q7 (Qb _<|Q5 ND tt) z.c,Q7 (Qb _<|Q5 DS tt) z.e,Q7 b0 O,Q7 c2 p5)
 refine S_divided.mk d9 ⋯ λa qs R r c7=>(_,rfl,?_);have ed:∀k,(sr Pl).c k=(sr qs.reverse*sr l+sr (R.take d)).c k:=λk=>by
  rw[Rg.Ps.c_add,ZhV,Zbj,Zbj];exact ZoC L rfl c7.dv k
 have eQ:cn E*sr u=sr qs.reverse*sr l+sr (R.take d):=by
  rw[<-eP];exact Rg.Ps.ext ed
 have lQ:qs.reverse.length<=g+1:=by rw[Wd,c7.dv.lq];exact tt
 have d8:(R.take d).length<=d:=by rw[Qr];omega
 have qQ:∀x∈qs.reverse,QN b ((o^g*H:Nat):Int) (4*(Sl^g*C)) x:=λx t=>by
  obtain ⟨j,_,rfl⟩:=ZbY t;exact ZnL L c0 lQ d8 hq z.du z.dl z.sl qU qL (by rw[<-eα];exact eQ) j
 generalize qs.reverse=I at *;have zf:=z.f;have zh:=z.h;have b9:0<Dh^g:=Q9 z.dh;have c5:0<Sh^g:=Q9 z.sh;have fD:Dh^g<=10^200:=Q0 (Wt _ z.da) zf;have fS:Sh^g<=10^200:=Q0 (Wt _ z.sa) zh;have fA:Da<=10^200:=Q0 (U8 _ b9) zf;have fB:Sa<=10^200:=Q0 (U8 _ c5) zh;have zu:Da*Dh^g<=10^500:=Q0 zf ∅;have y1:=ZhW y0 g;have d5:=ZfF qy g;have c3:x*rsd y g≠0:=ZoI x0 y1;have e5:QN b ((Da*Dh^g:Nat):Int) (Sa*Sh^g) (x*rsd y g):=by rw[W2];exact qx.mul d5
 obtain ⟨a0,a1,a2,d3⟩:=ZhT (Q8 z.da b9) (Q8 z.sa c5) e5 c3;have e3:=ZoJ c3;have hD:Dh<2^3000:=z.hD;have hS:Sh<2^3000:=z.hS;refine (⋯,qy,z.dh,z.sh,Q7 fD O,Q7 fS O,hD,hS,(ZeN qx z.da (Q7 fA O)<|Q7 fB O,ZeN d5 b9 (Q7 fD O)<|Q7 fS O,(c3,by show 1<=1000;decide,by show 0<=1000;decide,?_)));generalize Fd.inv (x*rsd y g)=c at *;have e7:I.length<=20:=⋯;have e4:o^g*H<=10^200:=Q0 (Qq _<|Q5 z.dl ⋯) za;have f5:Sl^g*C<=Sl^(g+1)*C:=Qq _<|Q5 z.sl ⋯;have W:0<o^(g+1)*H:=Q8 M z.du;refine (λi ρ=>(i=0/\ρ=[some<|.val<|.kd b,some<|.val<|tab b [u],some<|.val<|tab b [l],some<|.val<|num b x,some<|.val<|num b y,some<|.val<|.kp b,some<|.val<|.int g,some<|.val<|nums b [E],some<|.val<|nums b I,some<|.val<|nums b [c],some<|.own [],none,none])\/(i=1/\∃N,ρ=[some<|.val<|.kd b,some<|.val<|tab b [u],some<|.val<|tab b [l],some<|.val<|num b x,some<|.val<|num b y,some<|.val<|.kp b,some<|.val<|.int g,some<|.val<|nums b [E],some<|.val<|nums b I,some<|.val<|nums b [c],some<|.own [nums b N],none,none]/\sr N=cn c*(cn E*sr u-sr I*sr l)/\Trm N/\∀z∈N,QN b ((a0*(o^(g+1)*H):Nat):Int) (Da*Dh^g*(25*(Sl^(g+1)*C))) z),.inl (rfl,rfl),?_,?_)
 ·rintro i p _ hp (⟨rfl,rfl⟩|⟨rfl,_⟩)
  ·cases hp
   refine S_PtW.mk (F:=[E]) (G:=u) (by show 1<=90;decide) ⋯ d4 qU M aD z.du aU aS c8 λT1 f6 c1 d0=>?_;rw[e1] at c1;have d0:T1.length<=1+u.length-1:=d0;refine S_PtW.mk ⋯ ⋯ qQ qL (Q8 (Q9 z.dl) z.du) e4 z.dl b0 ⋯ c2 λT2 f3 c4 e8=>?_;have q1:∀x∈T1,QN b ((o^(g+1)*H:Nat):Int) (Sl^(g+1)*C) x:=λx t=>by
    obtain ⟨j,_,rfl⟩:=ZbY t;rw[<-Zbj,c1,W2];exact ZfE Y qU j
   have q2:∀x∈T2,QN b ((o^(g+1)*H:Nat):Int) (24*(Sl^(g+1)*C)) x:=λx t=>by
    by_cases hκ:b = .q
    ·have gd:=hq hκ;obtain ⟨j,_,rfl⟩:=ZbY t;have p0:(0:Int)<((o^g*H:Nat):Int)*(o:Int):=by
      have:=Q8 (Q8 (Q9 (n:=g) z.dl) z.du) z.dl;rw[<-W2];omega
     have q:=Zl7 p0 qQ qL j;rw[<-c4,Zbj,<-W2,show o^g*H*o=o^(g+1)*H by rw[Qk];grind] at q;refine q.mono ?_;have e:4*(Sl^g*C)*Sl=4*(Sl^(g+1)*C):=by rw[Qk];grind
     rw[e];have m1:I.length*l.length<=6:=by
      rw[L];have:I.length*(d+1)<=(g+1)*(d+1):=Qq _ lQ;rcases (by omega:g=0\/g=1\/g=2\/g=3) with rfl|rfl|rfl|rfl <;> omega
     have m2:I.length*l.length*(4*(Sl^(g+1)*C))<=6*(4*(Sl^(g+1)*C)):=Qq _ m1;rw[Qm] at m2;omega
    ·exact ZuA hκ
   refine S_Pp.mk ⋯ ⋯ (λx t=>ZeN (q1 x t) W (Q7 za O)<|Q7 aM p5) (λx t=>ZeN (q2 x t) W (Q7 za O) ⋯) λT3 f2 c9 f1=>?_;have q3:∀x∈T3,QN b ((o^(g+1)*H:Nat):Int) (25*(Sl^(g+1)*C)) x:=λx t=>by
    obtain ⟨j,_,rfl⟩:=ZbY t;rw[<-Zbj,c9,Rg.Ps.c_sub,Zbj,Zbj];exact ((Zbk q1 j).sub ⋯<|Zbk q2 j).mono ⋯
   refine S_PtW.mk (F:=[c]) (G:=T3) (D:=a0) (by show 1<=90;decide) ⋯ (λx t=>by rw[Qf.mp t];exact d3) q3 a1 (Q0 a2 zh) W za zu zb λT4 e6 c6 f0=>(by show 0<1000;decide,.inr (rfl,T4,rfl,by rw[c6,c9,c1,c4];rfl,e6,λx t=>?_));obtain ⟨k,_,rfl⟩:=ZbY t;rw[<-Zbj,c6,W2];exact ZfE d3 q3 k
  ·cases hp
 ·rintro _ (⟨e,_⟩|⟨_,N,rfl,eN,tN,qN⟩)
  ·rw[ZcG] at e;exact absurd e (by show ¬min 1 1=0;decide)
  ·refine kk N c E I _ e3 d2 eN tN (ZrN tN λk hk=>?_) (Q8 a1 W) (Qq _ a2) qN;rw[eQ] at eN;have e2:sr N=cn c*sr (R.take d):=by
    rw[eN];generalize sr I*sr l=s1;generalize sr (R.take d)=s2;generalize cn c=s3;grind
   rw[<-Zbj,e2,ZfD,Zbj,Zah ⋯];grind
def ZrW{N ps:List Str}{S:ZF}{t:ZS}(o:HereM K C m c e)(b:∀f i,Fun K m c e f i->Binds K i ps [])(j:FnScope N ps (Zab e))(g:∀vs Q,S vs Q->vs.length=ps.length)
    (body:∀(f:Addr) (d:Value) (A:Around) (a:List Env) (s:Shared) (H:Hp) (E:XK),Room k (A.deeper<|envOfC c (Zab e) s.heap.objs.size f d)->QSs Z (cxX P w K mg base N c (Zab e) f d A a s H E) (ZaW e) t)
    (p:ps.length<=N.length) (n:∀vs Q,S vs Q->t (λ_=>Q .non,Q,λ_=>False,λ_=>False) (ini N vs)):HasMX P w K mg base C m (k+1) ps [] (liF Z S) :=
  o.hasMX b λf i F=>F.okx j (λvs H Q E h=>by
    obtain ⟨O,pv,l,r,q⟩:=h;rw[r.len]; exact g _ _ q) λd A a s H vs Q E u h=>ZgS g (body f d A a s H E u) p n h
def mt_kk(j:Kd K mg Z.f Z.r)(i:HasMX P w K mg base Z.f m k ps [] (liF Z S))(o:HasMX P w K mg base Z.r m k ps [] (liF Z S))(g:MoF S)(l:¬m ="prime":= by decide):Mt P w K mg base Z zKd m k S :=
 ZrT j i o g (λH O a n e Q d c L r s=>(O,_,L,.cons (by unfold Rep;exact (a,rfl,by obtain ⟨b,h⟩:=d;exact (b,by rw[hide_out λm=>by obtain ⟨f,q⟩:=L a m;rw[h] at q;cases q];exact h),c)) (by rw[Wp];exact r),s))
  (λp t H O a n e Q d c L r s=>(O,_,L,.cons (by unfold Rep;exact (a,rfl,by obtain ⟨b,h⟩:=d;exact (b,by rw[hide_out λm=>by obtain ⟨f,q⟩:=L a m;rw[h] at q;cases q];exact h),c)) (by rw[Wp];exact r),s)) l
inductive Zqc:ZF
 |mk {Q:PK'} {κ:KX} {x y:κ.F} (y0:y≠0) (b1:B1 κ x) (b2:B1 κ (Fd.inv y)) (q:Q (num κ (x*Fd.inv y))):Zqc [.kd κ,num κ x,num κ y] Q
def Zh0:FnScope ["self","one","other"] ["self","one","other"] (Zab Zcw):=‹2›
def z_over(h:HereM K C "over" "Kind.over" Zcw) (a:Mt P w K mg base Z zKd "times" 4 (S2 λ_ x y=>x*y)) (b:Mt P w K mg base Z zKd "back" 4 Zkh):HasMX P w K mg base C "over" 5 ["self","one","other"] [] (liF Z Zqc):=by
 refine ZrW h (λ_ _ F=>F.b3 λ_ _ _ _ _ _ _ _ _=>rfl) Zh0 (λ_ _ ⟨_,_,_,_⟩=>rfl) (λ_ _ _ _ _ _ _ f =>
  (Zak<|ZaA<|q_m a (qv 0)<|qa2 (qv 1)<|q_m b (qv 0)<|qa1<|qv 2)) ∅ ?_
 rintro _ Q ⟨d,c,e,q⟩;exact (d,(c,e,q))
structure CrB (κ:KX) (t:Nat) (u l:ZZlk κ) (x y:κ.F) (Dl:Nat):Prop where
 lq:κ = .q->(l.length+t<=3/\u.length+t<=4)\/(t=0/\u.length=l.length/\u.length<=4/\Sm u l)
 x0:x≠0
 y0:y≠0
 qU:∀z∈u,QN κ ((1:Nat):Int) (zS κ (2^eU t)) z
 qL:∀z∈l,QN κ (Dl:Int) (zS κ (2^eL t)) z
 qx:QN κ ((1:Nat):Int) (zS κ (2^eA t)) x
 qy:QN κ ((1:Nat):Int) (zS κ (2^eH t)) y
 l0:0<Dl
 l1:Dl<=zS κ (2^eD t)
inductive CrZ (κ:KX) (f g:Sr κ) (mm:Nat):PSt->Prop
 |mk (t:Nat) (u l:ZZlk κ) (x y:κ.F) (Dl:Nat) (e:mm=l.length) (cr:CrJ f g u l) (le0:l.length<=u.length) (u9:u.length<=9) (en:l.length=0->Ztl κ u) (ac:l.length≠0->CrB κ t u l x y Dl):CrZ κ f g mm [some (.val (.kd κ)),some (.val (tab κ [u])),some (.val (tab κ [l])),some (.val (num κ x)),some (.val (num κ y)),none,none,none]
inductive CrG (κ:KX) (u l:ZZlk κ) (Q:PK'):Prop
 |mk (f g:Sr κ) (cr:CrJ f g u l) (u9:u.length<=9) (lq:κ = .q->(l.length<=3/\u.length<=4)\/(u.length=l.length/\u.length<=4/\Sm u l)) (qU:∀z∈u,QN κ ((1:Nat):Int) (2^60) z) (qL:∀z∈l,QN κ ((1:Nat):Int) (2^60) z) (kk:∀R,CrP f g R->Q (tab κ [R])):CrG κ u l Q
inductive ZjG (S0:ZF):ZF
 |mk {Q:PK'} {κ:KX} {u l:ZZlk κ} (kS:u.length<l.length->S0 [.kd κ,tab κ [l],tab κ [u]] Q) (kG:l.length<=u.length->CrG κ u l Q):ZjG S0 [.kd κ,tab κ [u],tab κ [l]] Q
def sc_common_row:FnScope ["kind","upper","lower","last","height","gap","following","back"] ["kind","upper","lower"] (Zab Zce):=‹2›
def z_crow0(h:Here K mg "common_row" Zce):Fn P w K mg base Z "common_row" 0 λ_ _=>False :=
 (λ_ _ _ _ h=>h,["kind","upper","lower"],h.hasX (λ_ _ F=>F.b3 λ_ _ _ _ _ _ _ _ _=>rfl) λf a F=>(λ_ _ _ _ ⟨_,_,_,_,z⟩=>z.elim,λ_ _ _ _ _ _ _ _ _ _ _ _ _ ⟨_,_,_,_,z⟩=>z.elim))
def z_crow{j:Nat}(hj:8<=j)(h:Here K mg "common_row" Zce) (T:Nm mg) (pc:Pc K mg Z.p) (hI:HasI P w K mg base Z.p 7 ["self","under"] (ZcL Z.p)) (H:Mt P w K mg base Z zKd "number" 8 Snum) (a6:Mt P w K mg base Z zKd "back" 8 Zkh) (a7:Mt P w K mg base Z zKd "over" 8 Zqc) (U:Mt P w K mg base Z zKp "times" 8 Zsl) (I:Fn P w K mg base Z "raised" 8 Zdt) (C:Fn P w K mg base Z "following_row" 8 Zg9) (o:Fn P w K mg base Z "common_row" j S0):Fn P w K mg base Z "common_row" (j+1) (ZjG S0):=by
 have Y:=sc_common_row.nd;refine Za9 h (λ_ _ F=>F.b3 λ_ _ _ _ _ _ _ _ _=>rfl) sc_common_row (λps A B f ⟨a,b⟩=>(λl=>o.mo _ _ _ f<|a l,λl=>let ⟨f1,g,a1,a2,a3,a4,a5,q⟩:=b l;(f1,g,a1,a2,a3,a4,a5,λR r=>f _<|q R r))) (λ_ _ ⟨_,_⟩=>rfl) (λ_ _ _ _ _ _ _ hr=>have e4:=hr.mono hj
  (Zae (ZdQ (ZfK ZdW lb (ZaP T.len<|Zbs (qv 1) Zas)<|ZaP T.len<|Zbs (qv 2) Zas) (Zak<|ZaA<|Zal o<|qa3 (qv 0) (qv 2)<|qv 1) Zb8)
  (Zae (Zat 3 Y<|q_m H (qv 0)<|qa1 Zas)
  (Zae (Zat 4 Y<|q_m H (qv 0)<|qa1 Zas)
  (Zae (Zd8 [5,6] (ZfK Ze3 lb (ZaP T.len<|Zbs (qv 2) Zas) Zas)<|Zae (ZlQ 5 Y<|ZeQ Zbq li (ZaP T.len<|Zbs (qv 1) Zas)<|ZaP T.len<|Zbs (qv 2) Zas)
   (Zae (Zat 6 Y<|Zal C<|Zb7 (qv 0)<|qa4 (qv 1) (qv 2) (qv 3)<|qv 4)
   (Zae (Zat 1 Y<|qv 2)
   (Zae (Zat 2 Y<|qv 6)
   (Zae (Zat 3 Y<|Zbs (Zbs (qv 1) Zas)<|ZgQ Zas)
   (Zak<|ZdQ (ZfK Ze3 lb (qv 5) Zas) (Zak<|Zat 4 Y<|q_m a7 (qv 0)<|qa2 (Zal I<|qa3 (qv 0) (qv 3)<|qv 5)<|Zal I<|qa3 (qv 0) (qv 4)<|ZeQ Zbq li (qv 5) Zas) Zb8))))))
  (Zae (ZdQ (ZfK Zbr leq (ZaP T.len<|Zbs (qv 1) Zas) Zas) (Zak<|ZaA<|qv 1) Zb8)
  (Zae (Zat 7 Y<|QL.toE<|Zdw<|qa1<|q_m a6 (qv 0)<|qa1<|Zbs (Zbs (qv 1) Zas)<|ZgQ Zas)
  (Zak<|ZaA<|QL.toE<|Zrs "one" [(0,"kind"),(7,"back")] (ZfT<|qv 1) (by exact λ_ _ _ _=>(q_m U (Zg8 hI pc.m<|qv 1)<|qa2 (qv 2)<|qv 0)))))))))) ∅ ?_
 rintro _ Q ⟨kS,kG⟩
 rename_i κ u l
 have lu:=ZaB u;have ll:=ZaB l;refine (_,rfl,_,rfl,br (λzz=>kS ⋯) λzz=>?_);have a8:l.length<=u.length:=⋯;obtain ⟨f,g,W,u9,lq,qU,qL,kk⟩:=kG a8;have a9:∀n:Nat,QN κ ((1:Nat):Int) (zS κ<|2^n) (1:κ.F):=λn=>Zp6 qn_one λ_=>Nat.one_le_two_pow;refine (1,Zda,(1,Zda,(CrZ κ f g,l.length,(0,u,l,1,1,1,rfl,W,a8,u9,(λ_=>(1,2^60,∅,∅,∅,Q5 ∅ ∅,qU)),λ_=>((λe=>(lq e).imp id λ⟨a,b,c⟩=>(rfl,a,b,c)),Zcl,Zcl,λz hz=>Zp6 (qU z hz) λ_=>Q4 _,λz hz=>Zp6 (qL z hz) λ_=>Q4 _,a9 _,a9 _,∅,ZrO<|Q9 ∅)),?_)));clear W qU qL a8 kG kS zz lq u9 lu ll;rintro _ _ ⟨t,u,l,x,y,M,rfl,W,a8,u9,en,ac⟩;have lu:=ZaB u;have ll:=ZaB l;refine (_,rfl,br (λzz=>?_) λzz=>?_)
 ·have lz:l.length≠0:=⋯;obtain ⟨lq,x0,y0,qU,qL,qx,qy,b7,S⟩:=ac lz;obtain ⟨d,hd⟩:∃d,l.length=d+1:=(l.length-1,⋯);obtain ⟨O,hg⟩:∃O,u.length=d+1+O:=(u.length-(d+1),⋯);have E:l.getD d 0≠0:=by
   have:=ZiQ W.tL ⋯;rw[hd,Qz] at this;exact this
  have J:=Ztk (κ:=κ) (t:=t) (g:=O) ⋯ (λe=>by rcases lq e with h|h <;> omega) b7 S;refine (_,rfl,_,rfl,((O:Int),⋯,?_));refine (hd,E,hg,⋯,(λe=>by rcases lq e with h|h <;> omega),x0,y0,qU,qL,qx,qy,J,λN cc α Qt D' c4 d7 eN tN b0 b8 b9 qN=>?_);have d6:=W.step c4 d7 eN tN;have qc:QN κ (M:Int) (zS κ<|2^eL t) (l.getD d 0):=Zbk qL d;have d3:Ztl κ l:=ZrP b7 S qL;have no:∀(N:ZZlk κ) (cc α:κ.F) (Qt:ZZlk κ),sr N=cn cc*(cn α*sr u-sr Qt*sr l)->Trm N->N.length<=d->Sm u l->N.length=0:=λN cc α Qt eN tN lN ⟨F,a,b,mF,lF,fa,fb,e1,e2⟩=>by
   have:=ZiP tN<|Zdi (m:=d) (d:=F) (R:=N) (e:=cn cc*(cn α*a-sr Qt*b)) ⋯ (by have:=mF.2;rwa [lF,hd,Qz] at this) lN ((Fs.cn _).mul<|((Fs.cn _).mul fa).sub<|(Fs.sr _).mul fb) (by rw[eN,e1,e2];generalize sr F=s;generalize sr Qt=q;grind);rw[this];rfl
  have b4:∀(y':κ.F),y'≠0->(N.length≠0->QN κ ((1:Nat):Int) (zS κ<|2^eH (t+1)) y')->∃m',m'<l.length/\CrZ κ f g m' [some<|.val<|.kd κ,some<|.val<|tab κ [l],some<|.val<|tab κ [N],some<|.val<|num κ<|l.getD d 0,some<|.val<|num κ y',none,none,none]:=λy' c1 qh=>by
   refine (N.length,⋯,t+1,l,N,l.getD d 0,y',D',rfl,d6,⋯,⋯,λ_=>d3,λnz=>?_);have d1:1<=d:=⋯
   cases κ with
   |r p hp =>
    have dN:D'<=1:=by
     have e1:(1:Nat)*1^O*(M^(O+1)*1)=M^(O+1):=by rw[Uf];omega
     have l1:M<=1:=S;have:D'<=1*1^O*(M^(O+1)*1):=b9;rw[e1] at this;exact Q0 this<|Q0 (U7 l1 _) (by rw[Uf];exact Q4 _)
    exact ((λe=>nomatch e),E,c1,λ_ _=>trivial,λ_ _=>trivial,trivial,trivial,b8,dN)
   |q =>
    rcases lq rfl with ⟨q1,q2⟩|sm
    rotate_left
    ·exact absurd (no N cc α Qt eN tN b0 sm.2.2.2) nz
    obtain ⟨x1,x2,x3,x4,x5,x6,x7⟩:=Zmc (t:=t) (g:=O) ⋯;have l1:M<=2^eD t:=S;rw[x1] at l1;obtain rfl:M=1:=⋯;have pw:∀ {a b:Nat},a<=b->2^a<=2^b:=λh=>Q5 ∅ h;exact (λ_ => .inl (⋯,⋯),E,c1,λv d=>(qL v d).mono<|pw x4,λv d=>(qN v d).mono x3,qc.mono<|pw x5,qh nz,b8,Q0 b9 x2)
  refine (_,rfl,_,Zg5 hd,br (λgz=>?_) λgz=>?_)
  ·obtain ⟨L,rfl⟩:∃L,O=L+1:=(O-1,⋯);have p3:(10^200:Nat)<2^3000:=∅;have p5:(10^500:Nat)<2^3000:=∅;have fa:=J.a;have fb:=J.b;have a1:M^(L+1+1)<=10^200:=Q0 (U8 _ J.du) fa;have a2:M^(L+1)<=10^200:=Q0 (Q5 J.dl ⋯) a1;have a3:M<=10^200:=Q0 (Wo (Ud M).symm)<|Q0 (Q5 J.dl ⋯) a2;have b1:zS κ (2^eL t)^(L+1+1)<=10^500:=Q0 (U8 _ J.su) ⋯;have b2:zS κ (2^eL t)^(L+1)<=10^500:=Q0 (Q5 J.sl ⋯) b1;have b3:zS κ (2^eL t)<=10^500:=Q0 (Wo (Ud<|zS κ<|2^eL t).symm)<|Q0 (Q5 J.sl ⋯) b2;have k1:zS κ (2^eH t)^(L+1)<=10^200:=Q0 (Wt _ J.sa) J.h;have k2:zS κ (2^eH t)^L<=10^200:=Q0 (Q5 J.sh ⋯) k1;have c3:(1:Nat)^L<2^3000:=by rw[Uf];decide
   have q1:=ZfF qc<|L+1;have q2:=ZfF qy L;have y1:=ZhW y0 L;obtain ⟨a0,i1,i2,qi⟩:=ZhT (Q9 ∅) (Q9 J.sh) q2 y1;refine (⋯,qc,J.dl,J.sl,Q7 a2 p3,Q7 b2 p5,Q7 a3 p3,Q7 b3 p5,?_);show Zdt [.kd κ,num κ y,.int<|((L+1:Nat):Int)-1] _;rw[show ((L+1:Nat):Int)-1=(L:Int) by omega];refine (⋯,qy,∅,J.sh,c3,Q7 k2 p3,∅,J.hS,(y1,ZeN q1 (Q9 J.dl) (Q7 a2 p3)<|Q7 b2 p5,ZeN qi i1 (Q7 (Q0 i2 k2) p3) c3,b4 _ (ZoI (ZhW E _)<|ZoJ y1) λnz=>?_))
   cases κ with
   |r p hp=>exact trivial
   |q =>
    rcases lq rfl with ⟨q1',q2'⟩|sm
    rotate_left
    ·exact absurd (no N cc α Qt eN tN b0 sm.2.2.2) nz
    obtain ⟨x1,x2,x3,x4,x5,x6,x7⟩:=Zmc (t:=t) (g:=L+1) ⋯;obtain ⟨d9,d2⟩:=x7 L rfl;have l1:M<=2^eD t:=S;rw[x1] at l1;obtain rfl:M=1:=⋯;have qm:=q1.mul qi;have ea:a0=1:=by
     have:a0<=(2^eH t)^L:=i2;omega
    rw[ea,Uf,<-W2] at qm;exact qm.mono<|Q0 (Wo (by rw[Uf];rfl)) d2
  ·refine b4 y y0 λnz=>?_
   cases κ with
   |r p hp=>exact trivial
   |q =>
    rcases lq rfl with ⟨q1',q2'⟩|sm
    rotate_left
    ·exact absurd (no N cc α Qt eN tN b0 sm.2.2.2) nz
    obtain ⟨x1,x2,x3,x4,x5,x6,x7⟩:=Zmc (t:=t) (g:=O) ⋯;exact qy.mono<|Q5 ∅ x6
 ·have zz:l.length=0:=⋯;have d5:sr l=0:=by rw[List.length_eq_zero_iff.mp zz];exact ZoH
  obtain ⟨a,b,c',d,fa,fb,fc,fd,ef,eg⟩:=W.id;rw[d5] at ef eg;have ef:f=a*sr u:=by
   conv=>lhs;rw[ef]
   generalize sr u=u;grind
  have eg:g=c'*sr u:=by
   conv=>lhs;rw[eg]
   generalize sr u=u;grind
  obtain ⟨Du,Su,c2,d0,c9,c7,qU⟩:=en zz;have b6:Su<=10^200:=Q0 c7 ∅;have b5:Du<=10^200:=Q0 d0 ∅;refine (_,rfl,br (λuz=>?_) λuz=>?_)
  ·have e0:u=[]:=List.length_eq_zero_iff.mp ⋯;have s0:sr u=0:=by rw[e0];exact ZoH
   exact kk u (W.tU,W.bU,.inl (e0,by rw[ef,s0];grind,by rw[eg,s0];grind))
  ·have uz:u.length≠0:=⋯;obtain ⟨m,hm⟩:∃m,u.length=m+1:=(u.length-1,⋯);have E:u.getD m 0≠0:=by
    have:=ZiQ W.tU uz;rw[hm,Qz] at this;exact this
   have qc:QN κ (Du:Int) Su (u.getD m 0):=Zbk qU m;obtain ⟨a0,i1,i2,qi⟩:=ZhT c2 c9 qc E;have mi:=Fd.mul_inv _ E;refine (_,rfl,_,Zg5 hm,(E,by show 1<=1000;decide,?_));generalize hiv:Fd.inv (u.getD m 0)=iv at *;refine (λi r=>(i=0/\r=[])\/(i=1/\∃R,r=[nums κ R]/\sr R=cn iv*sr u/\Trm R/\R.length<=u.length),by show 1<=1000;decide,.inl (rfl,rfl),?_,?_)
   ·rintro i p r hp lr (⟨rfl,rfl⟩|⟨rfl,_⟩)
    ·cases hp
     exact S_PtW.mk (F:=[iv]) (G:=u) (D:=a0) (by show 1<=90;decide) ⋯ (λx hx=>by rw[Qf.mp hx];exact qi) qU i1 (Q0 i2 b6) c2 b5 (Q0 b5 ∅) (Q0 b6 ∅) λT tT eT lT => .inr (rfl,T,rfl,eT,tT,by have:T.length<=1+u.length-1:=lT;omega)
    ·cases hp
   rintro r _ (⟨e,_⟩|⟨_,R,rfl,e0,tR,e3⟩)
   ·exact absurd e (by show ¬1=0;decide)
   have c0:∀k,R.getD k 0=iv*u.getD k 0:=λk=>by rw[<-Zbj,e0,ZfD,Zbj]
   have tp:R.getD m 0=1:=by rw[c0 m,<-mi];generalize u.getD m 0=z2;grind
   have d8:R.length=m+1:=by
    have h2:m<R.length:=Nat.lt_of_not_le λq=>by
     rw[Zah q] at tp;exact Zcl tp.symm
    omega
   have d4:cn (u.getD m 0)*cn iv=1:=by rw[ZrM,mi,Zge]
   have eU:sr u=cn (u.getD m 0)*sr R:=by
    rw[e0];generalize cn (u.getD m 0)=s1 at *;generalize cn iv=s2 at *;generalize sr u=s3 at *;have:s1*(s2*s3)=s1*s2*s3:=by grind
    rw[this,d4];grind
   obtain ⟨ab,bb,c6,c5,c8⟩:=W.bU;refine kk R (tR,(cn iv*ab,cn iv*bb,(Fs.cn _).mul c6,(Fs.cn _).mul c5,?_),.inr ((⋯,by rw[d8,Qz];exact tp),a*cn (u.getD m 0),c'*cn (u.getD m 0),fa.mul<|Fs.cn _,fc.mul<|Fs.cn _,?_,?_))
   ·rw[e0,c8];generalize cn iv=s1;grind
   ·conv=>lhs;rw[ef,eU]
    generalize sr R=s1;generalize cn (u.getD m 0)=s2;grind
   ·conv=>lhs;rw[eg,eU]
    generalize sr R=s1;generalize cn (u.getD m 0)=s2;grind
end Zp
namespace My
open PySem L2 PyProof.Rows
def ZjH{κ:KX}{A:ZZll κ}{s:Nat}(h:s<=A.length):A.take s=(List.range s).map λi=>A.getD i []:=by
 apply List.ext_getElem?
 intro i;rw[U3,Q3]
 by_cases q:i<s
 ·rw[if_pos q,Qs q];show A[i]?=some (A.getD i []);rw[Q2,Q6 ⋯]
  rfl
 ·rw[if_neg q,Uo (by rw[Qn];omega)]
  rfl
noncomputable def cvL{κ:KX}(a:Nat->Nat->κ.F)(s t:Nat):ZZlk κ:=(List.range s).map<|Rg.cv a s (λi=>a i s) t
def ZiT{κ:KX}(a:Nat->Nat->κ.F)(s t:Nat):(cvL a s t).length=s:=by unfold cvL;rw[Q1,Qn]
def ZiU{κ:KX}{A:ZZll κ}{n s t i:Nat}(d:Wid n A)(f:s<=n)(e:i<A.length):Zh7 ((A.getD i []).take s) (cvL (ent A) s t)=Rg.Sg (λj=>ent A i j*Rg.cv (ent A) s (λi=>ent A i s) t j) s:=by
 have w:=d.get e;have l:((A.getD i []).take s).length=s:=by rw[Qr];omega
 unfold Zh7;rw[l,Zg1];refine Rg.Sg_congr λj a=>?_;have b:((A.getD i []).take s).getD j 0=ent A i j:=by
  unfold ent;rw[Q2,U3,if_pos a,<-Q2]
 have c:(cvL (ent A) s t).getD j 0=Rg.cv (ent A) s (λi=>ent A i s) t j:=by
  unfold cvL;rw[Q2,Q3,Qs a]
  rfl
 rw[b,c]
def Zqd{κ:KX}{A:ZZll κ}{n s t:Nat}(c:Wid n A)(b:s<=n)(d:A.length=n):((A.take s).map<|List.take s).map (λr=>Zh7 r<|cvL (ent A) s t)=cvL (ent A) s (t+1):=by
 rw[ZjH ⋯,List.map_map,List.map_map];unfold cvL;refine List.map_congr_left λi a=>?_;have a:=Uh.mp a;exact ZiU c b ⋯
def ZrX{κ:KX}{A:ZZll κ}{n s:Nat}(a:s<=n)(b:A.length=n):(A.take s).map (λr=>r.getD s 0)=cvL (ent A) s 0:=by
 rw[ZjH ⋯,List.map_map]
 rfl
end My
namespace Zp
open My
open PySem L2 PyProof.Rows
variable{Z:Zc}{X:Cx}{P:Program}{w:World}{K:ZZfg}{mg:ZZmg}{base:Heap}{cF:Addr}
inductive Zha:ZF
 |mk {Q:PK'} {κ:KX} {A:ZZll κ} {n sz:Nat} (lA:A.length=n) (wd:Wid n A) (n5:n<=7) (hs:sz<n) (qA:AllR (QN κ 1 EE) A) (q:Q (nums κ (coL (Rg.cn (ent A) sz) (sz+2)))):Zha [.kd κ,tab κ A,.int (sz:Int)] Q
def sc_corner_numbers:FnScope ["kind","table","size","row","inner","column","falling","turn"] ["kind","table","size"] (Zab ZbQ):=‹2›
def z_corner(h:Here K mg "corner_numbers" ZbQ) (T:Nm mg) (a:Mt P w K mg base Z zKd "number" 4 Snum) (e:Mt P w K mg base Z zKd "minus" 4 (S2 λ_ x y=>x-y)) (o:Mt P w K mg base Z zKd "sum_of_products" 4 Sdot) (d:Fn P w K mg base Z "column_at" 4 Zcb) (c:Fn P w K mg base Z "sums_with" 4 S_sums):Fn P w K mg base Z "corner_numbers" 5 Zha:=by
 have u:=sc_corner_numbers.nd;refine Za9 h (λ_ _ F=>F.b3 λ_ _ _ _ _ _ _ _ _=>rfl) sc_corner_numbers (λps A B f ⟨a1,a2,U,W,S,q⟩=>(a1,a2,U,W,S,f _ q)) (λ_ _ ⟨_,_,_,_,_,_⟩=>rfl) (λ_ _ _ _ _ _ _ R =>
  (Zae (Zat 3 u<|QL.toE<|Znk (Zbs (qv 1)<|qv 2) Znj<|Zly<|qv 2)
  (Zae (ZiG 4 "each" [(2,"size")] u (ZfT<|QL.toE<|Znk (qv 1) Znj<|Zly<|qv 2) (by exact λ_ _ _ _=>(QL.toE<|Znk (qv 0) Znj<|Zly<|qv 1)))
  (Zae (Zat 5 u<|Zal d<|qa2 (QL.toE<|Znk (qv 1) Znj<|Zly<|qv 2)<|qv 2)
  (Zae (ZcF 6 u<|Zdw<|qa2 (q_m a (qv 0)<|qa1 Zas)<|q_m e (qv 0)<|qa2 (q_m a (qv 0)<|qa1 Zas)<|Zbs (Zbs (qv 1)<|qv 2)<|qv 2)
  (Zae (Zby [7] (Zdx T.range<|qv 2) (ZhL 7 u)<|Zae (Zfz 6<|q_m e (qv 0)<|qa2 (q_m a (qv 0)<|qa1 Zas)<|q_m o (qv 0)<|qa2 (qv 3)<|qv 5)
   (Zak<|Zat 5 u<|Zal c<|qa3 (qv 0) (qv 4)<|qv 5))
  (Zak<|Zck 6<|ZaA<|qv 6))))))) ∅ ?_
 rintro _ Q ⟨L,s,n5,hs,H,q⟩
 rename_i k A n b
 have C:=λi j=>ZdC H i j;have I:=s.get (i:=b) ⋯;have e1:=Zdj (f:=num k) (A.getD b []) b;have z:=Zdj (f:=nums k) A b;refine (_,ZcS ⋯,(((A.take b).map<|List.take b).map<|nums k),?_,?_,λi p O=>?_,?_)
 ·rw[z,Q1,Q1,Q1]
 ·rw[z,Q1,Qr];omega
 ·rw[z] at O;obtain ⟨f,v,rfl⟩:=mget O;rw[Q3,Q3,v];exact congrArg (λl=>some<|PV.lst l) (Zdj (f:=num k) f b).symm
 show Zcb [.lst<|ZgO (A.map<|nums k) none<|some (b:Int),.int (b:Int)] _;rw[z];refine (λr R=>by rw[s r<|Uc R];exact hs,by rw[Qr];omega,?_);have Y:(A.take b).map (λr=>r.getD b 0)=cvL (ent A) b 0:=ZrX ⋯ L;rw[Y];refine (1,Zda,0,Zfv,_,ZcS ⋯,_,ZbK ⋯,(ZhS (M:=1) QN.zero ∅,ZhS (C b b) ∅,by show 2<=1000;decide,⋯,⋯,?_));rw[Ws];have l1:((A.getD b []).take b).length=b:=by rw[Qr];omega
 refine (λt ρ=>ρ=[some<|.val<|.kd k,some<|.val<|tab k A,some<|.val<|.int b,some<|.val<|nums k<|(A.getD b []).take b,some<|.val<|tab k<|(A.take b).map<|List.take b,some<|.val<|nums k<|cvL (ent A) b t,some<|.own<|(coL (Rg.cn (ent A) b)<|t+2).map<|num k,none],by rw[e1];rfl,?_,?_)
 ·rintro t _ _ J rfl;obtain ⟨J,rfl⟩:=ZaO J;refine (0,Zfv,Sdot.mk (D:=1) (E:=1) (M:=EE) (N:=GG^t*EE) (by rw[l1,ZiT]) ⋯ (λx m=>H.getD b x<|Uc m) (λx m=>?_) ∅ ∅ ∅ ∅ ∅ (gg4 ⋯) (ZhS (M:=1) QN.zero ∅,?_,by rw[ZaB,ZaI];omega,S_sums.mk (D:=1) (E:=1) (M:=EE) (N:=GG^t*EE) (λf v=>?_) (by rw[Q1,Qr];omega) (by rw[ZiT];omega) (λf v x m=>?_) (λx m=>?_) ∅ ∅ ∅ ∅ ∅ (gg4 ⋯) ?_))
  ·obtain ⟨i,_,rfl⟩:=W5.mp m;exact ZnB C ⋯ t i
  ·rw[ZiU s ⋯ ⋯];exact ZhS (Zoy C ⋯ t)<|gg5 ⋯
  ·obtain ⟨g,G,rfl⟩:=W5.mp v;have:=s g<|Uc G;rw[Qr,ZiT];omega
  ·obtain ⟨g,G,rfl⟩:=W5.mp v;exact H g (Uc G) x<|Uc m
  ·obtain ⟨i,_,rfl⟩:=W5.mp m;exact ZnB C ⋯ t i
  ·rw[ZiU s ⋯ ⋯,Zqd s ⋯ L,<-Zoz,show t+1+2=(t+2)+1 by omega,Zjx,Wh];rfl
 ·rintro _ rfl;rw[Zaz];exact q
inductive ZfH:ZF
 |mk {Q:PK'} {κ:KX} {A:ZZll κ} {n:Nat} (lA:A.length=n) (wd:Wid n A) (n5:n<=7) (qA:AllR (QN κ 1 EE) A) (q:Q (nums κ (coL (Rg.qz n (ent A)) (n+1)))):ZfH [.kd κ,tab κ A] Q
def sc_falling_numbers:FnScope ["kind","table","numbers","size","corner"] ["kind","table"] (Zab ZbD):=‹2›
def z_falling(h:Here K mg "falling_numbers" ZbD) (T:Nm mg) (a:Mt P w K mg base Z zKd "number" 5 Snum) (b:Fn P w K mg base Z "corner_numbers" 5 Zha) (e:Fn P w K mg base Z "product_number" 5 Zsk):Fn P w K mg base Z "falling_numbers" 6 ZfH:=by
 have g:=sc_falling_numbers.nd;refine Za9 h (λ_ _ F=>F.b2 λ_ _ _ _ _ _ _ _=>rfl) sc_falling_numbers (λM A B f ⟨u,H,v,C,q⟩=>(u,H,v,C,f _ q)) (λ_ _ ⟨_,_,_,_,_⟩=>rfl) (λ_ _ _ _ _ _ _ N =>
  (Zae (Zat 2 g<|QL.toE<|Zdw<|qa1<|q_m a (qv 0)<|qa1 Zas)
  (Zae (Zby [3,4] (Zdx T.range<|ZaP T.len<|qv 1) (ZhL 3 g)<|Zae (Zat 4 g<|Zal b<|qa3 (qv 0) (qv 1)<|qv 3)
   (Zak<|Zat 2 g<|QL.toE<|Zh6 "place" [(0,"kind"),(2,"numbers"),(4,"corner")] (Zdx T.range<|ZeQ Za6 li (qv 3) Zas) (by exact λ_ _ _ _=>(Zal e<|qa4 (qv 1) (qv 3) (qv 2)<|qv 0))))
  (Zak<|ZaA<|qv 2)))) ∅ ?_
 rintro _ Q ⟨o,J,z,s,q⟩
 rename_i c A n
 have r:=λi j=>ZdC s i j;have y:(A.map<|nums c).length=n:=by rw[Q1];exact o
 refine (1,Zda,by show 1<=1000;decide,⋯,⋯,?_);rw[y,Ws];refine (λt L=>L=[some<|.val<|.kd c,some<|.val<|tab c A,some<|.val<|nums c<|coL (Rg.qz t<|ent A)<|t+1,none,none],rfl,?_,?_)
 ·rintro t _ _ I rfl;obtain ⟨l,rfl⟩:=ZaO I;rw[Wk];have G:∀x∈coL (Rg.cn (ent A) t) (t+2),QN c ((1:Nat):Int) (GG^7) x:=λx k=>by
   obtain ⟨i,m,rfl⟩:=ZlY k;exact (ZrA r ⋯ i).mono<|Q5 ∅ ⋯
  have D:∀x∈coL (Rg.qz t<|ent A) (t+1),QN c ((1:Nat):Int) (8^t*GG^7) x:=λx k=>by
   obtain ⟨i,m,rfl⟩:=ZlY k;exact (ZpS r t ⋯ i).mono<|Qb _<|Q5 ∅ ⋯
  refine (o,J,z,l,s,⋯,⋯,(coL (Rg.qz (t+1)<|ent A)<|t+2).map<|num c,?_,?_,λi p E=>?_,rfl)
  ·rw[Zaz,ZaB,ZaI];omega
  ·rw[Zaz];omega
  ·obtain ⟨m,rfl⟩:=ZaO E;rw[Wk];refine (by rw[ZaI,ZaI];omega,by rw[ZaI];omega,by rw[ZaI];omega,G,D,∅,∅,∅,∅,gg5 ∅,qz5 ⋯ ∅,?_);have d:i<t+2:=⋯;rw[Q3,show (coL (Rg.qz (t+1)<|ent A)<|t+2)[i]?=some ((Rg.qz (t+1)<|ent A).c i) by unfold coL;rw[Q3,Qs d];rfl,<-Zrz d];rfl
 ·rintro _ rfl;rw[Zaz];exact q
inductive Zqe:ZF
 |mk {Q:PK'} {κ:KX} {b:Int} {y:κ.F} (n:NumV κ b y) (b0:0<b) (b1:b.natAbs<=10^1000) (br:κ ≠ .q->b=1) (q:Q (num κ (Fd.inv y))):Zqe [.kd κ,.int 1,.int b] Q
def mt_numC(h:ZjA P w K mg base Z.f Z.r):Mt P w K mg base Z zKd "number" 3 Zqe :=
 (λd A B f ⟨g,M,j,D,q⟩=>(g,M,j,D,f _ q),Zom,ZhN,λp x H O r k=>by
  obtain ⟨b,rfl⟩:=ZhO k;obtain ⟨a,rfl,T⟩:=Zd9 r;obtain ⟨C,m,i,d,y,Y,J,c2,U,s,rfl,N⟩:=h b H a T;refine (a,C,m,i,d,_,Y,rfl,J,c2,U,s,λF S ws Q G L o c=>?_);generalize e:PV.kd b::S=l at c;obtain ⟨n,E,R,br,q⟩:=c
  cases e
  obtain ⟨u,v,rfl,I,z⟩:=o.two;rw[Zax I,Zax z];exact N F _ _ Q _ G n E R br λt W S2 n=>q t W S2<|nr_rep (L.same S2) n)
inductive Ztn:ZF
 |mk {Q:PK'} {κ:KX} {R:ZZll κ} {m:Nat} (n1:1<=R.length) (w:Wid m R) (q:Q (.bl (decide (R.length=m)))):Ztn [tab κ R] Q
def sc_is_square:FnScope ["table"] ["table"] (Zab Zb3):=‹2›
def z_is_square(h:Here K mg "is_square" Zb3) (T:Nm mg):Fn P w K mg base Z "is_square" 1 Ztn:=by
 refine Za9 h (λ_ _ F=>F.b1 λ_ _ _ _ _ _ _=>rfl) sc_is_square (λe A B f ⟨a,b,q⟩=>(a,b,f _ q)) (λ_ _ ⟨_,_,_⟩=>rfl) (λ_ _ _ _ _ _ _ d =>
  (Zak<|ZaA<|Znl Zbr leq (ZaP T.len<|qv 0)<|ZaP T.len<|Zbs (qv 0) Zas)) ∅ ?_
 rintro _ Q ⟨c,w,q⟩;refine (_,ZcS c,?_);show Q (.bl<|decide<|((List.map (nums _) _).length:Int)=((List.map (num _) _).length:Int));rw[ZaB,Q1,Zsj w c];rw[show decide ((_:Int)=(_:Int))=decide (_=_) from decide_eq_decide.mpr Int.ofNat_inj];exact q
inductive Zmp:ZF
 |mk {Q:PK'} {κ:KX} {R:ZZll κ} (n1:1<=R.length) (w:Wid R.length R) (q:Q .non):Zmp [tab κ R] Q
def sc_need_square:FnScope ["table"] ["table"] (Zab ZbW):=‹2›
def z_need_square(h:Here K mg "need_square" ZbW) (c:Fn P w K mg base Z "is_square" 1 Ztn):Fn P w K mg base Z "need_square" 2 Zmp:=by
 refine Za9 h (λ_ _ F=>F.b1 λ_ _ _ _ _ _ _=>rfl) sc_need_square (λg A B f ⟨a,b,q⟩=>(a,b,f _ q)) (λ_ _ ⟨_,_,_⟩=>rfl) (λ_ _ _ _ _ _ _ e =>
  (Zak<|ZdQ (Zkf<|ZpB<|Zal c<|qa1<|qv 0) (Zak ZpD) Zb8)) ∅ ?_
 rintro _ Q ⟨d,w,q⟩;exact (d,w,brF (by rw[decide_eq_true rfl];rfl) q)
inductive S_freed:ZF
 |mk {Q:PK'} {κ:KX} {R:ZZll κ} {m D M:Nat} (n9:R.length<=30) (w:Wid m R) (m9:m<=30) (qR:AllR (QN κ (D:Int) M) R) (d0:0<D) (d1:D<=10^100) (m1:M<=10^500) (q:∀A x,Zoe κ R.flatten A->NumV κ A x->Q (.tup [tab κ (ZhR x R),.int A])):S_freed [.kd κ,tab κ R] Q
def sc_evenly_freed:FnScope ["kind","table","numbers","row","bottom"] ["kind","table"] (Zab Zch):=‹2›
def z_freed(h:Here K mg "evenly_freed" Zch) (c:Mt P w K mg base Z zKd "number" 4 Snum) (g:Mt P w K mg base Z zKd "common_bottom" 4 Zsi) (d:Fn P w K mg base Z "scaled" 4 Zg7):Fn P w K mg base Z "evenly_freed" 5 S_freed:=by
 have o:=sc_evenly_freed.nd;refine Za9 h (λ_ _ F=>F.b2 λ_ _ _ _ _ _ _ _=>rfl) sc_evenly_freed (λps A B f ⟨E,S,G,J,C,I,T,q⟩=>(E,S,G,J,C,I,T,λA x a b=>f _<|q A x a b)) (λ_ _ ⟨_,_,_,_,_,_,_,_⟩=>rfl) (λ_ _ _ _ _ _ _ u =>
  (Zae (ZcF 2 o<|Zdw Zdc)
  (Zae (Zby [3] (ZfT<|qv 1) (ZhL 3 o)<|Zak<|Zrk 2<|qv 3)
  (Zae (Zck 2<|Zat 4 o<|q_m g (qv 0)<|qa1<|qv 2)
  (Zak<|ZaA<|Zlx<|qa2 (Zal d<|qa3 (qv 0) (q_m c (qv 0)<|qa1<|qv 4)<|qv 1)<|qv 4))))) ∅ ?_
 rintro _ Q ⟨n9,w,W,v,n,p,N,q⟩
 rename_i κ R m D M
 have l:D<=10^200:=Q0 p ∅;have z:∀x∈R.flatten,QN κ (D:Int) M x:=λx j=>by
  obtain ⟨f,e,j⟩:=List.mem_flatten.mp j;exact v f e x j
 have Y:∀i,i<=R.length->(R.take i).flatten.length=i*m:=λi=>by
  induction i with
  |zero=>intro _;rw[List.take_zero,Nat.zero_mul];rfl
  |succ i U =>
   intro H;rw[List.take_add_one,Q6 ⋯,List.flatten_append,Qi,U ⋯,Uz]
   congr 1
   show ([R[i]].flatten).length=m;rw[show [R[i]].flatten=R[i] by simp];exact w _<|Qu _
 refine (by show 0<=1000;decide,λi ρ=>ρ=[some<|.val<|.kd κ,some<|.val<|tab κ R,some<|.own<|(R.take i).flatten.map<|num κ,none,none],by rw[List.take_zero];rfl,?_,?_)
 ·rintro i _ _ L rfl;obtain ⟨f,e,rfl⟩:=mget L;have H:i<R.length:=(Qp.mp e).1;have nm:i*m<=29*30:=Qj ⋯ W;refine (by rw[ZaB,ZaB,Y i ⋯,w f<|Qd e];omega,?_);rw[List.take_add_one,e,List.flatten_append,Wh,show (some f).toList.flatten=f by simp]
 ·rintro _ rfl;rw[Q1,List.take_length];have O:Bits 4000 (D:Int):=Bits.of (by rw[Qo];exact Q7 l<|Qa (show 10^200<2^1000 by decide)<|Q5 ∅ ∅);refine ((D:Int),⋯,O,λx j=>ZpP n<|z x j,λA s=>?_);obtain ⟨A0,t⟩:=ZlS n z s;obtain ⟨x,k⟩:=ZpQ (κ:=κ) (A:=A)<|Q0 (Q0 t p) ∅;exact (x,k,(ZbS (D:=1) ∅ ∅ (Q0 t<|Q0 l ∅)<|ZlT k,λf e y hy=>ZbS n l N<|v f e y hy,λr u=>by rw[w r u];omega,⋯,by show 2<=1000;decide,q A x s k))
inductive S_great:ZF
 |mk {Q:PK'} {κ:KX} {A:ZZll κ} {m:Nat} (lA:A.length=m) (wd:Wid m A) (n1:1<=m) (m7:m<=7) (gs:GrS κ A) (q:Q (nums κ (coL (Rg.chi m (ent A)) (m+1)))):S_great [.kd κ,tab κ A] Q
def sc_great:FnScope ["kind","A","part","numbers","bottom","each"] ["kind","A"] (Zab Zgv):=‹2›
def z_great(h:Here K mg "great" Zgv) (T:Nm mg) (Tr:mg "reversed"=none) (g:Mt P w K mg base Z zKd "number" 6 Zqe) (c:Mt P w K mg base Z zKd "times" 6 (S2 λ_ x y=>x*y)) (k:Fn P w K mg base Z "need_square" 6 Zmp) (b:Fn P w K mg base Z "evenly_freed" 6 S_freed) (a:Fn P w K mg base Z "falling_numbers" 6 ZfH):Fn P w K mg base Z "great" 7 S_great:=by
 have o:=sc_great.nd;refine Za9 h (λ_ _ F=>F.b2 λ_ _ _ _ _ _ _ _=>rfl) sc_great (λps A B f ⟨a1,a2,U,Y,R,q⟩=>(a1,a2,U,Y,R,f _ q)) (λ_ _ ⟨_,_,_,_,_,_⟩=>rfl) (λ_ _ _ _ _ _ _ hr =>
  (Zae (Zs6<|Zal k<|qa1<|qv 1)
  (Zae (Zat 2 o<|Zal b<|qa2 (qv 0)<|qv 1)
  (Zae (ZcF 3 o<|Zdw Zdc)
  (Zae (Zat 4 o Zas)
  (Zae (Zby [5] (ZfT<|Zal a<|qa2 (qv 0)<|Zbs (qv 2) Zas) (ZhL 5 o)<|Zae (Zfz 3<|q_m c (qv 0)<|qa2 (qv 5)<|q_m g (qv 0)<|qa2 Zas<|qv 4)
   (Zak<|ZpK 4 ZpX (λ_ _ _ _ h=>h) o<|Zbs (qv 2) Zas))
  (Zak<|Zck 3<|ZaA<|QL.toE<|ZlN T.list Tr<|qv 3))))))) ∅ ?_
 rintro _ Q ⟨I,t,n1,C,⟨D,M,H,p,N,v⟩,q⟩
 rename_i l A m
 refine (⋯,by rw[I];exact t,S_freed.mk ⋯ t ⋯ v H (Q0 p ∅) (Q0 N ∅) λE x J L=>?_);have u:∀y∈A.flatten,QN l (D:Int) M y:=λy e=>by
  obtain ⟨f,z,e⟩:=List.mem_flatten.mp e;exact v f z y e
 have s:Wn l E x D:=ZrD H (Q0 p ∅) u J L;have O:AllR (QN l 1 EE) (ZhR x A):=λf z y e=>(ZnF H v J L f z y e).mono<|Q0 N ∅;have eF:ent (ZhR x A)=λi j=>x*ent A i j:=ZpZ x A;have en:∀i,(Rg.qz m<|ent<|ZhR x A).c i*Fd.inv (x^i)=(Rg.qz m<|ent A).c i:=λi=>by
  rw[eF,Rg.qz_scl,ZoD];have mi:=Fd.mul_inv (x^i) (Ztf s i).ne;generalize Fd.inv (x^i)=q at *;generalize (Rg.qz m<|ent A).c i=d at *;generalize x^i=y at *;grind
 have r:∀i,i<=8->D^i<=10^500:=λi G=>Q0 (U7 p i)<|Q0 (Q5 ∅ G) ∅;refine (by show 0<=1000;decide,_,rfl,(by rw[Znx];exact I,Zny t x,C,O,λi ρ=>ρ=[some<|.val<|.kd l,some<|.val<|tab l A,some<|.val<|.tup [tab l<|ZhR x A,.int E],some<|.own<|(coL (Rg.qz m<|ent A) i).map<|num l,some<|.val<|.int<|E^i,none],by rw[Int.pow_zero];rfl,?_,?_))
 ·rintro i _ _ hp rfl;obtain ⟨y,e,rfl⟩:=mget hp;have G:i<m+1:=by have:=(Qp.mp e).1;rw[ZaI] at this;exact this
  have W:y=(Rg.qz m<|ent<|ZhR x A).c i:=by
   unfold coL at e;rw[Q3,Qs G] at e;exact (Option.some.inj e).symm
  subst W;have n:=Ztf s i;have S:B1 l ((Rg.qz m<|ent<|ZhR x A).c i):=ZhS (ZpS (λi j=>ZdC O i j) m C i)<|qz5 C ⋯;refine (n.n,n.p,Q0 n.l<|Q0 (r i ⋯) ∅,n.r,(S,ZrE n<|r i ⋯,by rw[ZaB,ZaI];omega,_,rfl,ZtF (Q0 n.l<|Q0 (r i ⋯) ∅)<|Q0 s.l<|Q0 p ∅,?_));rw[en,Zjx,Wh,Int.pow_succ];rfl
 ·rintro _ rfl;rw[ZaB,ZaI];have:=q;rw[<-ZiO,nums,List.map_reverse] at this;exact this
def fn_of(h:HasX P w K mg base x k ps sp)(a:MoF S)(c:∀O H pv vs Q E,Ls O H->Reps Z (hide O H) pv vs->S pv (Up Z O H Q)->sp vs H Q E):Fn P w K mg base Z x k S :=
 (a,ps,let ⟨f,fd,F,m,kp,b⟩:=h.ex;(f,fd,F.imp<|λvs H Q E ⟨O,pv,l,r,s⟩=>c O H pv vs Q E l r s,m,kp,b))
def Reps.three{p q r:PV}(h:Reps Z H [p,q,r] us):∃u v t,us=[u,v,t]/\Rep Z H p u/\Rep Z H q v/\Rep Z H r t:=by
 unfold Reps at h;obtain ⟨u,r,e,c,t⟩:=h;obtain ⟨v,t,b,d,a⟩:=t.two;exact (u,v,t,by rw[e,b],c,d,a)
inductive S_lmake:ZF
 |mk {Q:PK'} {κ:KX} {t:Int} (x:κ.F) (n:NumV κ t x) (q:Q (num κ x)):S_lmake [.int κ.P,.int t] Q
def z_lmake{k:Nat}(h:Has P w K mg base "_law_make" k ps Zez):Fn P w K mg base Z "_law_make" k S_lmake :=
 fn_of h.toX (λps A B f ⟨x,n,q⟩=>(x,n,f _ q)) λO H pv e Q E L r s=>by
  obtain ⟨x,n,q⟩:=s;obtain ⟨u,v,rfl,d,a⟩:=r.two;rw[Zax d,Zax a];exact (_,_,x,rfl,n,λc v S b=>q v c S<|nr_rep (L.same S) b)
inductive S_lop (g:(κ:KX)->κ.F->κ.F->κ.F):ZF
 |mk {Q:PK'} {κ:KX} {x y:κ.F} (b1:B1 κ x) (b2:B1 κ y) (q:Q (num κ (g κ x y))):S_lop g [.int κ.P,num κ x,num κ y] Q
def z_lop{g:(κ:KX)->κ.F->κ.F->κ.F}(h:Has P w K mg base n k ps (ZeW g)):Fn P w K mg base Z n k (S_lop g) :=
 fn_of h.toX (λps A B f ⟨a,b,q⟩=>(a,b,f _ q)) λO H pv o Q E L r s=>by
  obtain ⟨i,e,q⟩:=s;obtain ⟨u,v,t,rfl,m,d,c⟩:=r.three;rw[Zax m];exact (_,v,t,_,_,rfl,Zdd d,Zdd c,i,e,λl v S j=>q v l S<|nr_rep (L.same S) j)
inductive Zto (n:Bool):R2'
 |mk {Q:PK'} {κ:KX} {x y:κ.F} (q:∀b:Bool,(b=true↔x=y)->Q (.bl (n ^^ b))):Zto n (num κ x) (num κ y) Q
def ZrY{κ:KX}{x y:κ.F}(r1:Rep Z (hide O H) (num κ x) u)(r2:Rep Z (hide O H) (num κ y) v):∃b:Bool,Zpt H u v b/\(b=true↔x=y):=by
 have f:=Zdd r1;have d:=Zdd r2
 cases κ with
 |q =>
  obtain ⟨a,rfl,h⟩:=f;obtain ⟨c,rfl,g⟩:=d;refine (_,.inr (a,c,_,_,_,_,rfl,rfl,h,g,rfl),?_);rw[Bool.and_eq_true,decide_eq_true_iff,decide_eq_true_iff];exact (λ⟨a,b⟩=>Rat.ext a ⋯,λe=>by rw[e];exact (rfl,rfl))
 |r p i =>
  have f:u = .int x.val:=f;have d:v = .int y.val:=d;refine (_,.inl (_,_,f,d,rfl),?_);rw[decide_eq_true_iff];exact (λe=>Fin.ext ⋯,λe=>by rw[e])
def ZuE:LR Z ZsH (Zto false):=(λp q A B f ⟨h⟩=>⟨λb e=>f _<|h b e⟩,λO H p q x y Q _ a c k=>by
 obtain ⟨k⟩:=k;obtain ⟨b,e,i⟩:=ZrY a c;have:=k b i _ H ZaT ZfQ;rw[Bool.false_xor] at this;exact (b,e,this))
def ZtP:LR Z ZsI (Zto true):=(λp q A B f ⟨h⟩=>⟨λb e=>f _<|h b e⟩,λO H p q x y Q _ a c k=>by
 obtain ⟨k⟩:=k;obtain ⟨b,e,i⟩:=ZrY a c;have:=k b i _ H ZaT ZfQ;rw[Bool.true_xor] at this;exact (b,e,this))
def Zmq{κ:KX}{a:Nat->Nat->κ.F}{v:Nat->κ.F}{m D M:Nat}(e:m<=7)(d:∀i j,QN κ ((12:Nat):Int) 108<|a i j)(b:∀i,QN κ (D:Int) M<|v i)(c:0<D):∀k i,QN κ ((D*12^k:Nat):Int) (756^k*M)<|Rg.im a m v k i
 |0,i=>by show QN κ ((D*1:Nat):Int) (1*M) (v i);rw[Nat.mul_one,Wv];exact b i
 |k+1,i=>by
  refine QN.mono (Zgc (D:=((D*12^(k+1):Nat):Int)) (M:=108*(756^k*M)) (by have:=Q8 c<|Q9 (n:=k+1) (show 0<12 by decide);omega) m λj _=>?_) ?_
  ·have:=QN.mulN (d i j)<|Zmq e d b c k j
   rwa [show 12*(D*12^k)=D*12^(k+1) by rw[Qk 12 k,W3 12,Qm]] at this
  ·rw[Qk,W3 (756^k) 756,Qm,<-Qm m 108];exact Qq _ ⋯
inductive S_limage:ZF
 |mk {Q:PK'} {κ:KX} {R:ZZll κ} {c:ZZlk κ} {D M:Nat} (wd:Wid c.length R) (n7:R.length<=7) (c7:c.length<=7) (qR:AllR (QN κ ((12:Nat):Int) 108) R) (qc:∀x∈c,QN κ (D:Int) M x) (d0:0<D) (dl:D<=10^50) (ml:M<=10^160) (q:Q (nums κ (ZrI R c))):S_limage [.int κ.P,tab κ R,nums κ c] Q
def sc_l_image:FnScope ["_law_prime_here","_law_table","_law_column","_law_told","_law_row","_law_one","_law_j"] ["_law_prime_here","_law_table","_law_column"] (Zab Zfn):=‹2›
def z_limage(h:Here K mg "_law_image" Zfn) (T:Nm mg) (b:Fn P w K mg base Z "_law_make" 3 S_lmake) (d:Fn P w K mg base Z "_law_plus" 3 (S_lop λ_ x y=>x+y)) (a:Fn P w K mg base Z "_law_times" 3 (S_lop λ_ x y=>x*y)):Fn P w K mg base Z "_law_image" 4 S_limage:=by
 have n:=sc_l_image.nd;refine Za9 h (λ_ _ F=>F.b3 λ_ _ _ _ _ _ _ _ _=>rfl) sc_l_image (λps A B f ⟨G,O,H,J,C,I,S,Y,q⟩=>(G,O,H,J,C,I,S,Y,f _ q)) (λ_ _ ⟨_,_,_,_,_,_,_,_,_⟩=>rfl) (λ_ _ _ _ _ _ _ hr =>
  (Zae (ZcF 3 n<|Zdw Zdc)
  (Zae (Zby [4,5,6] (ZfT<|qv 1) (ZhL 4 n)<|Zae (Zat 5 n<|Zal b<|qa2 (qv 0) Zas)
   (Zae (Zby [6] (Zdx T.range<|ZaP T.len<|qv 2) (ZhL 6 n)<|Zak<|Zat 5 n<|Zal d<|qa3 (qv 0) (qv 5)<|Zal a<|qa3 (qv 0) (Zbs (qv 4)<|qv 6)<|Zbs (qv 2)<|qv 6)
   (Zak<|Zfz 3<|qv 5)))
  (Zak<|Zck 3<|ZaA<|qv 3)))) ∅ ?_
 rintro _ Q ⟨W,n7,c7,z,qc,s,dl,p,q⟩
 rename_i e R c D M
 have lc:=ZaB c;refine (by show 0<=1000;decide,λi t=>t=[some<|.val<|.int e.P,some<|.val<|tab e R,some<|.val<|nums e c,some<|.own<|((R.take i).map λr=>ZfL r c c.length).map<|num e,none,none,none],by rw[List.take_zero];rfl,?_,?_)
 ·rintro i _ _ L rfl;obtain ⟨r,g,rfl⟩:=mget L;have o:=Qd g;have lw:=W r o;have hi:i<R.length:=(Qp.mp g).1;refine (0,Zfv,⋯,⋯,?_);rw[show (((c.map<|num e).length:Int)).toNat=c.length by omega];refine (λj t=>t=[some<|.val<|.int e.P,some<|.val<|tab e R,some<|.val<|nums e c,some<|.own<|((R.take i).map λr=>ZfL r c c.length).map<|num e,some<|.val<|nums e r,some<|.val<|num e<|ZfL r c j,none],rfl,?_,?_)
  ·rintro j _ _ U rfl;obtain ⟨l,rfl⟩:=ZaO U;rw[Wk];have v:=z r o _<|Qd<|Zdf (show j<r.length by omega);have k:=qc _<|Qd<|Zdf l;have u:=ZgV (D:=((12:Nat):Int)) (E:=(D:Int)) (Wa ∅ ⋯) (z r o) qc j ⋯ ⋯;rw[<-W2] at u;have N:j*(108*M)<=7*(108*10^160):=Qj ⋯<|Qb _ p;have m:12*D<=10^200:=Q0 (Qb 12 dl) ∅;exact (_,ZbK ⋯,_,ZbK l,(ZbS ∅ ∅ ∅ v,ZbS s (Q0 dl ∅) (Q0 p ∅) k,(ZbS (Q8 ∅ s) m (Q0 N ∅) u,ZbS (Q8 ∅ s) m (Q0 (Qb 108 p) ∅)<|QN.mulN v k,rfl)))
  ·rintro _ rfl;rw[Zaz];refine (by rw[Q1,Q1,Qr];omega,?_);rw[List.take_add_one,g,Wh,Wh];rfl
 ·rintro _ rfl;rw[Q1,List.take_length];exact q
inductive S_lchain:ZF
 |mk {Q:PK'} {κ:KX} {A:ZZll κ} {v:ZZlk κ} {m n:Nat} (sq:A.length=m) (wd:Wid m A) (m7:m<=7) (n7:n<=7) (qA:AllR (Q12 κ) A) (lv:v.length=m) {D M:Nat} (qv:∀x∈v,QN κ (D:Int) M x) (d0:0<D) (d1:D<=10^40) (ml:M<=10^136) (q:Q (tab κ ((List.range (n+1)).map (imL A m v)))):S_lchain [.int κ.P,tab κ A,nums κ v,.int ((n+1:Nat):Int)] Q
def sc_l_chained:FnScope ["_law_prime_here","_law_table","_law_column","_law_many","_law_told"] ["_law_prime_here","_law_table","_law_column","_law_many"] (Zab ZdO):=‹2›
def z_lchain(h:Here K mg "_law_chained" ZdO) (T:Nm mg) (a:Fn P w K mg base Z "_law_image" 4 S_limage):Fn P w K mg base Z "_law_chained" 5 S_lchain:=by
  have L:=sc_l_chained.nd;refine Za9 h (λ_ _ F=>F.b4 λ_ _ _ _ _ _ _ _ _ _=>rfl) sc_l_chained (λU A B f ⟨o,H,s,E,k,y,J,O,u,c,q⟩=>(o,H,s,E,k,y,J,O,u,c,f _ q)) (λ_ _ ⟨_,_,_,_,_,_,_,_,_,_,_⟩=>rfl) (λ_ _ _ _ _ _ _ Y =>
    (Zae (ZcF 4 L<|Zdw<|qa1<|QL.toE<|Zjn T.list<|qv 2)
    (Zae (Zd8 [] (ZfK ZdW lb (Zf8 4 T.len)<|qv 3)<|Zak<|Zfz 4<|Zal a<|qa3 (qv 0) (qv 1)<|ZfS 4<|ZeQ Zbq li (Zf8 4 T.len) Zas)
    (Zak<|Zck 4<|ZaA<|qv 4)))) ∅ ?_
  rintro _ Q ⟨t,N,l,W,d,C,qv,g,p,x,q⟩
  rename_i b A v m n D M
  refine (by show 1<=1000; decide,λG R=>∃i,G=n+1-i/\1<=i/\i<=n+1/\R=[some<|.val<|.int b.P,some<|.val<|tab b A,some<|.val<|nums b v,some<|.val<|.int ((n+1:Nat):Int),some<|.own<|((List.range i).map<|imL A m v).map<|nums b],n,(1,⋯,⋯,⋯,by
    show _=[_,_,_,_,some<|Sl.own [nums b<|imL A m v 0]];rw[Ztg C]),?_)
  rintro _ _ ⟨i,rfl,i1,S,rfl⟩;have li:(((List.range i).map<|imL A m v).map<|nums b).length=i:=by rw[Q1,Q1,Qn]
  refine br (λz=>?_) λz=>?_
  · have e:atI (((List.range i).map<|imL A m v).map<|nums b) ((((List.range i).map<|imL A m v).map<|nums b).length-1:Int)=some (nums b<|imL A m v<|i-1):=by
      rw[li,show (i:Int)-1=((i-1:Nat):Int) by omega];exact ZdF (by rw[Q3,Q3,Qs ⋯]; rfl)
    have I:=Zdh A m v<|i-1;refine (_,e,S_limage.mk (D:=D*12^(i-1)) (M:=756^(i-1)*M) (by rw[I]; exact N) ⋯ ⋯ d (ZjD λr _=>Zmq l (λi j=>ZdC d i j) (λi=>ZcK qv i) g (i-1) r) (Q8 g<|Q9 ∅) (Q0 (Qj p<|Q5 ∅ (show i-1<=7 by omega)) ∅) (Q0 (Qj (Q5 ∅ (show i-1<=7 by omega)) x) ∅) (⋯,n-i,⋯,i+1,⋯,⋯,⋯,?_));rw[List.range_succ,Wh,Wh,<-ZnI t,show i-1+1=i by omega]; rfl
  · have e:i=n+1:=⋯
    subst e;exact q
end Zp
namespace My.Rg
section
variable{α:Type}[Lean.Grind.CommRing α]
def clS(a:Nat->Nat->α)(m:Nat)(v:Nat->α)(s:Ps α)(r t:Nat):(Vz a m v r*s).c (t+1)=Sg (λj=>a r j*(Vz a m v j*s).c t) m+s.c (t+1)*v r:=by
 rw[Ps.c_mul,ZbJ];have e:Sg (λi=>(Vz a m v r).c (i+1)*s.c (t+1-(i+1))) (t+1)=Sg (λj=>a r j*(Vz a m v j*s).c t) m:=by
  have b:∀i,(Vz a m v r).c (i+1)*s.c (t+1-(i+1))=Sg (λj=>a r j*im a m v i j*s.c (t-i)) m:=λi=>by
   rw[show t+1-(i+1)=t-i by omega];show Sg (λj=>a r j*im a m v i j) m*s.c (t-i)=_;have:=Sg_mul (s.c<|t-i) (λj=>a r j*im a m v i j) m;rw[show Sg (λj=>a r j*im a m v i j) m*s.c (t-i)=s.c (t-i)*Sg (λj=>a r j*im a m v i j) m by grind,this];exact Sg_congr λj _=>by grind
  rw[Sg_congr λi _=>b i,ZeA];refine Sg_congr λj _=>?_;rw[Ps.c_mul,Sg_mul];exact Sg_congr λi _=>by show a r j*im a m v i j*_=a r j*(im a m v i j*_);grind
 rw[e];show im a m v 0 r*s.c (t+1-0)+_=_;rw[Ul];show v r*_+_=_;grind
end
end My.Rg
namespace My
open PySem L2 PyProof.Rows
section
variable{κ:KX}
noncomputable def wS(A:ZZll κ)(m:Nat)(v:ZZlk κ)(s:Sr κ)(t:Nat):ZZlk κ:=(List.range m).map λr=>(Rg.Vz (ent A) m (vF v) r*s).c t
noncomputable def cuS(A:ZZll κ)(m:Nat)(v:ZZlk κ)(s:Sr κ):Nat->ZZlk κ
 |0=>List.replicate m 0
 |t+1=>wS A m v s t
def Zhb(A:ZZll κ)(m:Nat)(v:ZZlk κ)(s:Sr κ):∀i,(cuS A m v s i).length=m
 |0=>W8 ..
 |t+1=>Za1 _ _
def ZjI{A:ZZll κ}{m:Nat}{v:ZZlk κ}{s:Sr κ}(f:A.length=m)(w:Wid m A)(d:v.length=m)(i:Nat):List.zipWith (· + ·) (A.map λr=>Zh7 r<|cuS A m v s i) (v.map (s.c i * ·))=wS A m v s i:=by
 have a:(wS A m v s i).length=m:=Za1 _ _;refine ZcJ (by rw[a,Wx,Q1,Q1];omega) λj c=>?_;rw[Wx,Q1,Q1] at c;rw[Q2,Uq,Q3,Q3,Q6 (show j<A.length by omega),Q6 (show j<v.length by omega),show (wS A m v s i).getD j 0=_ from ZaM _ ⋯];show Zh7 A[j] (cuS A m v s i)+s.c i*v[j]=_;have e:v[j]=vF v j:=by
  show _=v.getD j 0;rw[Q2,Q6 ⋯];rfl
 rw[e];unfold Zh7;rw[Zg1,w _<|Qu _]
 cases i with
 |zero =>
  rw[Rg.Sg_congr (g:=λ_=>(0:κ.F)) λi _=>by
   rw[show (cuS A m v s 0).getD i 0=0 by
    show (List.replicate m (0:κ.F)).getD i 0=0;rw[Q2,Wq]
    split <;> rfl]
   grind,Rg.Sg_zero,Rg.Ps.c_mul]
  show 0+s.c 0*vF v j=0+vF v j*s.c 0;grind
 |succ t =>
  rw[Rg.clS]
  congr 1
  refine Rg.Sg_congr λi b=>?_;rw[ZjC (show j<A.length by omega),show (cuS A m v s<|t+1).getD i 0=_ from ZaM _ b]
def ZoP{A:ZZll κ}{m n:Nat}{v f:ZZlk κ}(a:f.length=n+1):wS A m v (sr f.reverse) n=(List.range m).map λr=>Rg.Sg (λi=>f.getD i 0*Rg.im (ent A) m (vF v) i r) f.length:=List.map_congr_left λr _=>by
 rw[Rg.Ps.c_mul,a];refine Rg.Sg_congr λi b=>?_;show Rg.im (ent A) m (vF v) i r*f.reverse.getD (n-i) 0=_;rw[Q2,U4 ⋯,<-Q2,show f.length-1-(n-i)=i by omega];grind
def Ztp{A:ZZll κ}{v:ZZlk κ}(t:Nat):wS A m v (sr (coL (Rg.chi m<|ent A)<|m+1).reverse) t=wL A m v t:=by
 have:sr (coL (Rg.chi m<|ent A)<|m+1).reverse=Rg.qz m (ent A):=Rg.Ps.ext λk=>by
  rw[Zp3,Zbj]
  by_cases h:k<m+1
  ·exact Ze0 _ h
  ·rw[Zah (by rw[ZaI];omega),Rg.qz_deg m _ ⋯]
 rw[this];rfl
def ZjJ{A:ZZll κ}{m:Nat}{v:ZZlk κ}{s:Sr κ}{D M:Nat}(h:A.length=m)(w:Wid m A)(g:v.length=m)(m7:m<=7)(q:AllR (Q12 κ) A)(o:∀k,QN κ ((1728:Nat):Int) (2^60)<|s.c k)(qv:∀x∈v,QN κ (D:Int) M x)(b:0<D):∀i,∀x∈cuS A m v s i,QN κ ((1728*D*12^i:Nat):Int) (2^60*M*768^i) x
 |0,x,a=>by rw[List.eq_of_mem_replicate a];exact QN.zero
 |i+1,x,a=>by
  have d:0<12^i:=Q9 ∅;have p:0<1728*D*12^i:=Q8 (Q8 ∅ b) d;have a:x∈wS A m v s i:=a;rw[<-ZjI h w g i] at a;obtain ⟨j,r,rfl⟩:=List.mem_iff_getElem.mp a;rw[Wx,Q1,Q1] at r;rw[List.getElem_zipWith,List.getElem_map,List.getElem_map];have e:=Qu (l:=A) (n:=j) ⋯;have f:=ZgV (D:=((12:Nat):Int)) (E:=((1728*D*12^i:Nat):Int)) (Wa ∅ ⋯) (q _ e) (ZjJ h w g m7 q o qv b i) (A[j]).length (Q4 _) (by rw[w _ e,Zhb];exact Q4 _);have t:=((o i).mulN<|qv _<|Qu (l:=v) (n:=j) ⋯).upN (c:=12^(i+1)) (Q8 ∅ b)<|Q9 ∅;rw[<-W2,show 12*(1728*D*12^i)=1728*D*12^(i+1) by rw[show 12^(i+1)=12^i*12 from Qk _ _];generalize 12^i=z;grind] at f;refine (f.add (by have:=Q8 (Q8 (show 0<1728 by decide) b)<|Q9 (n:=i+1) (show 0<12 by decide);omega) t).mono ?_;have u:(A[j]).length*(108*(2^60*M*768^i))<=756*(2^60*M*768^i):=by
   rw[w _ e];exact Q0 (Qq _ m7) (by generalize 2^60*M*768^i=z;omega)
  have B:2^60*M*12^(i+1)<=12*(2^60*M*768^i):=by
   rw[show 12^(i+1)=12^i*12 from Qk _ _,<-Qm,W3 _ 12];exact Qb 12<|Qb _<|U7 ∅ i
  rw[show 2^60*M*768^(i+1)=768*(2^60*M*768^i) by rw[show 768^(i+1)=768^i*768 from Qk _ _];generalize 768^i=z;generalize 2^60*M=y;grind];omega
end
end My
namespace Zp
open My
open PySem L2 PyProof.Rows
variable{Z:Zc}{X:Cx}{P:Program}{w:World}{K:ZZfg}{mg:ZZmg}{base:Heap}{cN:Addr}
abbrev ZjK(κ:KX)(x:κ.F):Prop:=QN κ ((1728:Nat):Int) (2^60) x
inductive S_cpart:ZF
 |mk {Q:PK'} {κ:KX} {F G:ZZlk κ} (mF:Mon F) (tG:Trm G) (l8:F.length<=8) (g8:G.length<=8) (lq:κ = .q->F.length<=4/\G.length<=4/\(F.length=4->G.length=4->F=G)) (qF:∀x∈F,ZjK κ x) (qG:∀x∈G,ZjK κ x)
  (q:∀r,(∃a b,Fs a/\Fs b/\sr r=sr F*a+sr G*b)->Mon r->(∃a c,Fs a/\Fs c/\sr F=a*sr r/\sr G=c*sr r)->r.length<=F.length->Q (nums κ r)):S_cpart [.kd κ,nums κ F,nums κ G] Q
def sc_common_part:FnScope ["kind","f","g","polys","upper","lower"] ["kind","f","g"] (Zab ZcB):=‹2›
def z_cpart(h:Here K mg "common_part" ZcB) (pc:Pc K mg Z.p) (hI:HasI P w K mg base Z.p 9 ["self","under"] (ZcL Z.p)) (j:Mt P w K mg base Z zKp "times" 10 Zsl) (g:Fn P w K mg base Z "bottom_factor" 10 S_botf) (i:Fn P w K mg base Z "common_row" 10 (ZjG<|ZjG λ_ _=>False)):Fn P w K mg base Z "common_part" 11 S_cpart:=by
 have t:=sc_common_part.nd;refine Za9 h (λ_ _ F=>F.b3 λ_ _ _ _ _ _ _ _ _=>rfl) sc_common_part (λps A B f ⟨a1,a2,a3,a4,a5,a6,a7,q⟩=>(a1,a2,a3,a4,a5,a6,a7,λr a b c d=>f _<|q r a b c d)) (λ_ _ ⟨_,_,_,_,_,_,_,_⟩=>rfl) (λ_ _ _ _ _ _ _ hr =>
  (Zae (Zat 3 t<|Zg8 hI pc.m<|qv 0)
  (Zae (Zat 4 t<|QL.toE<|Zdw<|qa1<|q_m j (qv 3)<|qa2 (Zal g<|qa2 (qv 0)<|qv 1)<|qv 1)
  (Zae (Zat 5 t<|QL.toE<|Zdw<|qa1<|q_m j (qv 3)<|qa2 (Zal g<|qa2 (qv 0)<|qv 2)<|qv 2)
  (Zak<|ZaA<|Zbs (Zal i<|qa3 (qv 0) (qv 4)<|qv 5) Zas))))) ∅ ?_
 rintro _ Q ⟨n,tG,l8,g8,T,S,E,q⟩
 rename_i m F G
 have H:∀ {x:m.F} {N:Nat},QN m 1 N x->∀u∈[x],QN m ((1:Nat):Int) N u:=λh u hu=>by rw[Qf.mp hu];exact h
 have s:=ZcM n;have J:=n.1;refine S_botf.mk S ∅ ∅ λy W qy o=>S_PtW.mk (F:=[y]) (G:=F) (D:=1) (by show 1<=90;decide) ⋯ (H qy) S ∅ ∅ ∅ ∅ ∅ ∅ λU tU eU I=>(by show 1<=1000;decide,?_);refine S_botf.mk E ∅ ∅ λz Y qz p=>S_PtW.mk (F:=[z]) (G:=G) (D:=1) (by show 1<=90;decide) ⋯ (H qz) E ∅ ∅ ∅ ∅ ∅ ∅ λL tL eL O=>(by show 1<=1000;decide,?_);have I:U.length<=1+F.length-1:=I;have O:L.length<=1+G.length-1:=O;have gU:=ZoK W s eU;have gL:=ZoK Y tG eL;have C:=ZrQ eU ⋯ o;have M:=ZrQ eL ⋯ p;have v:CrJ (sr F) (sr G) U L:=ZnN W Y tU tL rfl rfl eU eL;have l:∀R,CrP (sr F) (sr G) R->Q (nums m R):=λR k=>by
  rcases k.o with ⟨-,e,-⟩|⟨mo,a,c,fa,fc,ef,eg⟩
  ·rw[ZiP s e] at J;exact absurd J (by show ¬1<=0;decide)
  ·exact q R k.b mo (a,c,fa,fc,ef,eg) (ZfG mo s ⋯ fa ef)
 refine (λlt=>(λq=>⋯,λ_=>(sr F,sr G,v.swap,⋯,λe=>?_,M,C,λR k=>(_,rfl,l R k))),λle=>(sr F,sr G,v,⋯,λe=>?_,C,M,λR k=>(_,rfl,l R k)))
 ·have:=T e;exact .inl (⋯,⋯)
 ·obtain ⟨a,b,c⟩:=T e
  by_cases d:G.length<=3
  ·exact .inl (⋯,⋯)
  ·have:=c ⋯ ⋯;subst this;exact .inr (⋯,⋯,F,cn y,cn z,n,⋯,Fs.cn _,Fs.cn _,eU,eL)
def ZrZ{κ:KX}{A:ZZll κ}{m:Nat}{f:ZZlk κ}(h:m<=7)(w:Wid m A)(g:AllR (Q12 κ) A)(i:f.length=m){D M:Nat}(e:0<D)(dl:D<=10^100)(d:M<=10^200)(b:∀x∈f,QN κ (D:Int) M x):∀x∈A.map (λr=>Zh7 r f),B1 κ x:=λx c=>by
 obtain ⟨r,a,rfl⟩:=W5.mp c;have j:=w r a;have q:=ZgV (D:=((12:Nat):Int)) (E:=(D:Int)) (Wa ∅ ⋯) (g r a) b r.length (Q4 _) ⋯;rw[<-W2] at q;exact ZbS (Q8 ∅ e) (Q0 (Qb 12 dl) ∅) (Q0 (Qj (show r.length<=7 by omega)<|Qb 108 d) ∅) q
inductive S_climbed:ZF
 |mk {Q:PK'} {κ:KX} {f:ZZlk κ} {A:ZZll κ} {v:ZZlk κ} {m D M:Nat} (lA:A.length=m) (wA:Wid m A) (m1:1<=m) (m7:m<=7) (lv:v.length=m) (lf:f.length<=8) (qA:AllR (Q12 κ) A) (qf:∀x∈f,ZjK κ x) (qv:∀x∈v,QN κ (D:Int) M x) (d0:0<D) (d1:D<=10^50) (ml:M<=10^100) (q:Q (tab κ ((List.range f.length).map (wS A m v (sr f.reverse))))):S_climbed [.kd κ,nums κ f,tab κ A,nums κ v] Q
def sc_climbed:FnScope ["kind","f","A","column","current","columns","number"] ["kind","f","A","column"] (Zab Zfh):=‹2›
def z_climbed(h:Here K mg "climbed" Zfh) (Tr:mg "reversed"=none) (d:Mt P w K mg base Z zKd "number" 5 Snum) (b:Fn P w K mg base Z "plus_row" 5 Zgf) (e:Fn P w K mg base Z "image" 5 S_image) (a:Fn P w K mg base Z "scaled_row" 5 S_scaled_row):Fn P w K mg base Z "climbed" 6 S_climbed:=by
 have r:=sc_climbed.nd;refine Za9 h (λ_ _ F=>F.b4 λ_ _ _ _ _ _ _ _ _ _=>rfl) sc_climbed (λps A B f ⟨a1,a2,a3,a4,a5,a6,a7,a8,a9,G,C,N,q⟩=>(a1,a2,a3,a4,a5,a6,a7,a8,a9,G,C,N,f _ q)) (λ_ _ ⟨_,_,_,_,_,_,_,_,_,_,_,_,_⟩=>rfl) (λ_ _ _ _ _ _ _ hr =>
  (Zae (ZiG 4 "each" [(0,"kind")] r (ZfT<|qv 3) (by exact λ_ _ _ _=>(q_m d (qv 1)<|qa1 Zas)))
  (Zae (ZcF 5 r<|Zdw Zdc)
  (Zae (Zby [6] (Zrd Tr<|qv 1) (ZhL 6 r)<|Zae (Zat 4 r<|Zal b<|qa3 (qv 0) (Zal e<|qa3 (qv 0) (qv 2)<|qv 4)<|Zal a<|qa3 (qv 0) (qv 6)<|qv 3)
   (Zak<|Zfz 5<|qv 4))
  (Zak<|Zck 5<|ZaA<|qv 5))))) ∅ ?_
 rintro _ Q ⟨W,t,m1,Y,n,lf,J,S,qv,o,L,E,q⟩
 rename_i g f A v m D M
 have z:=ZjJ (s:=sr f.reverse) W t n Y J (λk=>by rw[Zbj];exact ZcK (λx j=>S x<|List.mem_reverse.mp j) k) qv o;have R:=Zhb A m v<|sr f.reverse;have cs:=ZjI (s:=sr f.reverse) W t n;generalize hs:sr f.reverse=s at *;refine ((List.replicate m (0:g.F)).map<|num g,by simp[n],by simp;omega,λi p u=>(0,Zfv,?_),?_)
 ·have O:=(Qp.mp u).1;rw[Q1,n] at O;show _=some (num g 0);rw[Q3,Wq,if_pos O];rfl
 refine (by show 0<=1000;decide,λi ρ=>ρ=[some<|.val<|.kd g,some<|.val<|nums g f,some<|.val<|tab g A,some<|.val<|nums g v,some<|.val<|nums g<|cuS A m v s i,some<|.own<|((List.range i).map<|wS A m v s).map<|nums g,none],rfl,?_,?_)
 ·rintro i _ _ u rfl;rw[<-List.map_reverse] at u;obtain ⟨c,I,rfl⟩:=mget u;have O:i<f.length:=by have:=(Qp.mp I).1;rwa [Wd] at this
  have ec:s.c i=c:=by rw[<-hs,Zbj,Q2,I];rfl
  have mc:=S c<|List.mem_reverse.mp<|Qd I;have H:12^i<=12^7:=Q5 ∅ ⋯;have l:768^i<=768^7:=Q5 ∅ ⋯;have e0:0<1728*D*12^i:=Q8 (Q8 ∅ o)<|Q9 ∅;have U:1728*D*12^i<=10^100:=Q0 (Qj (Qb 1728 L) H) ∅;have T:2^60*M*768^i<=10^200:=Q0 (Qj (Qb (2^60) E) l) ∅;have z:=z i;refine S_image.mk ⋯ (by rw[R];exact t) ⋯ (by rw[R];omega) J z ∅ ∅ e0 (Q0 U ∅) ∅ (Q0 T ∅)<|S_scaled_row.mk (ZbS ∅ ∅ ∅ mc) (λx j=>ZbS o (Q0 L ∅) (Q0 E ∅)<|qv x j) ⋯<|S_plus_rowW.mk (ZrZ Y t J (R i) e0 U T z) (λx j=>?_) (by rw[Q1];omega) ?_
  ·obtain ⟨y,hy,rfl⟩:=W5.mp j;exact ZbS (Q8 ∅ o) (Q0 (Qb 1728 L) ∅) (Q0 (Qb (2^60) E) ∅)<|QN.mulN mc<|qv y hy
  ·rw[<-ec,cs i];refine (by rw[Q1,Q1,Qn];omega,?_);rw[List.range_succ,Wh,Wh];rfl
 ·rintro _ rfl;rw[Wd,Q1];exact q
def Zqf{α:Type}{f:α->PV}(g:List α):ZgO (g.map f) none (some<|-1)=(g.take<|g.length-1).map f:=by
 unfold ZgO;rw[HT.sIx_none,List.drop_zero,Ul,Q1];have:HT.sIx g.length g.length (some<|-1)=g.length-1:=by
  simp only[HT.sIx]
  rw[if_pos ∅];omega
 rw[this,List.map_take]
noncomputable abbrev Chi{κ:KX}(A:ZZll κ)(m:Nat):ZZlk κ:=coL (Rg.chi m<|ent A)<|m+1
inductive S_tops:ZF
 |mk {Q:PK'} {κ:KX} {A:ZZll κ} {v:ZZlk κ} {m:Nat} (lA:A.length=m) (wA:Wid m A) (m1:1<=m) (m7:m<=7) (m3:κ = .q->m<=3) (lv:v.length=m) (qA:AllR (Q12 κ) A) (qv:∀x∈v,Q12 κ x) (q:∀Ts,TopL A m v Ts m->Q (tab κ Ts)):S_tops [.kd κ,nums κ (Chi A m),tab κ A,nums κ v] Q
def sc_tops_over:FnScope ["kind","f","A","column","rows"] ["kind","f","A","column"] (Zab ZdJ):=‹2›
def z_tops(h:Here K mg "tops_over" ZdJ) (T:Nm mg) (Tr:mg "reversed"=none) (c:Fn P w K mg base Z "turned" 6 S_turned) (b:Fn P w K mg base Z "climbed" 6 S_climbed) (a:Fn P w K mg base Z "trimmed" 6 Zca):Fn P w K mg base Z "tops_over" 7 S_tops:=by
 have nd:=sc_tops_over.nd;refine Za9 h (λ_ _ F=>F.b4 λ_ _ _ _ _ _ _ _ _ _=>rfl) sc_tops_over (λps A B f ⟨x,M,z,I,s,E,N,W,q⟩=>(x,M,z,I,s,E,N,W,λT t=>f _<|q T t)) (λ_ _ ⟨_,_,_,_,_,_,_,_,_⟩=>rfl) (λ_ _ _ _ _ _ _ R =>
  (Zae (Zat 4 nd<|Zal c<|qa1<|QL.toE<|Znk (Zal b<|qa4 (qv 0) (qv 1) (qv 2)<|qv 3) Znj<|Zly<|ZgQ Zas)
  (Zak<|ZaA<|QL.toE<|Zrs "numbers" [(0,"kind")] (ZfT<|qv 4) (by exact λ_ _ _ _=>(Zal a<|qa2 (qv 1)<|QL.toE<|ZlN T.list Tr<|qv 0))))) ∅ ?_
 rintro _ Q ⟨Y,D,p,y,o,G,l,qv,q⟩
 rename_i k A v m
 have H:(Chi A m).length=m+1:=ZaI _ _;refine S_climbed.mk Y D p y G ⋯ l (ZoN o l) qv ∅ ∅ ∅ ?_;show S_turned [.lst<|ZgO _ none<|some<|-1] _;rw[Zqf,Q1,Qn,H,Qz,<-List.map_take,List.take_range,show min m (m+1)=m by omega,List.map_congr_left λt _=>Ztp (A:=A) (v:=v) t];refine S_turned.mk (m:=m) (by rw[Q1,Qn];exact p) (by rw[Q1,Qn];omega) (λf u=>by obtain ⟨t,_,rfl⟩:=W5.mp u;exact ZrJ _ _ _ _) ⋯ ?_;refine (λi r=>∃d,r=d.map (nums k)/\TopL A m v d i,by rw[Q1,Q1,Qn];omega,([],rfl,rfl,λr R=>⋯),?_,?_)
 ·rintro i _ _ L-⟨d,rfl,e⟩;obtain ⟨g,S,rfl⟩:=mget L;obtain ⟨j,O,rfl⟩:=mget S;obtain ⟨n,rfl⟩:=Qp.mp O;rw[Qn] at n;rw[List.getElem_range,Zp7 A m v n];show Zca [.kd k,.lst ((Zh8 A m v i).map<|num k).reverse] _;rw[<-List.map_reverse];exact S_trimmedW.mk λr U J C=>(_,by rw[Wh];rfl,e.snoc o l qv U J C)
 ·rintro _ _ ⟨d,rfl,e⟩;rw[Q1,Q1,Qn] at e;exact q d e
inductive S_lwithin:ZF
 |mk {Q:PK'} {κ:KX} {A:ZZll κ} {v:ZZlk κ} {m:Nat} (lA:A.length=m) (wA:Wid m A) (m1:1<=m) (m7:m<=7) (m3:κ = .q->m<=3) (lv:v.length=m) (qA:AllR (Q12 κ) A) (qv:∀x∈v,Q12 κ x) (q:∀f,My.Ord (ent A) m (vF v) f->Q (nums κ f)):S_lwithin [.kd κ,tab κ A,nums κ (Chi A m),nums κ v] Q
def sc_least_within:FnScope ["kind","A","whole","column","shared","top"] ["kind","A","whole","column"] (Zab Zci):=‹2›
def Zqg{κ:KX}{F G a:ZZlk κ}(d:Mon F)(b:Mon G)(h:a.length=F.length+1-G.length)(l:G.length<=F.length)(e:sr F=sr a*sr G):Mon a:=by
 have g:=b.1;obtain ⟨n,hn⟩:∃n,a.length=n+1:=(F.length-G.length,⋯);obtain ⟨k,hk⟩:∃k,G.length=k+1:=(G.length-1,⋯);have t:=Zmf hn hk;have f:=d.2;have c:=b.2;rw[hk,Qz] at c;rw[<-e,Zbj,c,show n+k=F.length-1 by omega,f] at t;refine (⋯,?_);rw[hn,Qz];generalize a.getD n 0=y at *;grind
def Zh1{Q:PK'}{κ:KX}{F G:ZZlk κ}{e:Sr κ}(c:Mon F)(b:Mon G)(k:F.length<=8)(f:κ = .q->F.length<=4)(m:∀x∈F,ZjK κ x)(n:∀x∈G,ZjK κ x)(i:Fs e)(g:sr F=e*sr G)(q:∀h R,Mon h->sr F=sr h*sr G->h.length+G.length=F.length+1->Q (.tup [nums κ h,R])):S_divided [.kd κ,nums κ F,nums κ G] Q:=by
 have l:=ZfG b (ZcM c) (by have:=c.1;omega) i g;obtain ⟨D,E,M,N,o⟩:=Zp9 k f b m ⋯ n;refine S_divided.mk o b.1 λa p R r d=>?_;have j:=Zp8 b i g d.dv;have f:p.reverse.length=F.length+1-G.length:=by rw[Wd,d.dv.lq]
 exact q _ _ (Zqg c b f l j) j ⋯
def z_lwithin(h:Here K mg "least_within" Zci) (T:Nm mg) (b:Fn P w K mg base Z "tops_over" 11 S_tops) (a:Fn P w K mg base Z "common_part" 11 S_cpart) (l:Fn P w K mg base Z "divided" 11 S_divided):Fn P w K mg base Z "least_within" 12 S_lwithin:=by
 have I:=sc_least_within.nd;refine Za9 h (λ_ _ F=>F.b4 λ_ _ _ _ _ _ _ _ _ _=>rfl) sc_least_within (λps A B f ⟨a1,a2,a3,a4,a5,a6,a7,a8,q⟩=>(a1,a2,a3,a4,a5,a6,a7,a8,λT t=>f _<|q T t)) (λ_ _ ⟨_,_,_,_,_,_,_,_,_⟩=>rfl) (λ_ _ _ _ _ _ _ hr =>
  (Zae (Zat 4 I<|qv 2)
  (Zae (Zby [5] (ZfT<|Zal b<|qa4 (qv 0) (qv 2) (qv 1)<|qv 3) (ZhL 5 I)<|Zak<|ZdQ (ZfK Ze3 lb (ZaP T.len<|qv 4) Zas) (Zak<|Zat 4 I<|Zal a<|qa3 (qv 0) (qv 4)<|qv 5) Zb8)
  (Zak<|ZaA<|Zbs (Zal l<|qa3 (qv 0) (qv 2)<|qv 4) Zas)))) ∅ ?_
 rintro _ Q ⟨lA,wA,m1,m7,s,lv,D,qv,q⟩
 rename_i x A v m
 have u:Mon (Chi A m):=ZiR (ent A) m;have a0:(Chi A m).length=m+1:=ZaI _ _;have E:=ZoN (m:=m) s D;have L:=Zmg (ent A) m<|vF v;have H:=ZrR (ent A) m<|vF v;refine S_tops.mk lA wA m1 m7 s lv D qv λTs M=>?_;refine (λi ρ=>∃p,ρ=[some<|.val<|.kd x,some<|.val<|tab x A,some<|.val<|nums x<|Chi A m,some<|.val<|nums x v,some<|.val<|nums x p,none]/\Shd (sr<|Chi A m) (Rg.tpS (ent A) m<|vF v) i p/\p.length<=m+1,(Chi A m,rfl,(u,(1,Fs.one,by generalize sr (Chi A m)=c;grind),(λr hr=>⋯),Cmb.first _ _),⋯),?_,?_)
 ·rintro i _ _ hp ⟨p,rfl,d,ls⟩;obtain ⟨g,U,rfl⟩:=mget hp;have hi:i<m:=by have:=(Qp.mp U).1;rwa [M.1] at this
  obtain ⟨S,N,e3,W⟩:=M.2 i hi;have z:Ts.getD i []=g:=by rw[Q2,U];rfl
  rw[z] at S N e3 W;obtain ⟨O,n,o⟩:=d.d;have G:=Zml s D d.m n o;have l1:=ZaB p;refine br (λzz=>?_) λzz=>?_
  ·refine S_cpart.mk d.m N ⋯ ⋯ (λe=>by have:=s e;exact (⋯,⋯,λ_ _=>⋯)) G W λr hb mo hd lr=>(r,rfl,?_,⋯);obtain ⟨xa,xb,fa,fb,Y⟩:=hb;obtain ⟨ya,yc,y,J,C,z⟩:=hd;rw[S] at Y z;refine (mo,(O*ya,n.mul y,by rw[o,C];generalize sr r=c;grind),λj hj=>?_,d.c.step fa fb Y)
   by_cases q:j=i
   ·subst q;exact (yc,J,z)
   ·obtain ⟨e,fe,ee⟩:=d.t j ⋯;exact (e*ya,fe.mul y,by rw[ee,C];generalize sr r=c;grind)
  ·have l1:p.length=1:=by have:=d.m.1;omega
   refine (p,rfl,(d.m,d.d,λj hj=>?_,d.c.stay),ls)
   by_cases q:j=i
   ·subst q;have e:sr p=1:=by
     have t:=d.m.2;rw[l1] at t;have:sr p=cn 1:=Rg.Ps.ext λk=>by
      rw[ZrL,Zbj]
      cases k with
      |zero=>exact t
      |succ k=>rw[Zah ⋯,if_neg ⋯]
     rw[this,Zge]
    exact (_,(m,H j),by rw[e];generalize Rg.tpS (ent A) m (vF v) j=c;grind)
   ·exact d.t j ⋯
 ·rintro _ ⟨p,rfl,d,ls⟩;rw[Q1,M.1] at d;obtain ⟨O,n,o⟩:=d.d;refine Zh1 u d.m ⋯ (λe=>by have:=s e;omega) E (Zml s D d.m n o) n o λf R mf C lf=>?_;exact (_,rfl,q f<|Zmi L d C mf)
noncomputable def unR(κ:KX)(m j:Nat):ZZlk κ:=(List.range m).map λi=>if i=j then 1 else 0
inductive S_urow:ZF
 |mk {Q:PK'} {κ:KX} {m j:Nat} (m9:m<=1000) (q:Q (nums κ (unR κ m j))):S_urow [.kd κ,.int (m:Int),.int (j:Int)] Q
def sc_unit_row:FnScope ["kind","size","place"] ["kind","size","place"] (Zab Zej):=‹2›
def z_urow(h:Here K mg "unit_row" Zej) (T:Nm mg) (b:Mt P w K mg base Z zKd "number" 3 Snum):Fn P w K mg base Z "unit_row" 4 S_urow:=by
 have o:=sc_unit_row.nd;refine Za9 h (λ_ _ F=>F.b3 λ_ _ _ _ _ _ _ _ _=>rfl) sc_unit_row (λr A B f ⟨a,q⟩=>(a,f _ q)) (λ_ _ ⟨_,_⟩=>rfl) (λ_ _ _ _ _ _ _ n =>
  (Zak<|ZaA<|QL.toE<|Zh6 "column" [(0,"kind"),(2,"place")] (Zdx T.range<|qv 1) (by exact λ_ _ _ _=>(q_m b (qv 1)<|qa1<|ZsS (ZfK Zbr leq (qv 0)<|qv 2) Zas Zas)))) ∅ ?_
 rintro _ Q ⟨k,q⟩
 rename_i c m j
 refine (⋯,⋯,?_);rw[show ((m:Int)).toNat=m by omega];refine ((unR c m j).map<|num c,by rw[Q1,Zaz];exact Za1 _ _,by rw[Zaz];exact k,λi p l=>?_,q);obtain ⟨d,rfl⟩:=ZaO l;have e:∀x:c.F,x=(if i=j then 1 else 0)->((unR c m j).map<|num c)[i]?=some (num c x):=λx g=>by
  unfold unR;rw[List.map_map,Q3,Qs d,g];rfl
 refine br (λz=>(1,Zda,e _ ?_)) λz=>(0,Zfv,e _ ?_)
 ·rw[if_pos ⋯]
 ·rw[if_neg ⋯]
inductive S_imat:ZF
 |mk {Q:PK'} {κ:KX} {f:ZZlk κ} {A:ZZll κ} {v:ZZlk κ} {m D M:Nat} (lA:A.length=m) (wA:Wid m A) (m1:1<=m) (m7:m<=7) (lv:v.length=m) (l1:1<=f.length) (lf:f.length<=8) (qA:AllR (Q12 κ) A) (qf:∀x∈f,ZjK κ x) (qv:∀x∈v,QN κ (D:Int) M x) (d0:0<D) (d1:D<=10^50) (ml:M<=10^100) (q:Q (nums κ (cuS A m v (sr f.reverse) f.length))):S_imat [.kd κ,nums κ f,tab κ A,nums κ v] Q
def ZiV:FnScope ["kind","f","A","column"] ["kind","f","A","column"] (Zab Zel):=‹2›
def z_imat(h:Here K mg "image_at" Zel) (a:Fn P w K mg base Z "climbed" 6 S_climbed):Fn P w K mg base Z "image_at" 7 S_imat:=by
 refine Za9 h (λ_ _ F=>F.b4 λ_ _ _ _ _ _ _ _ _ _=>rfl) ZiV (λR A B f ⟨k,E,o,y,i,u,G,L,p,e,d,c,g,q⟩=>(k,E,o,y,i,u,G,L,p,e,d,c,g,f _ q)) (λ_ _ ⟨_,_,_,_,_,_,_,_,_,_,_,_,_,_⟩=>rfl) (λ_ _ _ _ _ _ _ S =>
  (Zak<|ZaA<|Zbs (Zal a<|qa4 (qv 0) (qv 1) (qv 2)<|qv 3)<|ZgQ Zas)) ∅ ?_
 rintro _ Q ⟨N,r,C,j,x,O,H,I,s,qv,J,l,t,q⟩
 rename_i b f A v m D M
 obtain ⟨n,hn⟩:∃n,f.length=n+1:=(f.length-1,⋯);refine S_climbed.mk N r C j x H I s qv J l t (_,?_,q);show atI _ (-1)=some (nums b<|cuS A m v (sr f.reverse) f.length);rw[hn];unfold atI;have z:ixN (((List.range<|n+1).map<|wS A m v<|sr f.reverse).map<|nums b).length (-1)=some n:=by rw[Q1,Q1,Qn];unfold ixN;rw[if_neg ⋯,if_pos ⋯];congr 1;omega
 rw[z];show (((List.range<|n+1).map<|wS A m v<|sr f.reverse).map<|nums b)[n]?=_;rw[Q3,Q3,Qs ⋯];rfl
structure Pwo {κ:KX} (F G I:ZZlk κ):Prop where
 m:Mon I
 l:I.length<=F.length
 c:Cp (sr I) (sr G)
 d:∃N:Sr κ,Fs N/\sr F=N*sr I/\∀t,Fs t->Cp t (sr G)->Cp t N
inductive S_pwo:ZF
 |mk {Q:PK'} {κ:KX} {F G:ZZlk κ} (mF:Mon F) (mG:Mon G) (l8:F.length<=8) (g8:G.length<=8) (lq:κ = .q->F.length<=4/\G.length<=4/\(F.length=4->G.length=4->F=G)) (sz:∀(h:ZZlk κ) e,Mon h->Fs e->sr F=e*sr h->∀x∈h,ZjK κ x) (qG:∀x∈G,ZjK κ x) (q:∀I,Pwo F G I->Q (nums κ I)):S_pwo [.kd κ,nums κ F,nums κ G] Q
inductive PwI {κ:KX} (F G:ZZlk κ) (mm:Nat):PSt->Prop
 |mk (f s:ZZlk κ) (e:mm=f.length) (m:Mon f) (l:f.length<=F.length) (l2:f.length=F.length->f=F) (d:∃N:Sr κ,Fs N/\sr F=N*sr f/\∀t,Fs t->Cp t (sr G)->Cp t N) (ms:Mon s) (b:∃a b,Fs a/\Fs b/\sr s=sr f*a+sr G*b) (o:∃a c,Fs a/\Fs c/\sr f=a*sr s/\sr G=c*sr s):PwI F G mm [some (.val (.kd κ)),some (.val (nums κ f)),some (.val (nums κ G)),some (.val (nums κ s))]
def sc_part_without:FnScope ["kind","f","g","shared"] ["kind","f","g"] (Zab Zcj):=‹2›
def ZiW{κ:KX}{s:ZZlk κ}(a:Mon s)(l:s.length<=1):sr s=1:=by
 have t:=a.2;have b:s.length=1:=by have:=a.1;omega
 rw[b] at t;have:sr s=cn 1:=Rg.Ps.ext λk=>by
  rw[ZrL,Zbj]
  cases k with
  |zero=>exact t
  |succ k=>rw[Zah ⋯,if_neg ⋯]
 rw[this,Zge]
def z_pwo(h:Here K mg "part_without" Zcj) (T:Nm mg) (b:Fn P w K mg base Z "common_part" 11 S_cpart) (d:Fn P w K mg base Z "divided" 11 S_divided):Fn P w K mg base Z "part_without" 12 S_pwo:=by
 have H:=sc_part_without.nd;refine Za9 h (λ_ _ F=>F.b3 λ_ _ _ _ _ _ _ _ _=>rfl) sc_part_without (λps A B f ⟨a1,a2,a3,a4,a5,a6,a7,q⟩=>(a1,a2,a3,a4,a5,a6,a7,λI i=>f _<|q I i)) (λ_ _ ⟨_,_,_,_,_,_,_,_⟩=>rfl) (λ_ _ _ _ _ _ _ hr =>
  (Zae (Zat 3 H<|Zal b<|qa3 (qv 0) (qv 1)<|qv 2)
  (Zae (Zd8 [] (ZfK Ze3 lb (ZaP T.len<|qv 3) Zas)<|Zae (Zat 1 H<|Zbs (Zal d<|qa3 (qv 0) (qv 1)<|qv 3) Zas)
   (Zak<|Zat 3 H<|Zal b<|qa3 (qv 0) (qv 1)<|qv 2))
  (Zak<|ZaA<|qv 1)))) ∅ ?_
 rintro _ Q ⟨J,mG,l8,Y,W,p,qG,q⟩
 rename_i κ F G
 have one:sr F=1*sr F:=by generalize sr F=x;grind
 refine S_cpart.mk J (ZcM mG) l8 Y W (p F 1 J Fs.one one) qG λs r j hd ls=>?_;refine (PwI F G,F.length,(F,s,rfl,J,Q4 _,λ_=>rfl,(1,Fs.one,one,λt L _=>(0,1,Fs.zero,Fs.one,by grind)),j,r,hd),?_);clear r hd ls j;rintro _ _ ⟨f,s,rfl,m,lf,l2,⟨N,l,o,cN⟩,j,r,⟨a,c,v,fc,E,eg⟩⟩;have l1:=ZaB s;have ls:=ZfG j (ZcM m) (by have:=m.1;omega) v E;refine br (λzz=>?_) λzz=>?_
 ·refine Zh1 m j ⋯ (λe=>by have:=W e;omega) (p f N m l o) (p s (N*a) j (l.mul v) (by rw[o,E];generalize sr s=x;grind)) v E λk R g O a8=>(_,rfl,?_);have lt:k.length<f.length:=⋯;have n:sr F=N*sr s*sr k:=by rw[o,O];generalize sr s=x;generalize sr k=y;grind
  refine S_cpart.mk g (ZcM mG) ⋯ Y (λe=>by have:=W e;exact (⋯,⋯,λ_ _=>⋯)) (p k (N*sr s) g (l.mul<|Fs.sr _) n) qG λs' C S D a0=>(k.length,lt,(k,s',rfl,g,⋯,λe=>⋯,(N*sr s,l.mul<|Fs.sr _,n,λt L ct=>?_),S,C,D));refine ((cN t L ct).symm.mul (Cp.symm ?_) l (Fs.sr _) L).symm;obtain ⟨x,y,U,M,e⟩:=ct;exact (x,y*c,U,M.mul fc,by rw[e,eg];generalize sr s=z;grind)
 ·obtain ⟨x,y,U,M,e⟩:=r;rw[ZiW j ⋯] at e;exact q f (m,lf,(x,y,U,M,by rw[e];generalize sr f=z;generalize sr G=u;grind),N,l,o,cN)
def Zqh{κ:KX}{F G T:ZZlk κ}(a:Mon F)(b:Mon G)(e:sr T=sr F*sr G)(l:T.length<=F.length+G.length-1):Mon T:=by
 have f:=a.1;have g:=b.1;obtain ⟨n,hn⟩:∃n,F.length=n+1:=(F.length-1,⋯);obtain ⟨k,hk⟩:∃k,G.length=k+1:=(G.length-1,⋯);have t:=Zmf hn hk;have c:=a.2;have d:=b.2;rw[hn,Qz] at c;rw[hk,Qz] at d;rw[<-e,Zbj,c,d] at t;have t:T.getD (n+k) 0=1:=by rw[t];grind
 have h:n+k<T.length:=Nat.lt_of_not_le λq=>by
  rw[Zah q] at t;exact Zcl t.symm
 exact (⋯,by rw[show T.length-1=n+k by omega];exact t)
def Zr0{κ:KX}{F G:ZZlk κ}(l:F.length=G.length)(e:sr F=sr G):F=G:=ZcJ l λj _=>Zth e j
def SzC(κ:KX)(i:Nat)(x:κ.F):Prop:=QN κ ((12^(8*i):Nat):Int) (2^(150*i)) x
def SzC.use{κ:KX}{c:ZZlk κ}(h:∀x∈c,SzC κ i x)(a:κ = .q->i<=2):∃D M:Nat,0<D/\D<=10^50/\M<=10^100/\(∀x∈c,QN κ (D:Int) M x)/\(κ = .q->D=12^(8*i)/\M=2^(150*i)):=by
 cases κ with
 |r p b=>exact (1,1,∅,∅,∅,λ_ _=>trivial,λe=>nomatch e)
 |q =>
  have:=a rfl;exact (12^(8*i),2^(150*i),Q9 ∅,Q0 (Q5 ∅ (show 8*i<=16 by omega)) ∅,Q0 (Q5 ∅ (show 150*i<=300 by omega)) ∅,h,λ_=>(rfl,rfl))
def SzC.up{κ:KX}{x:κ.F}(h:SzC κ i x):SzC κ (i+1) x:=by
 have:=QN.upN (c:=12^8) (Q9 ∅) ∅ h;rw[<-W4] at this;refine QN.mono this ?_;rw[show 150*(i+1)=150*i+150 by omega,W4 2<|150*i];exact Qb _ ∅
def SzC.step{i n k D M:Nat}{x y:(KX.q).F}(eD:D=12^(8*i))(h:M=2^(150*i))(j:n<=4)(r:k<=4)(d:QN .q ((1728*D*12^n:Nat):Int) (2^60*M*768^n) x)(s:QN .q ((1728*12*12^k:Nat):Int) (2^60*108*768^k) y):SzC .q (i+1) (x+y):=by
 subst eD h;have a:=QN.upN (c:=12^(5-n)) (Q8 (Q8 ∅<|Q9 ∅)<|Q9 ∅) (Q9 ∅) d;have b:=QN.upN (c:=12^(8*i+4-k)) (Q8 ∅<|Q9 ∅) (Q9 ∅) s;have e:1728*12^(8*i)*12^n*12^(5-n)=12^(8*(i+1)):=by
  rw[show (1728:Nat)=12^3 from rfl,<-W4,<-W4,<-W4]
  congr 1;omega
 have p:1728*12*12^k*12^(8*i+4-k)=12^(8*(i+1)):=by
  rw[show (1728*12:Nat)=12^4 from rfl,<-W4,<-W4]
  congr 1;omega
 rw[e] at a;rw[p] at b;refine QN.mono (a.add (by have:=Q9 (n:=8*(i+1)) (show 0<12 by decide);omega) b) ?_;have q:768^n<=768^4:=Q5 ∅ j;have l:768^k<=768^4:=Q5 ∅ r;have f:12^(5-n)<=12^5:=Q5 ∅ ⋯;have m:12^(8*i+4-k)<=12^4*2^(150*i):=by
  refine Q0 (Q5 ∅ (show 8*i+4-k<=4+8*i by omega)) ?_;rw[W4,Nat.pow_mul,Nat.pow_mul];exact Qb _<|U7 ∅ i
 have o:2^60*2^(150*i)*768^n*12^(5-n)<=2^149*2^(150*i):=by
  refine Q0 (Qj (Qb _ q) f) ?_;rw[W3<|2^60,Qm,Qm,W3<|2^149];exact Qb _ ∅
 have g:2^60*108*768^k*12^(8*i+4-k)<=2^149*2^(150*i):=by
  refine Q0 (Qj (Qb _ l) m) ?_;rw[<-Qm];exact Qq _ ∅
 rw[show 150*(i+1)=150+150*i by omega,W4 2 150,show (2:Nat)^150=2^149+2^149 from rfl,Nat.add_mul];exact Nat.add_le_add o g
abbrev frs(κ:KX)(f:ZZlk κ):PV:=.fr<|f.map<|num κ
structure TbK (κ:KX) (A:ZZll κ) (m:Nat):Prop where
 l:A.length=m
 w:Wid m A
 m1:1<=m
 m7:m<=7
 m3:κ = .q->m<=3
 q:AllR (Q12 κ) A
def TbK.sz{κ:KX}{A:ZZll κ}(t:TbK κ A m){v:Nat->κ.F}{f h:ZZlk κ}{e:Sr κ}(o:My.Ord (ent A) m v f)(b:Mon h)(d:Fs e)(g:sr f=e*sr h):∀x∈h,ZjK κ x:=by
 obtain ⟨i,a,c⟩:=o.chi;exact Zml t.m3 t.q b (a.mul d) (by rw[c,g];generalize sr h=x;grind)
inductive S_joined:ZF
 |mk {Q:PK'} {κ:KX} {A:ZZll κ} {m i:Nat} {f c g e:ZZlk κ} (t:TbK κ A m) (hf:My.Ord (ent A) m (vF c) f) (hg:My.Ord (ent A) m (vF e) g) (lf:f.length<=m) (lc:c.length=m) (le:e.length=m) (qc:∀x∈c,SzC κ i x) (i3:κ = .q->i<=2) (qe:∀x∈e,Q12 κ x)
  (q:∀F u,My.Ord (ent A) m (vF u) F->u.length=m->(∀x∈u,SzC κ (i+1) x)->(∃s,Fs s/\sr F=s*sr f)->(∃s,Fs s/\sr F=s*sr g)->Q (.tup [frs κ F,frs κ u])):S_joined [.kd κ,tab κ A,.tup [frs κ f,frs κ c],.tup [nums κ g,nums κ e]] Q
def sc_joined:FnScope ["kind","A","one","other","more","idle","needed","left","right"] ["kind","A","one","other"] (Zab Zgw):=‹2›
def z_joined(h:Here K mg "joined" Zgw) (T:Nm mg) (pc:Pc K mg Z.p) (hI:HasI P w K mg base Z.p 11 ["self","under"] (ZcL Z.p)) (W:Mt P w K mg base Z zKp "times" 12 (S_PtW .fr)) (d:Fn P w K mg base Z "divided" 12 S_divided) (E:Fn P w K mg base Z "common_part" 12 S_cpart) (C:Fn P w K mg base Z "part_without" 12 S_pwo) (o:Fn P w K mg base Z "image_at" 12 S_imat) (J:Fn P w K mg base Z "plus_row" 12 (S_plus_rowW .fr)):Fn P w K mg base Z "joined" 13 S_joined:=by
 have O:=sc_joined.nd;refine Za9 h (λ_ _ F=>F.b4 λ_ _ _ _ _ _ _ _ _ _=>rfl) sc_joined (λps A B f ⟨a1,a2,a3,a4,a5,a6,a7,a8,a9,q⟩=>(a1,a2,a3,a4,a5,a6,a7,a8,a9,λF u b1 b2 b3 b4 b5=>f _<|q F u b1 b2 b3 b4 b5)) (λ_ _ ⟨_,_,_,_,_,_,_,_,_,_⟩=>rfl) (λ_ _ _ _ _ _ _ hr =>
  (Zae (Zat 4 O<|Zbs (Zal d<|qa3 (qv 0) (Zbs (qv 3) Zas)<|Zal E<|qa3 (qv 0) (ZpM<|Zbs (qv 2) Zas)<|Zbs (qv 3) Zas) Zas)
  (Zae (ZdQ (ZfK Zbr leq (ZaP T.len<|qv 4) Zas) (Zak<|ZaA<|qv 2) Zb8)
  (Zae (Zat 5 O<|Zal C<|qa3 (qv 0) (Zbs (qv 3) Zas)<|qv 4)
  (Zae (Zat 6 O<|Zbs (Zal d<|qa3 (qv 0) (Zbs (qv 3) Zas)<|qv 5) Zas)
  (Zae (Zat 7 O<|Zal o<|qa4 (qv 0) (Zbs (Zal d<|qa3 (qv 0) (qv 6)<|qv 4) Zas) (qv 1)<|ZpM<|Zbs (qv 2) Zas)
  (Zae (Zat 8 O<|Zal o<|qa4 (qv 0) (qv 5) (qv 1)<|Zbs (qv 3) Zas)
  (Zak<|ZaA<|Zlx<|qa2 (q_m W (Zg8 hI pc.m<|qv 0)<|qa2 (ZpM<|Zbs (qv 2) Zas)<|qv 4)<|Zal J<|qa3 (qv 0) (qv 7)<|qv 8)))))))) ∅ ?_
 rintro _ Q ⟨t,hf,U,lf,lc,le,qc,i3,qe,q⟩
 rename_i κ A m i f c g e
 have one:∀x:Sr κ,x=1*x:=λx=>by grind
 have qf:=t.sz hf hf.mo Fs.one<|one _;have qg:=t.sz U U.mo Fs.one<|one _;have lg:=U.len;have m7:=t.m7;refine (_,rfl,_,rfl,_,rfl,?_);refine S_cpart.mk hf.mo (ZcM U.mo) ⋯ ⋯ (λe=>by have:=t.m3 e;exact (⋯,⋯,λ_ _=>⋯)) qf qg λh hb mh hd lh=>?_;obtain ⟨a,b,fa,fb,ef,eg⟩:=hd;have qh:=t.sz hf mh fa ef;refine Zh1 U.mo mh ⋯ (λe=>by have:=t.m3 e;omega) qg qh fb eg λS R mm em lm=>(_,rfl,?_);have l1:=ZaB S;refine br (λzz=>?_) λzz=>?_
 ·refine q f c hf lc (λx hx=>(qc x hx).up) (1,Fs.one,one _) (a,fa,?_);have:sr S=1:=ZiW mm ⋯;rw[ef,em,this];generalize sr h=x;grind
 have a0:=t.sz U mm (Fs.sr h) (by rw[em];generalize sr h=x;generalize sr S=y;grind);have h1:=mh.1;refine (_,rfl,S_pwo.mk U.mo mm ⋯ ⋯ (λe=>by
  have:=t.m3 e;refine (⋯,⋯,λl4 c6=>Zr0 ⋯ ?_);rw[em,ZiW mh ⋯];generalize sr S=y;grind) (λh' e' c4 c3 c5=>t.sz U c4 c3 c5) a0 λI pw=>?_)
 obtain ⟨mI,lI,cI,N,fN,eN,cN⟩:=pw;refine (_,rfl,Zh1 U.mo mI ⋯ (λe=>by have:=t.m3 e;omega) qg (t.sz U mI fN eN) fN eN λO R c0 H c7=>(_,rfl,?_));have c1:N=sr O:=ZbG mI fN (Fs.sr _) (by rw[<-eN,H]);have c2:=t.sz U c0 (Fs.sr I) (by rw[H];generalize sr I=x;generalize sr O=y;grind);obtain ⟨x,y,fx,fy,b8⟩:=cI;have ek:sr O=(x*sr h+y*sr O)*sr S:=by
  have e1:sr O=(x*sr I+y*sr S)*sr O:=by rw[<-b8];exact one _
  have e2:sr O*sr I=sr S*sr h:=by rw[<-H,em]
  conv=>lhs;rw[e1]
  generalize sr O=p at *;generalize sr I=r at *;generalize sr S=s at *;generalize sr h=v at *;have:(x*r+y*s)*p=x*(p*r)+y*p*s:=by grind
  rw[this,e2];grind
 have I1:=mI.1;refine Zh1 c0 mm ⋯ (λe=>by have:=t.m3 e;omega) c2 a0 ((fx.mul<|Fs.sr h).add<|fy.mul<|Fs.sr O) ek λk R' mk b7 lk=>(_,rfl,_,rfl,?_);have qk:=t.sz U mk ((Fs.sr I).mul<|Fs.sr S) (by rw[H,b7];generalize sr I=x;generalize sr S=y;generalize sr k=z;grind);have qI:=t.sz U mI fN eN;obtain ⟨D,M,d0,d1,ml,b0,b6⟩:=SzC.use qc i3;have k1:=mk.1;have c8:=mm.1;refine S_imat.mk t.l t.w t.m1 t.m7 lc k1 ⋯ t.q qk b0 d0 d1 ml (_,rfl,S_imat.mk t.l t.w t.m1 t.m7 le I1 ⋯ t.q qI qe ∅ ∅ ∅ ?_);have lL:=Zhb A m c (sr k.reverse) k.length;have lR:=Zhb A m e (sr I.reverse) I.length;have rv:∀(l:ZZlk κ),(∀x∈l,ZjK κ x)->∀j,ZjK κ ((sr l.reverse).c j):=λl h j=>by rw[Zbj];exact ZcK (λx hx=>h x<|List.mem_reverse.mp hx) j
 have sL:=ZjJ (s:=sr k.reverse) t.l t.w lc t.m7 t.q (rv k qk) b0 d0 k.length;have sR:=ZjJ (s:=sr I.reverse) t.l t.w le t.m7 t.q (rv I qI) qe ∅ I.length;have eL:cuS A m c (sr k.reverse) k.length=(List.range m).map λr=>Rg.Sg (λi=>k.getD i 0*Rg.im (ent A) m (vF c) i r) k.length:=by
  obtain ⟨n,hn⟩:∃n,k.length=n+1:=(k.length-1,⋯);rw[<-ZoP (A:=A) (v:=c) hn,hn];rfl
 have eR:cuS A m e (sr I.reverse) I.length=(List.range m).map λr=>Rg.Sg (λi=>I.getD i 0*Rg.im (ent A) m (vF e) i r) I.length:=by
  obtain ⟨n,hn⟩:∃n,I.length=n+1:=(I.length-1,⋯);rw[<-ZoP (A:=A) (v:=e) hn,hn];rfl
 have b9:∀n,n<=8->12^n<=12^8:=λn h=>Q5 ∅ h;have Y:∀n,n<=8->768^n<=768^8:=λn h=>Q5 ∅ h;have bL:∀x∈cuS A m c (sr k.reverse) k.length,B1 κ x:=λx hx=>ZbS (Q8 (Q8 ∅ d0)<|Q9 ∅) (Q0 (Qj (Qb 1728 d1)<|b9 _ ⋯) ∅) (Q0 (Qj (Qb (2^60) ml)<|Y _ ⋯) ∅)<|sL x hx;have bR:∀x∈cuS A m e (sr I.reverse) I.length,B1 κ x:=λx hx=>ZbS (Q8 ∅<|Q9 ∅) (Q0 (Qb (1728*12)<|b9 _ ⋯) ∅) (Q0 (Qb (2^60*108)<|Y _ ⋯) ∅)<|sR x hx;generalize cuS A m c (sr k.reverse) k.length=L at *;generalize cuS A m e (sr I.reverse) I.length=Rr at *;refine (_,rfl,?_);refine S_PtW.mk (F:=f) (G:=S) ⋯ ⋯ qf a0 ∅ ∅ ∅ ∅ ∅ ∅ λF tF eF lF=>?_;have mF:=Zqh hf.mo mm eF lF;refine S_plus_rowW.mk bL bR ⋯ ?_;have gu:∀r,r<m->(List.zipWith (· + ·) L Rr).getD r 0=L.getD r 0+Rr.getD r 0:=λr hr=>by
  rw[Q2,Uq,Q2,Q2,Q6 (show r<L.length by omega),Q6 (show r<Rr.length by omega)];rfl
 refine (by show 2<=1000;decide,?_);refine q F (List.zipWith (· + ·) L Rr) (hf.join U mh hb (a,fa,ef) em mm H mI (x,y,fx,fy,b8) (λt ft ct=>by rw[<-c1];exact cN t ft ct) b7 mk eF mF λr hr=>?_) (by rw[Wx];omega) (λz hz=>?_) (sr S,Fs.sr _,by rw[eF];generalize sr S=x;generalize sr f=y;grind) (a,fa,?_)
 ·show (List.zipWith (· + ·) L Rr).getD r 0=_;rw[gu r hr,eL,eR,ZaM _ hr,ZaM _ hr]
 ·obtain ⟨j,hj,rfl⟩:=List.mem_iff_getElem.mp hz;rw[Wx] at hj;rw[List.getElem_zipWith];have z1:=sL _<|Qu (l:=L) (n:=j) ⋯;have z2:=sR _<|Qu (l:=Rr) (n:=j) ⋯;generalize L[j]=x1 at *;generalize Rr[j]=x2 at *
  cases κ with
  |r p hp=>exact trivial
  |q =>
   have:=t.m3 rfl;exact SzC.step (b6 rfl).1 (b6 rfl).2 ⋯ ⋯ z1 z2
 ·rw[eF,ef,em];generalize sr S=x;generalize sr h=y;grind
inductive LaS {κ:KX} (A:ZZll κ) (Q:PK'):Int->Prop
 |mk {m j:Nat} (t:TbK κ A m) (hj:j<m) (q:∀f,My.Ord (ent A) m (vF (unR κ m j)) f->Q (nums κ f)):LaS A Q (j:Int)
abbrev zLa(i:Nat)(te:ZE):ZE:=λa Q=>match sget a i with
 |some (.val<|.la _ A)=>te a λp=>Zf7 p λj=>LaS A Q j
 |_=>False
def ZoQ(P:Program)(w:World)(K:ZZfg)(mg:ZZmg)(base:Heap)(Z:Zc)(k:Nat):Prop :=
 ∀(X:Cx) (i:Nat) (x:Str) (e:Expr) (b:ZE) (p a:Pos),X.prog=P->X.w=w->X.K=K->X.mg=mg->X.base=base->Room k X.A->X.N[i]?=some x->Vis X.env.scope x->(x==("__debug__":Str))=false->(x==("__classdict__":Str))=false->starEach [e] X.env=[(false,eval e X.env)]->QE Z X e b->QE Z X (.Call (.Name x p) [e] [] a) (zLa i b)
structure FinK {κ:KX} (A:ZZll κ) (m:Nat) (F u:ZZlk κ):Prop where
 o:My.Ord (ent A) m (vF u) F
 l:u.length=m
 s:∀x∈u,SzC κ m x
 k:∀j,j<m->Kn (ent A) m λr=>Rg.Ps.con (vF (unR κ m j) r)*sr F
inductive S_gathered:ZF
 |mk {Q:PK'} {κ:KX} {A:ZZll κ} {m:Nat} (t:TbK κ A m) (q:∀F u,FinK A m F u->Q (.tup [frs κ F,frs κ u])):S_gathered [.kd κ,tab κ A,.int ((m+1:Nat):Int),.la κ A] Q
def sc_gathered:FnScope ["kind","A","bound","least_at","found","place"] ["kind","A","bound","least_at"] (Zab Zem):=‹2›
def ZiX(κ:KX)(m j:Nat):(unR κ m j).length=m:=Za1 _ _
def Zqi(κ:KX)(m j:Nat):∀x∈unR κ m j,Q12 κ x:=ZjD λi _=>by
 split
 ·exact Znr
 ·exact QN.zero
def z_gathered(h:Here K mg "gathered" Zem) (T:Nm mg) (N:ZoQ P w K mg base Z 13) (a:Mt P w K mg base Z zKd "number" 13 Snum) (l:Fn P w K mg base Z "joined" 13 S_joined) (d:Fn P w K mg base Z "unit_row" 13 S_urow):Fn P w K mg base Z "gathered" 14 S_gathered:=by
 have G:=sc_gathered.nd;refine Za9 h (λ_ _ F=>F.b4 λ_ _ _ _ _ _ _ _ _ _=>rfl) sc_gathered (λps A B f ⟨t,q⟩=>(t,λF u k=>f _<|q F u k)) (λ_ _ ⟨_,_⟩=>rfl) (λ_ _ _ _ _ _ _ E =>
  (Zae (Zat 4 G<|Zlx<|qa2 (Zsg 0<|Zdw<|qa1<|q_m a (qv 0)<|qa1 Zas)<|Zsg 0<|Zh6 "row" [(0,"kind")] (ZfT<|qv 1) (by exact λ_ _ _ _=>(q_m a (qv 1)<|qa1 Zas)))
  (Zae (Zby [5] (Zdx T.range<|ZaP T.len<|qv 1) (ZhL 5 G)<|Zak<|ZdQ (ZfK ZdW lb (ZaP T.len<|ZpM<|Zbs (qv 4) Zas)<|qv 2) (Zak<|Zat 4 G<|Zal l<|qa4 (qv 0) (qv 1) (qv 4)<|Zlx<|qa2 (N _ 3 _ _ _ _ _ rfl rfl rfl rfl rfl E rfl (.inl rfl) ∅ ∅ rfl<|qv 5)<|Zal d<|qa3 (qv 0) (ZaP T.len<|qv 1)<|qv 5) Zb8)
  (Zak<|ZaA<|qv 4)))) ∅ ?_
 rintro _ Q ⟨t,q⟩
 rename_i b A m
 have m7:=t.m7;have C:=t.l;refine (1,Zda,by show 1<=1000;decide,(List.replicate m (0:b.F)).map<|num b,by rw[Q1,Q1,W8,C],by rw[Q1];omega,λi p D=>(0,Zfv,?_),by show 2<=1000;decide,?_)
 ·have s:=(Qp.mp D).1;rw[Q1,C] at s;show _=some (num b 0);rw[Q3,Wq,if_pos s];rfl
 have J:=Q1 (nums b) (as:=A);refine (⋯,⋯,?_);rw[show (((A.map<|nums b).length:Int)).toNat=m by omega];refine (λi Y=>∃f c,Y=[some<|.val<|.kd b,some<|.val<|tab b A,some<|.val<|.int ((m+1:Nat):Int),some<|.val<|.la b A,some<|.val<|.tup [frs b f,frs b c],none]/\My.Ord (ent A) m (vF c) f/\c.length=m/\(∀x∈c,SzC b i x)/\∀j,j<i->Kn (ent A) m λr=>Rg.Ps.con (vF (unR b m j) r)*sr f,([1],List.replicate m 0,rfl,ZnR λr E=>?_,W8,λx z=>by rw[List.eq_of_mem_replicate z];exact QN.zero,λj I=>⋯),?_,?_)
 ·show (List.replicate m (0:b.F)).getD r 0=0;rw[Q2,Wq,if_pos E];rfl
 ·rintro i _ _ D ⟨f,c,rfl,n,o,qc,v⟩;obtain ⟨s,rfl⟩:=ZaO D;rw[Wk];have l2:=ZaB f;refine (_,rfl,br (λO=>?_) λO=>?_)
  ·refine LaS.mk t s λg H=>?_;show S_urow [.kd b,.int ((A.map<|nums b).length:Int),.int (i:Int)] _;rw[J,C];refine S_urow.mk ⋯ (by show 2<=1000;decide,?_);refine S_joined.mk t n H ⋯ o (ZiX _ _ _) qc (λe=>by have:=t.m3 e;omega) (Zqi _ _ _) λF u L M U ⟨s1,W,S⟩ ⟨s2,f2,R⟩=>(F,u,rfl,L,M,U,λj I=>?_)
   by_cases ji:j=i
   ·subst ji;exact (H.k.mul f2).cong λr _=>by rw[R];generalize sr g=x;generalize Rg.Ps.con (vF (unR b m j) r)=y;grind
   ·exact ((v j ⋯).mul W).cong λr _=>by rw[S];generalize sr f=x;generalize Rg.Ps.con (vF (unR b m j) r)=y;grind
  ·have ll:=n.len;exact (f,c,rfl,n,o,λx z=>(qc x z).up,λj I=>n.all ⋯)
 ·rintro _ ⟨f,c,rfl,n,o,qc,v⟩;rw[Zaz] at qc v;exact q f c (n,o,qc,v)
def Mx(H b:Hp):Prop:=∀a o,(∀c,o ≠ .ext c)->H a=some o->b a=some o
section
variable{Z Z':Zc}{H H':Hp}{κ:KX}{v:V}
def ZoR(M:Mx H H'){x:κ.F}(h:Rep Z H (num κ x) v):Rep Z' H' (num κ x) v:=by
 unfold num at *
 cases κ with
 |r p g=>rw[Zax h];exact rep_i
 |q =>
  have h:Rep Z H (.tup [.int<|Rat.num x,.int ((Rat.den x:Nat):Int)]) v:=h;show Rep Z' H' (.tup [.int<|Rat.num x,.int ((Rat.den x:Nat):Int)]) v;unfold Rep at *;obtain ⟨a,f,e,c,r⟩:=h;obtain ⟨i,j,rfl,d,b⟩:=r.two;exact (a,_,e,M _ _ nofun c,.cons (by rw[Zax d];exact rep_i)<|.cons (by rw[Zax b];exact rep_i) .nil)
def ZiY{α:Type}{f:α->PV}(g:∀x v,Rep Z H (f x) v->Rep Z' H' (f x) v){l:List α}{us:List V}(r:Reps Z H (l.map f) us):Reps Z' H' (l.map f) us:=.of r.len λi p u b c=>by
 obtain ⟨x,h,rfl⟩:=mget b;obtain ⟨e,a,d⟩:=r.get b;rw[c] at a;cases a;exact g _ _ d
def ZiZ(M:Mx H H'){f:ZZlk κ}(h:Rep Z H (nums κ f) v):Rep Z' H' (nums κ f) v:=by
 obtain ⟨a,b,e,c,r⟩:=Za0 h;unfold nums Rep;exact (a,b,e,M _ _ nofun c,ZiY (λ_ _=>ZoR M) r)
def ZoS(M:Mx H H'){R:ZZll κ}(h:Rep Z H (tab κ R) v):Rep Z' H' (tab κ R) v:=by
 obtain ⟨a,b,e,c,r⟩:=Za0 h;unfold Rep;exact (a,b,e,M _ _ nofun c,ZiY (λ_ _=>ZiZ M) r)
def ZoT(M:Mx H H'){f:ZZlk κ}(h:Rep Z H (frs κ f) v):Rep Z H' (frs κ f) v:=by
 unfold frs Rep at *;obtain ⟨a,b,e,n,c,r⟩:=h;exact (a,b,e,n,M _ _ nofun c,ZiY (λ_ _=>ZoR M) r)
def Ztq(M:Mx H H')(b:Z'.f=Z.f)(hr:Z'.r=Z.r)(g:Gd Z' H')(h:Rep Z H (.kd κ) v):Rep Z' H' (.kd κ) v:=by
 unfold Rep at *;obtain ⟨a,e,k,_⟩:=h;refine (a,e,?_,g);unfold KdX at *;rw[b,hr]
 cases κ with
 |q=>exact let ⟨d,z⟩:=k;(d,M _ _ nofun z)
 |r p c=>exact let ⟨d,z⟩:=k;(d,M _ _ nofun z)
end
def Mx.of(S:Same H a):Mx H a:=λx o _ z=>S _ _ z
abbrev Zb(F R C:Addr):Zc:=(F,R,C,λ_=>False,λ_ _=>False,λ_ _ _ _=>False,λ_ _ _ _ _ _ h=>h)
def ZuF:Gd (Zb F R C) H:=(λ_ z=>z.elim,λ_ _ z=>z.elim)
def Ztr:List Stmt->Expr
 | [_,.Return (some<|.Call _ [_,_,_,e] _ _) _]=>e
 |_=>default
def laA:Expr->Arguments
 | .Lambda a _ _ _=>a
 |_=>default
def laB:Expr->Expr
 | .Lambda _ b _ _=>b
 |_=>default
def laS:Expr->Scope
 | .Lambda _ _ s _=>s
 |_=>Zab ZcC
def laP:Expr->Pos
 | .Lambda _ _ _ p=>p
 |_=>(0,0,0,0)
abbrev lmE:Expr:=Ztr<|ZaW ZcC
abbrev laQ:Str:=("least" ++".<locals>.":Str) ++"<lambda>"
abbrev laT:Array Value:=#[rawInt (laP lmE).line,rawInt (laP lmE).col,.str laQ 0]
inductive LaP (F R C:Addr) (κ:KX) (A:ZZll κ) (H:Hp) (f:Addr):Prop
 |mk {c':Addr} {oc:Obj} {vs:Array Value} {t:Tok} {pm ctv:Value} {cw ck ca:Addr} {vw vk va:V} {m:Nat}
  (hf:H f=some (.frz (PySem.W.kla_obj "<lambda>" laQ (laA lmE) (laB lmE) (laS lmE) [("whole", cw),("kind", ck),("A", ca)] pm c' ctv) (.own f)))
  (hc:H c'=some (.frz oc (.own c'))) (hd:oc.data = .fields vs) (hv:vs[1]?=some (.str laQ t)) (w:CellT H cw vw) (k:CellT H ck vk) (a:CellT H ca va) (n1:cw≠ck) (n2:cw≠ca) (n3:ck≠ca)
  (rw:Rep (Zb F R C) (hide [cw,ck,ca] H) (nums κ (Chi A m)) vw) (rk:Rep (Zb F R C) (hide [cw,ck,ca] H) (.kd κ) vk) (ra:Rep (Zb F R C) (hide [cw,ck,ca] H) (tab κ A) va) (tb:TbK κ A m):LaP F R C κ A H f
def LaP.same{κ:KX}{A:ZZll κ}(S:Same H b)(h:LaP F R C κ A H f):LaP F R C κ A b f:=by
 obtain ⟨c,g,d,l,w,k,a,n,m,i,rw,e,j,o⟩:=h;exact (S _ _ c,S _ _ g,d,l,w.same S,k.same S,a.same S,n,m,i,rw.same<|Zan S,e.same<|Zan S,j.same<|Zan S,o)
abbrev Zk(F R C:Addr)(s:Addr->Prop)(t:Addr->Array Value->Prop):Zc:=(F,R,C,s,t,λa A H f=>LaP F R C a A H f,λ_ _ _ _ _ S h=>h.same S)
section
variable{X:Cx}{P:Program}{w:World}{K:ZZfg}{mg:ZZmg}{base:Heap}{F R C:Addr}{s:Addr->Prop}{tt:Addr->Array Value->Prop}
def Zr1{Z:Zc}{N:List Str}{ps:List PV}{vs:List V}(l:Ls O H)(f:ps.length=N.length)(r:Reps Z (hide O H) ps vs):SR Z H O O H (vs.map some) (ini N ps):=by
 refine (ZaT,λ_ m=>m,λ_ m => .inl m,l,?_,λi k e=>?_,λi j d m n b _=>?_,λi d a e _=>?_)
 ·rw[Q1,ZgR,r.len];exact f
 ·obtain ⟨p,rfl,c⟩:=ZdR e;obtain ⟨u,g,h⟩:=r.get c;exact (u,by rw[Q3,g];rfl,.val h)
 ·obtain ⟨p,z,_⟩:=ZdR b;cases z
 ·obtain ⟨p,z,_⟩:=ZdR e;cases z
def Zr2(T:Nm X.mg)(hw:Fn X.prog X.w X.K X.mg X.base (Zb F R C) "least_within" 12 S_lwithin) (b:Fn X.prog X.w X.K X.mg X.base (Zb F R C) "unit_row" 12 S_urow) (hr:Room 13 X.A) {f:Addr} {a:Value} {cw ck ca:Addr} {s:Shared} {H:Hp} :
    QE (Zb F R C) (Zsh X ["place", "whole", "kind", "A"] laQ (laS lmE) f a [("whole", cw),("kind", ck),("A", ca)] s H) (laB lmE) (ZfR S_lwithin<|ZbR (zV 2)<|ZbR (zV 3)<|ZbR (zV 1)<|ZbR (ZfR S_urow<|ZbR (zV 2)<|ZbR (ZfR ZsM<|ZbR (zV 3) Zkw)<|ZbR (zV 0) Zkw) Zkw):=by
  have hr:=hr.deeper<|PySem.W.envX laQ (laS lmE) s.heap.objs.size f a [("whole", cw),("kind", ck),("A", ca)];exact Zal hw (qa4 (qv 2) (qv 3) (qv 1)<|Zal b (qa3 (qv 2) (ZaP T.len<|qv 3)<|qv 0) (hr:=hr)) (hr:=hr)
def la_rule(T:Nm mg)(hw:Fn P w K mg base (Zb F R C) "least_within" 12 S_lwithin) (hu:Fn P w K mg base (Zb F R C) "unit_row" 12 S_urow):ZoQ P w K mg base (Zk F R C s tt) 13:=by
 intro X i x e te p a4 n l e3 e4 e5 hr hN hv hd a7 G he;subst n l e3 e4 e5;refine (λW A B g q=>?_,λH0 O0 h s0 σ H Q I ⟨O,W,sr,q⟩=>?_)
 ·unfold zLa at *
  split at q
  ·exact he.mo W _ _ (λp k=>Zbx (λj ⟨t,hj,q⟩=>(t,hj,λf o=>g _<|q f o)) k) q
  ·exact q.elim
 unfold zLa at q
 split at q
 rotate_left
 ·exact q.elim
 next κ A ee =>
 obtain ⟨v0,ev,r⟩:=sr.rel i _ ee
 cases r with|val r=>?_
 unfold Rep at r;obtain ⟨f,rfl,la⟩:=r;have la:LaP F R C κ A (hide O H) f:=la;refine wpAny_Call_Name_kw<|thn (Zcm hN hv hd a7 h s0 σ H (λv E=>v = .ref f/\E=H) I (_,ev,rfl,rfl)) λu s1 ⟨v1,E,I1,r1,z1,z2⟩=>?_;subst z1 z2;obtain rfl:u=Value.ref f:=r1;have fa:∀d M,Inv X h σ d M->Same E d->PySem.W.FnAt f M.heap:=λd M I2 S=>by
  obtain ⟨hf⟩:=la.same<|Zan S;exact (_,_,_,_,(I2.hok _ _ (Zbp hf).2).1)
 refine PySem.W.callWith_F (fa _ _ I1 ZaT) (thn ((qa1 he G).ok H0 O0 a4 h s1 σ E (λU d=>∃j:Int,U=[.int j]/\Same E d/\LaS A (Up (Zk F R C s tt) O E Q) j) I1 (O,W,sr,he.mo W _ _ (λp k U d S2 rr=>?_) q)) λus M ⟨U,d,I2,r2,j,ej,S2,q2⟩=>(fa _ _ I2 S2,?_)) G rfl
 ·unfold Zf7 at k
  split at k
  ·obtain ⟨u,rfl,ru⟩:=rr.one;exact (_,by rw[Zax ru],S2,k)
  ·exact k.elim
 subst ej;obtain ⟨u,rfl,ru⟩:∃u,us=[u]/\RelV (.int j) u:=by
  cases r2 with|cons a b=>cases b;exact (_,rfl,a)
 obtain ⟨D,hj,q2⟩:=q2
 rename_i m j
 obtain ⟨hf,hc,a0,a3,cw,ck,ca,n1,n2,n3,a1,rk,ra,a5⟩:=la.same<|Zan S2
 rename_i c' oc U t pm a8 J ak Y vw vk va m'
 obtain rfl:m'=m:=a5.l.symm.trans D.l;have up:∀ {c:Addr} {v:V},CellT (hide O d) c v->CellT d c v:=λx=>x.same Zaw;have a6:=sr.ls.same S2;have hx:∀c v,CellT (hide O d) c v->c∉O:=λc v ⟨_,_,a,_⟩=>(Zbp a).1;have sw:Same (hide [J,ak,Y]<|hide O d) (hide O<|hide [J,ak,Y] d):=λa o z=>by
  obtain ⟨m1,z⟩:=Zbp z;obtain ⟨m2,z⟩:=Zbp z;rw[hide_out m2,hide_out m1];exact z
 have l2:Ls O (hide [J,ak,Y] d):=λa L=>by
  obtain ⟨us,z⟩:=a6 a L;refine (us,(hide_out λm=>?_).trans z)
  simp only[Qe,Wg,or_false] at m
  rcases m with rfl|rfl|rfl
  ·exact hx _ _ cw L
  ·exact hx _ _ ck L
  ·exact hx _ _ ca L
 refine ZpO (k:=12) (te:=liE (Zb F R C) (hide [J,ak,Y] d) O _) (N:=["place","whole","kind","A"]) (x :="place") (ws:=[vw,vk,va]) I2 hr (Zbp hf).2 (Zbp hc).2 a0 a3 rfl rfl rfl ‹4› rfl (λy hy=>?_) (by simp[n1,n2,n3]) rfl (λi y c w n l=>?_) rfl ru rfl (λy hy=>?_) (λi y e=>?_) ((Zr2 T hw hu hr).ok _ O) (O,ini ["place","whole","kind","A"] [.int (j:Int),nums κ<|Chi A m',.kd κ,tab κ A],Zr1 l2 rfl<|.cons rep_i<|.cons (a1.same sw)<|.cons (rk.same sw)<|.cons (ra.same sw) .nil,?_)
 ·have f1:∀q∈(laS lmE).names,q.2 ≠ .cell/\(q.2 = .free->q.1 ="A" \/ q.1 ="kind" \/ q.1 ="whole"):=by decide +kernel
  rcases hy with hy|hy
  ·exact absurd rfl (f1 _<|PySem.mem_of_lookup hy).1
  ·rcases (f1 _<|PySem.mem_of_lookup hy).2 rfl with e|e|e <;> (simp only at e;rw[e];exact (_,rfl))
 ·match i,n,l with
  |0,n,l=>cases n;cases l;exact up cw
  |1,n,l=>cases n;cases l;exact up ck
  |2,n,l=>cases n;cases l;exact up ca
 ·simp only[Qe,Wg,or_false] at hy
  rcases hy with rfl|rfl|rfl <;> rfl
 ·match i,e with
  |0,e=>cases e;rfl
  |1,e=>cases e;rfl
  |2,e=>cases e;rfl
 ·have l1:=Q1 (nums κ) (as:=A);have m7:=D.m7;show S_urow [.kd κ,.int ((A.map<|nums κ).length:Int),.int (j:Int)] λp=>S_lwithin [.kd κ,tab κ A,nums κ<|Chi A m',p] _;rw[l1,D.l];refine S_urow.mk ⋯<|S_lwithin.mk D.l D.w D.m1 D.m7 D.m3 (ZiX _ _ _) D.q (Zqi _ _ _) λg og v3 H3 S3 r3=>(S3,λH4 S4 a2=>q2 g og v3 H4 (ZaH S2 S4)<|ZiZ (Mx.of ZaT)<|r3.same<|Zan a2)
end
end Zp
namespace My
open PySem L2 PyProof.Rows
section
variable{κ:KX}
noncomputable def smL(A:ZZll κ)(m:Nat)(v f:ZZlk κ)(k i:Nat):ZZlk κ:=(List.range m).map λj=>Rg.Sg (λt=>f.getD t 0*Rg.im (ent A) m (vF v) t j) (if j<i then k+1 else k)
def ZcN(A:ZZll κ)(m:Nat)(v f:ZZlk κ)(k i:Nat):(smL A m v f k i).length=m:=Za1 _ _
def Zts(A:ZZll κ)(m:Nat)(v f:ZZlk κ):smL A m v f 0 0=List.replicate m 0:=ZcJ (by rw[ZcN,W8]) λj a=>by
 rw[ZcN] at a;refine (ZaM _ a).trans ?_;rw[if_neg ⋯,Q2,Wq,if_pos a]
 rfl
def Zqj(A:ZZll κ)(m:Nat)(v f:ZZlk κ)(k:Nat):smL A m v f k m=smL A m v f (k+1) 0:=ZcJ (by rw[ZcN,ZcN]) λj a=>by
 rw[ZcN] at a;refine (ZaM _ a).trans<|Eq.trans ?_ (ZaM _ a).symm;rw[if_pos a,if_neg ⋯]
def ZoU{A:ZZll κ}{m:Nat}{v f:ZZlk κ}{k i:Nat}(a:i<m):(smL A m v f k i).getD i 0=Rg.Sg (λt=>f.getD t 0*Rg.im (ent A) m (vF v) t i) k:=by
 refine (ZaM _ a).trans ?_;rw[if_neg ⋯]
def ZnU{A:ZZll κ}{m:Nat}{v f:ZZlk κ}{k i:Nat}(a:i<m):(smL A m v f k i).set i ((smL A m v f k i).getD i 0+f.getD k 0*Rg.im (ent A) m (vF v) k i)=smL A m v f k (i+1):=by
 refine List.ext_getElem? λj=>?_;rw[ZoU a];unfold smL;rw[Um,Za1]
 by_cases e:i=j
 ·rw[if_pos e,if_pos a,<-e,Q3,Qs a];show some _=some (Rg.Sg _ (if i<i+1 then _ else _));rw[if_pos ⋯]
  rfl
 ·rw[if_neg e,Q3,Q3]
  by_cases hj:j<m
  ·rw[Qs hj];show some (Rg.Sg _ (if j<i then _ else _))=some (Rg.Sg _ (if j<i+1 then _ else _))
   by_cases q:j<i
   ·rw[if_pos q,if_pos ⋯]
   ·rw[if_neg q,if_neg ⋯]
  ·rw[Uo (by rw[Qn];omega)];rfl
end
end My
namespace Zp
open My
open PySem L2 PyProof.Rows
variable{Z:Zc}{X:Cx}{P:Program}{w:World}{K:ZZfg}{mg:ZZmg}{base:Heap}{cF:Addr}
def Zmr{κ:KX}{f:ZZlk κ}(h:Rep Z (hide O H) (nums κ f) v):Rp H 2 v (.list<|f.map κ.D):=by
 obtain ⟨a,d,rfl,j,r⟩:=Za0 h;have c:=Zds r;refine .inr<|.inl (a,d,_,rfl,rfl,Zaw _ _ j,by rw[Q1];exact c.1,λi u e g b=>?_);rw[Q3] at b
 cases hx:f[i]? with
 |none=>rw[hx] at b;cases b
 |some x=>rw[hx] at b;cases b;exact (c.2 i u x g hx).rp
inductive EqTP (b:Bool):R2'
 |mk {Q:PK'} {κ:KX} {f:ZZlk κ} (q:Q (.bl b)):EqTP b (nums κ f) (nums κ f) Q
def ZuG:LR Z ZtG (EqTP true):=(λp q A B f ⟨h⟩=>⟨f _ h⟩,λO H p q x y Q _ a b k=>by
 obtain ⟨k⟩:=k;exact (_,(Zmr a).mono ∅,(Zmr b).mono ∅,k _ H ZaT ZfQ))
def Zkq:FnScope ["_law_prime_here","_law_one","_law_other"] ["_law_prime_here","_law_one","_law_other"] (Zab Zfl):=‹2›
def z_lminus(h:Here K mg "_law_minus" Zfl) (d:Fn P w K mg base Z "_law_make" 3 S_lmake) (e:Fn P w K mg base Z "_law_plus" 3 (S_lop λ_ x y=>x+y)) (c:Fn P w K mg base Z "_law_times" 3 (S_lop λ_ x y=>x*y)):Fn P w K mg base Z "_law_minus" 4 (S_lop λ_ x y=>x-y):=by
 refine Za9 h (λ_ _ F=>F.b3 λ_ _ _ _ _ _ _ _ _=>rfl) Zkq (λl A B f ⟨a,b,q⟩=>(a,b,f _ q)) (λ_ _ ⟨_,_,_⟩=>rfl) (λ_ _ _ _ _ _ _ k =>
  (Zak<|ZaA<|Zal e<|qa3 (qv 0) (qv 1)<|Zal c<|qa3 (qv 0) (Zal d<|qa2 (qv 0)<|ZgQ Zas)<|qv 2)) ∅ ?_
 rintro _ Q ⟨j,i,q⟩
 rename_i g x y
 refine (Km1 g,Zrr,(ZsZ,i,?_));show S_lop (λ_ x y=>x+y) [.int g.P,num g x,num g<|Km1 g*y] _;rw[Zns];refine S_lop.mk j (Zlt i) ?_;show Q (num g<|x+(0-y));rw[show x+(0-y)=x-y by grind];exact q
def Zr3{κ:KX}{A:ZZll κ}{m:Nat}{v f:ZZlk κ}(m7:m<=7)(d:AllR (Q12 κ) A)(qv:∀x∈v,Q12 κ x)(b:∀x∈f,ZjK κ x){k:Nat}(e:k<=8)(i:Nat):QN κ ((1728*12^8:Nat):Int) (k*(2^60*(756^7*108)*12^7)) (Rg.Sg (λt=>f.getD t 0*Rg.im (ent A) m (vF v) t i) k):=by
 refine Zgc ∅ k λt g=>?_;have a:=(QN.mulN (ZcK b t)<|ZnJ m7 (λi j=>ZdC d i j) (λi=>ZcK qv i) t i).upN (c:=12^(7-t)) (Q8 ∅<|Q9 ∅)<|Q9 ∅;rw[Qm,<-W4,show t+1+(7-t)=8 by omega] at a;exact a.mono<|Qj (Qb _<|Qq _<|Q5 ∅ ⋯)<|Q5 ∅ ⋯
inductive S_lnought:ZF
 |mk {Q:PK'} {κ:KX} {A:ZZll κ} {m n:Nat} {v f:ZZlk κ} (t:TbK κ A m) (lv:v.length=m) (qv:∀x∈v,Q12 κ x) (lf:f.length=n+1) (n7:n<=7) (qf:∀x∈f,ZjK κ x) (kz:∀i,i<m->Rg.Sg (λk=>f.getD k 0*Rg.im (ent A) m (vF v) k i) f.length=0) (q:Q (.bl true)):S_lnought [.int κ.P,nums κ f,tab κ A,nums κ v] Q
def sc_l_nought:FnScope ["_law_prime_here","_law_f","_law_table","_law_column","_law_some","_law_sums","_law_k","_law_i"] ["_law_prime_here","_law_f","_law_table","_law_column"] (Zab Zep):=‹2›
def z_lnought(h:Here K mg "_law_nought" Zep) (T:Nm mg) (c:Fn P w K mg base Z "_law_chained" 5 S_lchain) (b:Fn P w K mg base Z "_law_make" 5 S_lmake) (g:Fn P w K mg base Z "_law_plus" 5 (S_lop λ_ x y=>x+y)) (d:Fn P w K mg base Z "_law_times" 5 (S_lop λ_ x y=>x*y)):Fn P w K mg base Z "_law_nought" 6 S_lnought:=by
 have C:=sc_l_nought.nd;refine Za9 h (λ_ _ F=>F.b4 λ_ _ _ _ _ _ _ _ _ _=>rfl) sc_l_nought (λps A B f ⟨a1,W,O,U,N,S,a7,q⟩=>(a1,W,O,U,N,S,a7,f _ q)) (λ_ _ ⟨_,_,_,_,_,_,_,_⟩=>rfl) (λ_ _ _ _ _ _ _ hr =>
  (Zae (Zat 4 C<|Zal c<|qa4 (qv 0) (qv 2) (qv 3)<|ZaP T.len<|qv 1)
  (Zae (ZiB 5 "_law_one" [(0,"_law_prime_here")] C (ZfT<|qv 3) (by exact λ_ _ _ _=>(Zal b<|qa2 (qv 1) Zas)))
  (Zae (Zby [6,7] (Zdx T.range<|ZaP T.len<|qv 1) (ZhL 6 C)<|Zak<|Zby [7] (Zdx T.range<|Zf8 5 T.len) (ZhL 7 C)<|Zak<|ZhM 5 (Zal g<|qa3 (qv 0) (ZfS 5<|qv 7)<|Zal d<|qa3 (qv 0) (Zbs (qv 1)<|qv 6)<|Zbs (Zbs (qv 4)<|qv 6)<|qv 7)<|qv 7)
  (Zak<|Zck 5<|ZaA<|Znl (ZqU hr) ZuG (qv 5)<|QL.toE<|Zh6 "_law_one" [(0,"_law_prime_here")] (ZfT<|qv 3) (by exact λ_ _ _ _=>(Zal b<|qa2 (qv 1) Zas))))))) ∅ ?_
 rintro _ Q ⟨t,z,qv,H,n7,G,kz,q⟩
 rename_i a A m n v f
 have l1:=ZaB f;have l2:=ZaB v;have J:=t.m7;have s:∀i p,(v.map<|num a)[i]?=some p->((List.replicate m (0:a.F)).map<|num a)[i]?=some (num a 0):=λi p o=>by
  have l:=(Qp.mp o).1;rw[Q1,z] at l;rw[Q3,Wq,if_pos l];rfl
 show S_lchain [.int a.P,tab a A,nums a v,.int ((f.map<|num a).length:Int)] _;rw[ZaB,H];refine S_lchain.mk t.l t.w t.m7 n7 t.q z qv ∅ ∅ ∅ ?_;refine ((List.replicate m (0:a.F)).map<|num a,by rw[Q1,Q1,W8,z],⋯,λi p o=>(0,Zfv,s i p o),?_);refine (⋯,⋯,?_);rw[show (((f.map<|num a).length:Int)).toNat=n+1 by omega];have L:∀k i,((smL A m v f k i).map<|num a).length=m:=λk i=>by rw[Q1,ZcN]
 refine (λk E=>E=[some<|.val<|.int a.P,some<|.val<|nums a f,some<|.val<|tab a A,some<|.val<|nums a v,some<|.val<|tab a<|(List.range<|n+1).map<|imL A m v,some<|.own<|(smL A m v f k 0).map<|num a,none,none],by rw[Zts],?_,?_)
 ·rintro k _ _ o rfl;obtain ⟨hk,rfl⟩:=ZaO o;rw[Wk];have l5:=L k 0;refine (⋯,⋯,?_);rw[show ((((smL A m v f k 0).map<|num a).length:Int)).toNat=m by omega];refine (λi E=>E=[some<|.val<|.int a.P,some<|.val<|nums a f,some<|.val<|tab a A,some<|.val<|nums a v,some<|.val<|tab a<|(List.range<|n+1).map<|imL A m v,some<|.own<|(smL A m v f k i).map<|num a,some<|.val<|.int (k:Int),none],rfl,?_,?_)
  ·rintro i _ _ o rfl;obtain ⟨l,rfl⟩:=ZaO o;rw[Wk];have gk:((List.range<|n+1).map<|imL A m v).getD k []=imL A m v k:=by rw[Q2,Q3,Qs hk];rfl
   have gi:(imL A m v k).getD i 0=Rg.im (ent A) m (vF v) k i:=ZaM _ l;have M:=ZnJ J (λi j=>ZdC t.q i j) (λi=>ZcK qv i) k i;have I:=ZcK G k;have u:12^(k+1)<=12^8:=Q5 ∅ ⋯;have r:756^k*108<=756^7*108:=Qq _<|Q5 ∅ ⋯;have Y:B1 a (f.getD k 0*Rg.im (ent A) m (vF v) k i):=ZbS (Q8 ∅<|Q9 ∅) (Q0 (Qb 1728 u) ∅) (Q0 (Qb (2^60) r) ∅)<|QN.mulN I M;have R:B1 a ((smL A m v f k i).getD i 0):=by
    rw[ZoU l];exact ZbS ∅ ∅ (Q0 (Qq _ (show k<=8 by omega)) ∅)<|Zr3 J t.q qv G ⋯ i
   refine (_,ZbK (by rw[ZcN];exact l),_,ZbK ⋯,_,ZcS (by rw[Q1,Qn];omega),?_);rw[gk];refine (_,ZbK (by rw[Zdh];exact l),?_);rw[gi];refine S_lop.mk (ZbS ∅ ∅ ∅ I) (ZbS (Q9 ∅) (Q0 u ∅) (Q0 r ∅) M)<|S_lop.mk R Y (i,?_,?_)
   ·rw[L];exact Zer l
   ·show [_,_,_,_,_,some<|Sl.own<|((smL A m v f k i).map<|num a).set i<|num a<|(smL A m v f k i).getD i 0+f.getD k 0*Rg.im (ent A) m (vF v) k i,_,_]=_;rw[<-List.map_set,ZnU l]
  ·rintro _ rfl;rw[Zaz,Zqj]
 ·rintro _ rfl;rw[Zaz];have e:smL A m v f (n+1) 0=List.replicate m 0:=ZcJ (by rw[ZcN,W8]) λj D=>by
   rw[ZcN] at D;have:=kz j D;rw[H] at this;rw[show (smL A m v f (n+1) 0).getD j 0=_ from ZaM _ D,Q2,Wq,if_pos D];exact this
  rw[e];refine ((List.replicate m (0:a.F)).map<|num a,by rw[Q1,Q1,W8,z],⋯,λi p o=>(0,Zfv,s i p o),EqTP.mk q)
end Zp
namespace My
open PySem L2 PyProof.Rows
section
variable{κ:KX}
noncomputable def swM(R:ZZll κ)(q a:Nat):ZZll κ:=(R.set a<|R.getD q []).set q<|R.getD a []
def Zqk(R:ZZll κ)(q a:Nat):(swM R q a).length=R.length:=by unfold swM;rw[Wc,Wc]
def Zms{R:ZZll κ}{q a:Nat}(b:q<R.length)(d:a<R.length)(i c:Nat):ent (swM R q a) i c=if i=q then ent R a c else if i=a then ent R q c else ent R i c:=by
 unfold swM ent
 by_cases e:i=q
 ·rw[if_pos e,e,Za5 (by rw[Wc];exact b)]
 ·rw[if_neg e,Zbo<|λz=>e z.symm]
  by_cases e2:i=a
  ·rw[if_pos e2,e2,Za5 d]
  ·rw[if_neg e2,Zbo<|λz=>e2 z.symm]
def Zql{R:ZZll κ}{q a:Nat}(c:q<R.length)(b:a<R.length)(w:Wid m R):Wid m (swM R q a):=(w.set<|w.get c).set<|w.get b
def Zqm{R:ZZll κ}{q a:Nat}(b:q<R.length)(c:a<R.length){i:Nat}(f:i<R.length):∃d,d<R.length/\(swM R q a).getD i []=R.getD d []:=by
 unfold swM
 by_cases e:i=q
 ·exact (a,c,by rw[e,Za5 (by rw[Wc];exact b)])
 ·rw[Zbo<|λz=>e z.symm]
  by_cases e2:i=a
  ·exact (q,b,by rw[e2,Za5 c])
  ·exact (i,f,by rw[Zbo<|λz=>e2 z.symm])
noncomputable def elS(R:ZZll κ)(q j i:Nat):ZZlk κ:=List.zipWith (λx y=>ent R q j*x-ent R i j*y) (R.getD i [])<|R.getD q []
def Zi0{R:ZZll κ}{q j i c:Nat}(a:Wid m R)(d:q<R.length)(e:i<R.length)(h:c<m):(elS R q j i).getD c 0=ent R q j*ent R i c-ent R i j*ent R q c:=by
 unfold elS;have g:=a.get e;have k:=a.get d;rw[Q2,Uq,Q6 (show c<(R.getD i []).length by omega),Q6 (show c<(R.getD q []).length by omega)];show ent R q j*(R.getD i [])[c]-ent R i j*(R.getD q [])[c]=_;have b:ent R i c=(R.getD i [])[c]:=by unfold ent;rw[Q2 (l:=R.getD i []),Q6 ⋯];rfl
 have f:ent R q c=(R.getD q [])[c]:=by unfold ent;rw[Q2 (l:=R.getD q []),Q6 ⋯];rfl
 rw[b,f]
def ZjL{R:ZZll κ}{i:Nat}{f:ZZlk κ}(b:i<R.length)(a c:Nat):ent (R.set i f) a c=if a=i then f.getD c 0 else ent R a c:=by
 unfold ent
 by_cases e:a=i
 ·rw[if_pos e,e,Za5 b]
 ·rw[if_neg e,Zbo<|λz=>e z.symm]
def ZnV{f:Nat->κ.F}{a:Nat}:∀n,(∀i,i<n->i≠a->f i=0)->Rg.Sg f n=if a<n then f a else 0
 |0,_=>(if_neg<|Nat.not_lt_zero a).symm
 |n+1,h=>by
  show Rg.Sg f n+f n=_;rw[ZnV n λi c b=>h i ⋯ b]
  by_cases e:a=n
  ·rw[if_neg ⋯,if_pos ⋯,e];grind
  ·rw[h n ⋯<|λz=>e z.symm]
   by_cases l:a<n
   ·rw[if_pos l,if_pos ⋯];grind
   ·rw[if_neg l,if_neg ⋯];grind
def ZoV{f g:Nat->κ.F}{a b n:Nat}(d:a<n)(c:b<n)(j:a≠b)(h:∀i,i≠a->i≠b->f i=g i)(e:f a+f b=g a+g b):Rg.Sg f n=Rg.Sg g n:=by
 have s:Rg.Sg f n=Rg.Sg g n+(Rg.Sg (λi=>if i=a then f a-g a else 0) n+Rg.Sg (λi=>if i=b then f b-g b else 0) n):=by
  rw[Rg.Sg_add,Rg.Sg_add];refine Rg.Sg_congr λi _=>?_
  by_cases x:i=a
  ·rw[if_pos x,if_neg ⋯,x];grind
  ·by_cases y:i=b
   ·rw[if_neg x,if_pos y,y];grind
   ·rw[if_neg x,if_neg y,h i x y];grind
 rw[s,ZnV n (a:=a)<|λi _ n=>if_neg n,ZnV n (a:=b)<|λi _ n=>if_neg n,if_pos d,if_pos c,if_pos rfl,if_pos rfl];grind
def Ind(R:ZZll κ)(n m:Nat):Prop:=∀c:Nat->κ.F,(∀j,j<m->Rg.Sg (λi=>c i*ent R i j) n=0)->∀i,i<n->c i=0
def Ind.sw{R:ZZll κ}{q a n m:Nat}(h:Ind R n m)(l:R.length=n)(d:q<n)(k:a<n):Ind (swM R q a) n m:=λc z=>by
 have E:=Zms (R:=R) (q:=q) (a:=a) ⋯ ⋯
 by_cases e:q=a
 ·refine h c λj b=>(Rg.Sg_congr λi _=>?_).trans<|z j b;rw[E,e]
  split
  ·next y=>rw[y]
  ·rfl
 have H:=h (λi=>if i=q then c a else if i=a then c q else c i) λj b=>(ZoV d k e (λi g f=>by rw[if_neg g,if_neg f,E,if_neg g,if_neg f]) (by rw[if_pos rfl,if_neg<|Ne.symm e,if_pos rfl,E,E,if_pos rfl,if_neg<|Ne.symm e,if_pos rfl];grind)).trans<|z j b;intro i o
 by_cases x:i=q
 ·have:=H a k
  rwa [if_neg<|Ne.symm e,if_pos rfl,<-x] at this
 ·by_cases y:i=a
  ·have:=H q d
   rwa [if_pos rfl,<-y] at this
  ·have:=H i o
   rwa [if_neg x,if_neg y] at this
def Ind.el{R:ZZll κ}{q j i n m:Nat}(h:Ind R n m)(l:R.length=n)(s:Wid m R)(o:q<n)(b:i<n)(a:i≠q)(p:ent R q j≠0):Ind (R.set i<|elS R q j i) n m:=λc z=>by
 have E:=ZjL (f:=elS R q j i) (show i<R.length by omega);have H:=h (λk=>if k=i then ent R q j*c i else if k=q then c q-ent R i j*c i else c k) λt d=>(ZoV b o a (λk g r=>by rw[if_neg g,if_neg r,E,if_neg g]) (by rw[if_pos rfl,if_neg<|Ne.symm a,if_pos rfl,E,E,if_pos rfl,if_neg<|Ne.symm a,Zi0 s ⋯ ⋯ d];grind)).trans<|z t d;have e:c i=0:=ZiE p (by have:=H i b;rwa [if_pos rfl] at this);intro k u
 by_cases x:k=i
 ·rw[x];exact e
 ·have:=H k u;rw[if_neg x] at this
  by_cases y:k=q
  ·rw[if_pos y,e] at this;rw[y,<-this];grind
  ·rwa [if_neg y] at this
def Ind.all{R:ZZll κ}{n m k:Nat}(h:Ind R n m)(d:k<=n)(o:∀i,k<=i->i<n->∀c,c<m->ent R i c=0):k=n:=by
 refine Nat.le_antisymm d<|Wu λb=>?_;have:=h (λi=>if i=k then 1 else 0) (λj f=>by rw[ZnV (a:=k) n (λi _ e=>by rw[if_neg e];grind),if_pos b,o k (Q4 _) b j f];grind) k b;rw[if_pos rfl] at this;exact Zcl this
def yM:Nat->Nat
 |0=>756^2*2^450
 |q+1=>2*(yM q*yM q)
def yD(q:Nat):Nat:=(12^26)^(2^q)
def RowY(κ:KX)(q:Nat)(f:ZZlk κ):Prop:=∃D M:Nat,0<D/\D<=yD q/\M<=yM q/\∀x∈f,QN κ (D:Int) M x
def Ztt(q:Nat):yD q<=yD (q+1):=Q5 ∅<|Q5 ∅<|Nat.le_succ q
def Zmt:∀q,0<yM q
 |0=>by show 0<756^2*2^450;decide
 |q+1=>by
  show 0<2*(yM q*yM q);have:=Q8 (Zmt q)<|Zmt q;omega
def Ztu(q:Nat):yM q<=yM (q+1):=by
 show yM q<=2*(yM q*yM q);have:=U8 (yM q)<|Zmt q;omega
def RowY.up{f:ZZlk κ}(h:RowY κ q f):RowY κ (q+1) f:=by
 obtain ⟨D,M,a,b,c,d⟩:=h;exact (D,M,a,Q0 b<|Ztt q,Q0 c<|Ztu q,d)
def yB{q:Nat}(h:q<=2):yD q<2^3000/\yM q<2^3000:=by
 obtain rfl|rfl|rfl:q=0\/q=1\/q=2:=⋯
 ·exact (‹4›,‹4›)
 ·exact (‹4›,‹4›)
 ·exact (‹4›,‹4›)
def RowY.b1{f:ZZlk κ}(h:RowY κ q f)(e:κ = .q->q<=2):∀x∈f,B1 κ x:=λx g=>by
 cases κ with
 |r p i=>exact trivial
 |q =>
  obtain ⟨D,M,a,b,c,d⟩:=h;have y:=yB<|e rfl;exact QN.b1 ⋯ (by rw[Qo];exact Q7 b y.1) (Q7 c y.2)<|d x g
def RowY.step{f g:ZZlk κ}(n:RowY κ q f)(G:RowY κ q g)(t:κ = .q->q<=1){a b:κ.F}(v:a∈g)(B:b∈f) :
    RowY κ (q+1) (List.zipWith (λx y=>a*x-b*y) f g)/\(∀x∈f,B1 κ<|a*x)/\∀y∈g,B1 κ (b*y):=by
  obtain ⟨D,M,H,o,w,j⟩:=n;obtain ⟨E,N,s,A,u,i⟩:=G;have m:∀x∈f,QN κ ((D*E:Nat):Int) (M*N) (a*x):=λx c=>by
    have:=QN.mulN (i a v)<|j x c
    rwa [W3 E D,W3 N M] at this
  have k:∀y∈g,QN κ ((D*E:Nat):Int) (M*N) (b*y):=λy d=>QN.mulN (j b B)<|i y d;have C:0<D*E:=Q8 H s;have h:D*E<=yD (q+1):=by
    refine Q0 (Qj o A)<|Wo ?_;unfold yD;rw[<-W4,Qk 2 q,Nat.mul_two]
  have F:M*N+M*N<=yM (q+1):=by
    have:=Qj w u;show _<=2*(yM q*yM q);omega
  have l:∀z:κ.F,QN κ ((D*E:Nat):Int) (M*N) z->B1 κ z:=λz e=>by
    cases κ with
    | r p I=>exact trivial
    | q =>
      have y:=yB (q:=q+1) (by have:=t rfl; omega);exact QN.b1 ⋯ (by rw[Qo]; exact Q7 h y.1) (Q7 (show M*N<=yM (q+1) by omega) y.2) e
  refine ((D*E,M*N+M*N,C,h,F,λz e=>?_),λx c=>l _<|m x c,λy d=>l _<|k y d);obtain ⟨x,c,y,d,rfl⟩:=Zfu e;exact QN.sub ⋯ (m x c)<|k y d
end
end My
namespace Zp
open My
open PySem L2 PyProof.Rows
variable{Z:Zc}{X:Cx}{P:Program}{w:World}{K:ZZfg}{mg:ZZmg}{base:Heap}{cF:Addr}
inductive S_lranked:ZF
 |mk {Q:PK'} {κ:KX} {G:ZZll κ} {n m:Nat} (lG:G.length=n) (wG:Wid m G) (n1:1<=n) (n9:n<=100) (m7:m<=7) (n3:κ = .q->n<=3) (zG:∀i,i<n->RowY κ 0 (G.getD i [])) (iG:Ind G n m) (q:Q (.int (n:Int))):S_lranked [.int κ.P,tab κ G] Q
inductive RkP (κ:KX) (n m j:Nat):PSt->Prop
 |mk (R:ZZll κ) (k:Nat) (lR:R.length=n) (wR:Wid m R) (kn:k<=n) (ou:∀i,k<=i->i<n->∀c,c<j->ent R i c=0) (iR:Ind R n m) (rz:∀i,i<n->RowY κ k (R.getD i [])):RkP κ n m j [some (.val (.int κ.P)),some (.own (R.map (nums κ))),some (.val (num κ 0)),some (.val (.int (k:Int))),none,none,none,none,none,none,none]
inductive RkI {κ:KX} (T:ZZlk κ) (k n m j t r:Nat):PSt->Prop
 |mk (R:ZZll κ) (l7:R.length=n) (w7:Wid m R) (i7:Ind R n m) (o7:∀i,k<=i->i<n->∀c,c<j->ent R i c=0) (z7:∀i,k<i->i<k+1+r->ent R i j=0) (e7:R.getD k []=T) (rz7:∀i,i<n->RowY κ (if k<i/\i<k+1+r then k+1 else k) (R.getD i [])):RkI T k n m j t r [some (.val (.int κ.P)),some (.own (R.map (nums κ))),some (.val (num κ 0)),some (.val (.int (k:Int))),some (.val (.int (j:Int))),some (.val (.int (t:Int))),some (.val (nums κ T)),none,none,none,none]
def sc_l_ranked:FnScope ["_law_prime_here","_law_rows","_law_nought_here","_law_many","_law_j","_law_at","_law_top","_law_i","_law_by","_law_left","_law_right"] ["_law_prime_here","_law_rows"] (Zab Zeo):=‹2›
def z_lranked(h:Here K mg "_law_ranked" Zeo) (T:Nm mg) (v:Fn P w K mg base Z "_law_make" 4 S_lmake) (l:Fn P w K mg base Z "_law_times" 4 (S_lop λ_ x y=>x*y)) (u:Fn P w K mg base Z "_law_minus" 4 (S_lop λ_ x y=>x-y)):Fn P w K mg base Z "_law_ranked" 5 S_lranked:=by
  have C:=sc_l_ranked.nd;refine Za9 h (λ_ _ F=>F.b2 λ_ _ _ _ _ _ _ _=>rfl) sc_l_ranked (λps A B f ⟨a1,a2,a3,a4,a5,a6,a7,a8,q⟩=>(a1,a2,a3,a4,a5,a6,a7,a8,f _ q)) (λ_ _ ⟨_,_,_,_,_,_,_,_,_⟩=>rfl) (λ_ _ _ _ _ _ _ hr =>
    (Zae (Zat 2 C<|Zal v<|qa2 (qv 0) Zas)
    (Zae (ZiB 1 "_law_row" [] C (ZfT<|qv 1) (by exact λ_ _ _ _=>(QL.toE<|Zjn T.list<|qv 0)))
    (Zae (Zat 3 C Zas)
    (Zae (Zby [4,5,6,7,8,9,10] (Zdx T.range<|ZaP T.len<|ZfS 1 Zas) (ZhL 4 C)<|Zae (Zat 5 C<|qv 3)
      (Zae (Zd8 [] (QW.t<|Zrb (ZfK ZdW lb (qv 5)<|Zf8 1 T.len)<|Zoh<|ZfK (ZqZ hr) ZuE (Zbs (ZfS 1<|qv 5)<|qv 4)<|qv 2)<|Zak<|Zat 5 C<|ZeQ Za6 li (qv 5) Zas)
      (Zak<|ZdQ (ZfK ZdW lb (qv 5)<|Zf8 1 T.len) (Zae (Zat 6 C<|ZfS 1<|qv 5)
        (Zae (ZhM 1 (ZfS 1<|qv 3)<|qv 5)
        (Zae (ZhM 1 (qv 6)<|qv 3)
        (Zae (Zby [7,8,9,10] (Zrc T.range (ZeQ Za6 li (qv 3) Zas)<|Zf8 1 T.len) (ZhL 7 C)<|Zae (Zat 8 C<|Zbs (ZfS 1<|qv 7)<|qv 4)
          (Zak<|ZdQ (ZfK (Zoc hr) ZtP (qv 8)<|qv 2) (Zae (Zat 9 C<|QL.toE<|Zh6 "_law_one" [(0, "_law_prime_here"),(6, "_law_top"),(4, "_law_j")] (ZfT<|ZfS 1<|qv 7) (by exact λ_ _ _ _=>(Zal l<|qa3 (qv 1) (Zbs (qv 2)<|qv 3)<|qv 0)))
            (Zae (Zat 10 C<|QL.toE<|Zh6 "_law_one" [(0, "_law_prime_here"),(8, "_law_by")] (ZfT<|qv 6) (by exact λ_ _ _ _=>(Zal l<|qa3 (qv 1) (qv 2)<|qv 0)))
            (Zak<|ZhM 1 (QL.toE<|Zh6 "_law_k" [(0, "_law_prime_here"),(9, "_law_left"),(10, "_law_right")] (Zdx T.range<|ZaP T.len<|qv 6) (by exact λ_ _ _ _=>(Zal u<|qa3 (qv 1) (Zbs (qv 2)<|qv 0)<|Zbs (qv 3)<|qv 0)))<|qv 7))) Zb8))
        (Zak<|Zat 3 C<|ZeQ Za6 li (qv 3) Zas))))) Zb8)))
    (Zak<|ZaA<|qv 3)))))) ∅ ?_
  rintro _ Q ⟨lG,wG,n1,n9,m7,n3,zG,iG,q⟩
  rename_i d G n m
  have lM:=Q1 (nums d) (as:=G);refine (0,Zfv,G.map<|nums d,rfl,⋯,λi p D=>?_,?_)
  · obtain ⟨f,hf,rfl⟩:=mget D
    exact D
  refine (_,ZcS (show 0<G.length by omega),?_);have l0:(G.getD 0 []).length=m:=Zsj wG ⋯;have c2:=ZaB<|G.getD 0 [];refine (by show ((((G.getD 0 []).map<|num d).length:Nat):Int)<2^62; omega,by show -(2^62)<=((((G.getD 0 []).map<|num d).length:Nat):Int); omega,?_);show For (ZmM 0 ((((G.getD 0 []).map<|num d).length:Nat):Int).toNat) _ _ _ _ _;rw[show (((((G.getD 0 []).map<|num d).length:Nat):Int)).toNat=m by omega];refine (RkP d n m,(G,0,lG,wG,Qg _,λi _ _ c z=>absurd z<|Nat.not_lt_zero c,iG,zG),?_,?_)
  · rintro j _ _ D ⟨R,k,lR,wR,kn,S,iR,rz⟩
    obtain ⟨hj,rfl⟩:=ZaO D;rw[Wk];have N:(R.map<|nums d).length=n:=by rw[Q1,lR]
    refine (λmm ρ=>∃t:Nat,mm=n-t/\ρ=[some<|.val<|.int d.P,some<|.own<|R.map<|nums d,some<|.val<|num d 0,some<|.val<|.int (k:Int),some<|.val<|.int (j:Int),some<|.val<|.int (t:Int),none,none,none,none,none]/\k<=t/\t<=n/\∀i,k<=i->i<t->ent R i j=0,n-k,(k,rfl,rfl,Q4 _,kn,λi a b=>⋯),?_);rintro _ _ ⟨t,rfl,rfl,qt,tn,zs⟩;refine br (λz=>?_) λz=>?_
    rotate_left
    · refine brF rfl (brF (decide_eq_false ⋯) ?_)
      exact (R,k,lR,wR,kn,λi a b c I=>by
        by_cases e:c=j
        · rw[e]; exact zs i a ⋯
        · exact S i a b c ⋯,iR,rz)
    have O:t<n:=⋯;have lt:=wR _ (show R.getD t []∈R by rw[Q2,Q6 ⋯]; exact Qu _);refine (_,ZcS ⋯,_,ZbK ⋯,⟨λb Y=>?_⟩)
    cases b with
    | true =>
      refine (n-(t+1),⋯,t+1,rfl,rfl,⋯,⋯,λi a b=>?_)
      by_cases e:i=t
      · rw[e]; exact Y.mp rfl
      · exact zs i a ⋯
    | false =>
    have b4:ent R t j≠0:=λe=>by cases Y.mpr e
    refine brF rfl<|brT (decide_eq_true ⋯) ?_;refine (_,ZcS ⋯,_,ZcS ⋯,t,by rw[N]; exact Zer O,k,by rw[Wc,N]; exact Zer ⋯,?_);have eq:(swM R k t).getD k []=R.getD t []:=by unfold swM; rw[Za5 (by rw[Wc]; omega)]
    have em:((R.map<|nums d).set t<|nums d<|R.getD k []).set k (nums d<|R.getD t [])=(swM R k t).map (nums d):=by unfold swM; rw[List.map_set,List.map_set]
    have ll:(((R.map<|nums d).set t<|nums d<|R.getD k []).set k<|nums d<|R.getD t []).length=n:=by rw[Wc,Wc,N]
    refine ((⋯,⋯,by show -(2^62)<=((((R.map<|nums d).set t<|nums d<|R.getD k []).set k<|nums d<|R.getD t []).length:Int); omega,by show ((((R.map<|nums d).set t<|nums d<|R.getD k []).set k<|nums d<|R.getD t []).length:Int)<2^62; omega),?_);show For (ZmM ((k:Int)+1) (((((R.map<|nums d).set t<|nums d<|R.getD k []).set k<|nums d<|R.getD t []).length:Int)-((k:Int)+1)).toNat) _ _ _ _ _;rw[ll,show ((n:Int)-((k:Int)+1)).toNat=n-(k+1) by omega];refine (RkI (R.getD t []) k n m j t,?_,?_,?_)
    · have:RkI (R.getD t []) k n m j t 0 _:=(swM R k t,by rw [Zqk,lR],Zql ⋯ ⋯ wR,iR.sw lR ⋯ O,fun i a b c I => by
          rw[Zms ⋯ ⋯]
          split
          · exact S t qt O c I
          · split
            · exact S k (Q4 _) ⋯ c I
            · exact S i a b c I,λi a b=>⋯,eq,λi J=>by
          rw[if_neg ⋯];obtain ⟨o,L,e⟩:=Zqm (R:=R) (q:=k) (a:=t) ⋯ ⋯ (i:=i) ⋯;rw[e]; exact rz o ⋯)
      rw[<-em] at this;exact this
    · rintro r _ _ D ⟨g,W,H,i7,U,z7,e7,s⟩
      obtain ⟨c3,rfl⟩:=ZaO D;obtain ⟨i,ei⟩:∃i,i=k+1+r:=(_,rfl);have J:i<n:=⋯;rw[show ((k:Int)+1+(r:Int))=((i:Nat):Int) by omega];have c0:(g.map<|nums d).length=n:=by rw[Q1,W]
      have gl:∀i,i<n->(g.getD i []).length=m:=λi J=>H _ (by rw[Q2,Q6 ⋯]; exact Qu _);have c1:=gl i J;have c4:=gl k ⋯;have b2:ent g k j≠0:=by
        show (g.getD k []).getD j 0≠0;rw[e7]; exact b4
      refine (_,ZcS ⋯,_,ZbK ⋯,⟨λb Y=>?_⟩);have Y:b=true↔ent g i j=0:=Y
      cases b with
      | true =>
        refine (g,W,H,i7,U,λo a b=>?_,e7,λo L=>?_)
        · by_cases e:o=i
          · rw[e]; exact Y.mp rfl
          · exact z7 o a ⋯
        · have:=s o L
          by_cases q:k<o/\o<k+1+r
          · rw[if_pos q] at this
            rw[if_pos ⋯]; exact this
          · rw[if_neg q] at this
            split
            · exact this.up
            · exact this
      | false =>
        have zi:=s i J;rw[if_neg ⋯] at zi;have zq:=s k ⋯;rw[if_neg ⋯] at zq;have ha:ent g k j∈g.getD k []:=ZiD H ⋯ hj;have a9:ent g i j∈g.getD i []:=ZiD H ⋯ hj;have q1:d = .q->k<=1:=λe=>by have:=n3 e; omega
        obtain ⟨b6,b7,b8⟩:=RowY.step zi zq q1 ha a9;have b1:=zi.b1 (λe=>by have:=q1 e; omega);have b0:=zq.b1 (λe=>by have:=q1 e; omega);rw[<-e7];generalize hgi:g.getD i []=gi at *;generalize hgq:g.getD k []=M at *;have eb:gi.getD j 0=ent g i j:=by rw[<-hgi]; rfl
        have b3:=ZaB gi;have b5:=ZaB M;refine (_,ZcS ⋯,?_);rw[hgi];refine ((gi.map λx=>ent g k j*x).map<|num d,by rw[Q1,Q1,b3],⋯,λc p D=>?_,?_)
        · obtain ⟨x,hx,rfl⟩:=mget D
          refine (_,ZbK ⋯,S_lop.mk (b0 _ (by rw[<-hgq]; exact ZiD H ⋯ hj)) (b1 x<|Qd hx) ?_);rw[Q3,Q3,hx,<-hgq]; rfl
        refine ((M.map λy=>ent g i j*y).map<|num d,by rw[Q1,Q1,b5],⋯,λc p D=>?_,?_)
        · obtain ⟨y,hy,rfl⟩:=mget D
          rw[eb];refine S_lop.mk (b1 _ a9) (b0 y<|Qd hy) ?_;rw[Q3,Q3,hy]; rfl
        refine (by show ((M.map<|num d).length:Int)<2^62; omega,by show -(2^62)<=((M.map<|num d).length:Int); omega,?_);have eR:elS g k j i=List.zipWith (λx y=>ent g k j*x-ent g i j*y) gi M:=by unfold elS; rw[hgi,hgq]
        have lz:(elS g k j i).length=m:=by rw[eR,Wx]; omega
        refine ((elS g k j i).map<|num d,by rw[Q1,lz,Zaz]; omega,by rw[Zaz]; omega,λc p D=>?_,i,by rw[c0]; exact Zer J,?_)
        · obtain ⟨I,rfl⟩:=ZaO D
          have I:c<m:=⋯;rw[Wk];have gx:gi[c]?=some (gi[c]'⋯):=Q6 ⋯;have gy:M[c]?=some (M[c]'⋯):=Q6 ⋯;refine (_,ZdF (by rw[Q3,Q3,gx]; rfl),_,ZdF (by rw[Q3,Q3,gy]; rfl),S_lop.mk (b7 _<|Qd gx) (b8 _<|Qd gy) ?_);rw[eR,Q3,Uq,gx,gy]; rfl
        have E:=ZjL (f:=elS g k j i) (show i<g.length by omega);have a0:RkI M k n m j t (r+1) _:=(g.set i<|elS g k j i,by rw[Wc]; exact W,(λf' b9=>by
            rcases List.mem_or_eq_of_mem_set b9 with q | q
            · exact H f' q
            · rw[q]; exact lz),i7.el W H ⋯ J ⋯ b2,(λo a b c I=>by
            rw[E]
            split
            · rw[Zi0 H ⋯ ⋯ ⋯,U i ⋯ J c I,U k (Q4 _) ⋯ c I]; grind
            · exact U o a b c I),(λo a b=>by
            rw[E]
            split
            · rw[Zi0 H ⋯ ⋯ hj]; grind
            · exact z7 o a ⋯),(by rw[Zbo ⋯,hgq]),λo L=>by
            by_cases e:o=i
            · rw[e,Za5 ⋯,if_pos ⋯,eR]
              exact b6
            · rw[Zbo<|Ne.symm e]
              have:=s o L
              by_cases q:k<o/\o<k+1+r
              · rw[if_pos q] at this
                rw[if_pos ⋯]; exact this
              · rw[if_neg q] at this
                rw[if_neg ⋯]; exact this)
        rw[List.map_set] at a0;exact e7 ▸ a0
    · rintro _ ⟨g,W,H,i7,U,z7,e7,s⟩
      rw[Zaz] at z7 s;exact (g,k+1,W,H,⋯,λi a b c I=>by
        by_cases e:c=j
        · rw[e]; exact z7 i a ⋯
        · exact U i ⋯ b c ⋯,i7,λi J=>by
        have:=s i J
        split at this
        · exact this
        · exact this.up)
  · rintro _ ⟨R,k,lR,wR,kn,S,iR,rz⟩
    rw[Zaz] at S;rw[iR.all kn S];exact q
inductive zIB:List PV->PK'->Prop
 |mk {Q:PK'} {b:Bool} (q:Q (.int (if b then 1 else 0))):zIB [.bl b] Q
def ZoW:LC Z (λxs H Q=>(∃i,xs=[.int i]/\Q (.int i) H)\/∃k,xs=[.bl k]/\Q (.int (if k then 1 else 0)) H) zIB :=
 (λp A B f ⟨q⟩=>⟨f _ q⟩,λO H p x Q _ r k=>by
  obtain ⟨q⟩:=k;obtain ⟨u,rfl,a⟩:=r.one;unfold Rep at a;exact .inr (_,by rw[a],q _ H ZaT rep_i))
def Zr4{p b:Pos}(m:X.mg "int"=none) (l:QE Z X e te) (d:Gl X "int":= by rfl) (c:starEach [e] X.env=[(false,eval e X.env)]:=by rfl):QE Z X (.Call (.Name "int" p) [e] [] b) (ZfR zIB<|ZbR te Zkw) :=
 have a:=Zb7 l Zdc c
 (λj _ _ f q=>a.mo j _ _ (λ_ k=>(ZoW (Z:=Z)).1 _ _ _ f k) q,λi g=>Zbi (Ze7 Zhq d m boot_int (a.ok i g) ∅ ∅ c rfl) λ_ _ _ h=>one ZoW a.mo h)
section
variable{x:Str}{pos p2:Pos}{elt it:Expr}{te:ZE}{ti:ZA}{scope:Scope}
def Ztv(x:Str)(caps:List (Nat×Str))(h:QI Z X (.Name x p2) it ti)(n:∀d b a C,QE Z (Zb2 X x scope (x::caps.map (·.2)) b a C d) elt te)(g:CapsOk X scope caps:=by repeat (first | exact trivial | refine And.intro (rfl,rfl,by first | exact .inl rfl | exact .inr rfl) ?_))(s:X.calm=true:=by rfl)
    (O:OneCell scope x:=by exact (‹4›,rfl,λ_ _=>rfl,λ_=>rfl)) (j:(x::caps.map (·.2)).Nodup:=by decide +kernel)
    (m:(scope.names.all λy=>!(y.2==NameKind.free)||(X.env.cells.lookup y.1).isSome)=true:=by rfl)
    (e:scope.kind = .function:=by rfl)
    (c:∀y∈scope.names,y.2 = .local->scope.names.lookup y.1=some .local:=by decide +kernel) (u:∀x,foldedSetIterable it X.env x=pure x:=by intro _; rfl)
    (o:∀d b a C,Loc (Zb2 X x scope (x::caps.map (·.2)) b a C d).env.scope x/\(Zb2 X x scope (x::caps.map (·.2)) b a C d).fn x=true:=by exact λ_ _ _ _=>(by first | exact .inl rfl | exact .inr rfl,rfl)) :
    QL Z X (.ListComp elt [(.Name x p2,it,[],0)] scope pos) (zCo caps ti te):=by
  have v:Mo te:=(n [] X.s₀ X.H₀ 0).mo;exact (λt A B f q=>h.mo t _ _ (λl k=>k.mo (λ_ _ z=>z) f) q,λr p=>Zbi (Zm6 x [x] caps s (h.ok r p) (λd b a C=>ZaL (i:=0) j rfl (o d b a C).1<|.inl (o d b a C).2) (λd b a C=>(n d b a C).ok r p) g O m e c u)<|ZlD h.mo v)
end
inductive S_lunit:ZF
 |mk {Q:PK'} {κ:KX} {m:Nat} (m9:m<=1000) (q:Q (tab κ ((List.range m).map (unR κ m)))):S_lunit [.int κ.P,.int (m:Int)] Q
def Zmu:FnScope ["_law_prime_here","_law_size_here"] ["_law_prime_here","_law_size_here"] (Zab ZgA):=‹2›
def z_lunit(h:Here K mg "_law_unit" ZgA) (T:Nm mg) (b:Fn P w K mg base Z "_law_make" 3 S_lmake):Fn P w K mg base Z "_law_unit" 4 S_lunit:=by
 refine Za9 h (λ_ _ F=>F.b2 λ_ _ _ _ _ _ _ _=>rfl) Zmu (λr A B f ⟨a,q⟩=>(a,f _ q)) (λ_ _ ⟨_,_⟩=>rfl) (λ_ _ _ _ _ _ _ o =>
  (Zak<|ZaA<|QL.toE<|Ztv "_law_i" [(0,"_law_prime_here"),(1,"_law_size_here")] (Zdx T.range<|qv 1) (by exact λ_ _ _ _=>(QL.toE<|Zh6 "_law_j" [(0,"_law_i"),(1,"_law_prime_here")] (Zdx T.range<|qv 2) (by exact λ_ _ _ _=>(Zal b<|qa2 (qv 2)<|Zr4 T.int<|Znl Zbr leq (qv 1)<|qv 0)))))) ∅ ?_
 rintro _ Q ⟨g,q⟩
 rename_i c m
 refine (⋯,⋯,?_);rw[show ((m:Int)).toNat=m by omega];refine (((List.range m).map<|unR c m).map<|nums c,by rw[Q1,Q1,Qn,Zaz],by rw[Zaz];exact g,λi p d=>?_,q);obtain ⟨k,rfl⟩:=ZaO d;rw[Wk];refine (⋯,⋯,?_);rw[show ((m:Int)).toNat=m by omega];refine ((unR c m i).map<|num c,by rw[Q1,Zaz];exact Za1 _ _,by rw[Zaz];exact g,λj p d=>?_,?_)
 ·obtain ⟨n,rfl⟩:=ZaO d;rw[Wk];have e:∀x:c.F,x=(if j=i then 1 else 0)->((unR c m i).map<|num c)[j]?=some (num c x):=λx l=>by
   unfold unR;rw[List.map_map,Q3,Qs n,l];rfl
  refine ⟨?_⟩;show S_lmake [.int c.P,.int (if decide ((i:Int)=(j:Int))=true then 1 else 0)] _
  by_cases ij:j=i
  ·rw[decide_eq_true ⋯];exact S_lmake.mk 1 Zda<|e _ (by rw[if_pos ij])
  ·rw[decide_eq_false ⋯];exact S_lmake.mk 0 Zfv<|e _ (by rw[if_neg ij])
 ·rw[Q3,Q3,Qs k];rfl
variable{κ:KX}{A:ZZll κ}{m:Nat}{F u:ZZlk κ}
def FinK.len2(h:FinK A m F u)(t:TbK κ A m):2<=F.length/\F.length<=m+1:=by
 have b:=t.m1;refine (Wu λq=>?_,h.o.len);have a:F.length=1:=by have:=h.o.mo.1;omega
 have top:=h.o.mo.2;rw[a] at top;have z:=(h.k 0 ⋯).sum (i:=0) ⋯;rw[a] at z;have z:0+F.getD 0 0*vF (unR κ m 0) 0=0:=z;have e:vF (unR κ m 0) 0=1:=by
  show (unR κ m 0).getD 0 0=1;rw[show (unR κ m 0).getD 0 0=_ from ZaM _ ⋯,if_pos rfl]
 have top:F.getD 0 0=1:=top;rw[e,top] at z;exact Zcl (by rw[<-z];grind)
def FinK.qs(h:FinK A m F u)(t:TbK κ A m):∀x∈F,ZjK κ x:=t.sz h.o h.o.mo Fs.one (by generalize sr F=x;grind)
def FinK.top(h:FinK A m F u):F.getD (F.length-1) 0=1:=h.o.mo.2
def FinK.no(h:FinK A m F u){j:Nat}(b:j<m):∀i,i<m->Rg.Sg (λk=>F.getD k 0*Rg.im (ent A) m (vF<|unR κ m j) k i) F.length=0:=λ_ a=>(h.k j b).sum a
def FinK.ind(h:FinK A m F u){n:Nat}(d:F.length=n+1):Ind ((List.range n).map<|imL A m u) n m:=λg b=>h.o.ind d λi a=>by
 rw[<-b i a];refine Rg.Sg_congr λk c=>?_;rw[show ent ((List.range n).map<|imL A m u) k i=(imL A m u k).getD i 0 by rw[Zp1 c],show (imL A m u k).getD i 0=_ from ZaM _ a]
def FinK.row0(h:FinK A m F u)(t:TbK κ A m){n:Nat}(d:n<=m):∀i,i<n->RowY κ 0 (((List.range n).map<|imL A m u).getD i []):=λi a=>by
 rw[show ((List.range n).map<|imL A m u).getD i []=imL A m u i by rw[Q2,Q3,Qs a];rfl]
 cases κ with
 |r p b=>exact (1,1,∅,‹4›,‹4›,λ_ _=>trivial)
 |q =>
  have c:=t.m3 rfl;have q:=ZjD (m:=m) λr _=>Zmq (D:=12^(8*m)) (M:=2^(150*m)) t.m7 (λi j=>ZdC t.q i j) (λi=>ZcK h.s i) (Q9 ∅) i r;refine (12^(8*m)*12^i,756^i*2^(150*m),Q8 (Q9 ∅)<|Q9 ∅,?_,?_,q)
  ·rw[<-W4];exact Q0 (Q5 ∅ (show 8*m+i<=26 by omega)) ‹4›
  ·exact Qj (Q5 ∅ (show i<=2 by omega)) (Q5 ∅ ⋯)
def FinK.col(h:FinK A m F u)(t:TbK κ A m):∃D M:Nat,0<D/\D<=10^40/\M<=10^136/\∀x∈u,QN κ (D:Int) M x:=by
 cases κ with
 |r p b=>exact (1,1,∅,∅,∅,λ_ _=>trivial)
 |q =>
  have a:=t.m3 rfl;exact (12^(8*m),2^(150*m),Q9 ∅,Q0 (Q5 ∅ (show 8*m<=24 by omega)) ∅,Q0 (Q5 ∅ (show 150*m<=450 by omega)) ‹4›,h.s)
end Zp
namespace My
open PySem L2 PyProof.Rows
def Za8(K:ZZfg)(f:Sp):Sp:=λg H Q _=>∃v,g=[v]/\((v = .non/\Q .non H)\/(∃i:Int,v = .int i/\Q .non H) ∨
 (∃(t:Addr) (b:List V) (d:Nat->Hp->Prop),v = .ref t/\H t=some (.tup b)/\d 0 H/\(∀i a,i<=b.length->d i a->a t=some (.tup b))/\(∀i x a (e:VK),b[i]?=some x->d i a->(∀u c,d (i+1) c->e u c)->f [x] a e E0)/\∀a,d b.length a->Q .non a) ∨
 (∃(t:Addr) (b:List V) (d:Nat->Hp->Prop),v = .ref t/\H t=some (.lst b)/\b.length<=100/\d 0 H/\(∀i a,i<=b.length->d i a->a t=some (.lst b))/\(∀i x a (e:VK),b[i]?=some x->d i a->(∀u c,d (i+1) c->e u c)->f [x] a e E0)/\∀a,d b.length a->Q .non (upd a t<|.lst<|b++[.non])))
def Zhc(K:ZZfg):PySem.W.kitOne K (.type "NoneType") (.type "tuple")=some false:=Zcu K ‹4› ‹4› ‹4›
def ZeO(K:ZZfg):PySem.W.kitOne K (.type "NoneType") (.type "list")=some false:=Zcu K ‹4› ‹4› ‹4›
def NoN(κ:KX)(H:Hp)(v:V):Prop:=v = .non\/∃x:κ.F,NR κ H v x
def Zkr{K:ZZfg}{κ:KX}{Q:VK}(n:NoN κ H v)(k:Q .non H):Za8 K (Za8 K spF) [v] H Q E:=by
 rcases n with rfl|⟨x,n⟩
 ·exact (_,rfl,.inl (rfl,k))
 cases κ with
 |r p j=>exact (v,rfl,.inr<|.inl (_,n,k))
 |q =>
  obtain ⟨a,rfl,h⟩:=n;refine (_,rfl,.inr<|.inr<|.inl (a,_,λ_ c=>c=H,rfl,h,rfl,λi c _ e=>by rw[e];exact h,λi g c f b e d=>?_,λc e=>by rw[e];exact k));subst e
  match i,b with
  |0,b=>cases b;exact (_,rfl,.inr<|.inl (_,rfl,d _ _ rfl))
  |1,b=>cases b;exact (_,rfl,.inr<|.inl (_,rfl,d _ _ rfl))
  |i+2,b=>simp at b
def Zgg{K:ZZfg}{κ:KX}{H:Hp}{xs:List V}{Q:VK}(h:H a=some (.lst xs))(c:∀v∈xs,NoN κ H v)(l:xs.length<=100)(k:Q .non (upd H a<|.lst<|xs++[.non])):Za8 K (Za8 K<|Za8 K spF) [.ref a] H Q E:=by
 refine (_,rfl,.inr<|.inr<|.inr (a,xs,λ_ b=>b=H,rfl,h,l,rfl,λi b _ e=>by rw[e];exact h,λi j b g d e f=>?_,λb e=>by rw[e];exact k));subst e;exact Zkr (c _<|Qd d)<|f _ _ rfl
section
variable{P:Program}{w:World}{K:ZZfg}{mg:ZZmg}{base:Heap}{CF CR:Addr}
def sc_l_spoil:FnScope ["_law_thing","_law_one"] ["_law_thing"] (Zab Zd2):=‹2›
def Zr5(h:Here K mg "_law_spoil" Zd2):Has P w K mg base "_law_spoil" 0 ["_law_thing"] spF :=
 h.has (λ_ _ F=>F.b1 λ_ _ _ _ _ _ _=>rfl) λf a F=>(λ_ _ _ _ z=>z.elim,λ_ _ _ _ _ _ _ _ _ _ _ _ _ z=>z.elim)
def Zdu{j:Nat}(h:Here K mg "_law_spoil" Zd2) (T:Nm mg) (a:Has P w K mg base "_law_spoil" j ["_law_thing"] l):Has P w K mg base "_law_spoil" (j+1) ["_law_thing"] (Za8 K l):=by
  refine h.has (λ_ _ F=>F.b1 λ_ _ _ _ _ _ _=>rfl) λf L F=>F.ok sc_l_spoil (λG H Q E h=>?_)<|λD A y s H G Q E n h=>?_
  · obtain ⟨_,rfl,_⟩:=h
    rfl
  have o:=sc_l_spoil.nd;obtain ⟨v,rfl,⟨rfl,k⟩ | ⟨i,rfl,k⟩ | ⟨t,xs,C,rfl,g,z,m,e,k⟩ | ⟨t,xs,C,rfl,g,J,z,m,e,k⟩⟩:=h
  · refine (_,(Zag (ZaY (ZcW (ZaQ<|Zao Zam (by rfl) T.isinstance boot_isinstance<|Zaa (pv 0)<|Zaa (Zcg (by rfl) T.tuple boot_tuple) Zaf)<|ZcO<|ZaQ<|Zao Zam (by rfl) T.isinstance boot_isinstance<|Zaa (pv 0)<|Zaa (Zcg (by rfl) T.list boot_list) Zaf).pt (Zad<|Zdz PassesOwn.never rfl (ZcX<|pv 0) (ZaL (i:=1) o rfl<|Or.inl rfl)<|Zad<|Zbm<|ZaG a n (by rfl)<|Zaa (pv 1) Zaf) Zav)
      (Zad<|ZaY (ZaQ<|Zao Zam (by rfl) T.isinstance boot_isinstance<|Zaa (pv 0)<|Zaa (Zcg (by rfl) T.list boot_list) Zaf) (Zad<|Zbm<|Zic PySem.F.plainAttrs_list PySem.F.slot_list_append PySem.F.type_list_append Zcn (pv 0)<|Zaa Zhk Zaf) Zav)),?_)
    refine (_,rfl,_,_,_,_,rfl,.of .non,.ty<|Zhc K,_,rfl,Zed ?_);refine (_,rfl,_,_,_,_,rfl,.of .non,.ty<|ZeO K,_,rfl,Zed ?_);refine (_,rfl,_,_,_,_,rfl,.of .non,.ty<|ZeO K,_,rfl,Zed ?_);exact k
  · refine (_,(Zag (ZaY (ZcW (ZaQ<|Zao Zam (by rfl) T.isinstance boot_isinstance<|Zaa (pv 0)<|Zaa (Zcg (by rfl) T.tuple boot_tuple) Zaf)<|ZcO<|ZaQ<|Zao Zam (by rfl) T.isinstance boot_isinstance<|Zaa (pv 0)<|Zaa (Zcg (by rfl) T.list boot_list) Zaf).pt (Zad<|Zdz PassesOwn.never rfl (ZcX<|pv 0) (ZaL (i:=1) o rfl<|Or.inl rfl)<|Zad<|Zbm<|ZaG a n (by rfl)<|Zaa (pv 1) Zaf) Zav)
      (Zad<|ZaY (ZaQ<|Zao Zam (by rfl) T.isinstance boot_isinstance<|Zaa (pv 0)<|Zaa (Zcg (by rfl) T.list boot_list) Zaf) (Zad<|Zbm<|Zic PySem.F.plainAttrs_list PySem.F.slot_list_append PySem.F.type_list_append Zcn (pv 0)<|Zaa Zhk Zaf) Zav)),?_)
    refine (_,rfl,_,_,_,_,rfl,.of<|.int i,.ty<|ZgU K,_,rfl,Zed ?_);refine (_,rfl,_,_,_,_,rfl,.of<|.int i,.ty<|ZeL K,_,rfl,Zed ?_);refine (_,rfl,_,_,_,_,rfl,.of<|.int i,.ty<|ZeL K,_,rfl,Zed ?_);exact k
  · refine (_,(Zag (ZaY (ZcW (ZaQ<|Zao Zam (by rfl) T.isinstance boot_isinstance<|Zaa (pv 0)<|Zaa (Zcg (by rfl) T.tuple boot_tuple) Zaf)<|ZcO<|ZaQ<|Zao Zam (by rfl) T.isinstance boot_isinstance<|Zaa (pv 0)<|Zaa (Zcg (by rfl) T.list boot_list) Zaf).pt (Zad<|Zdz PassesOwn.never rfl (ZqD<|pv 0) (ZaL (i:=1) o rfl<|Or.inl rfl)<|Zad<|Zbm<|ZaG a n (by rfl)<|Zaa (pv 1) Zaf) Zav)
      (Zad<|ZaY (ZaQ<|Zao Zam (by rfl) T.isinstance boot_isinstance<|Zaa (pv 0)<|Zaa (Zcg (by rfl) T.list boot_list) Zaf) (Zad<|Zbm<|Zic PySem.F.plainAttrs_list PySem.F.slot_list_append PySem.F.type_list_append Zcn (pv 0)<|Zaa Zhk Zaf) Zav)),?_)
    refine (_,rfl,_,_,_,_,rfl,.of<|.tup g,.ty<|ZbT K _,_,rfl,Zkv ?_);refine (_,rfl,t,rfl,(_,SqT.of g),?_);refine Zo2 (xs:=xs) (λi c b=>∃d:Option V,c=[some<|.ref t,d]/\C i b) (_,rfl,z) ?_ ?_ ?_
    · rintro i c b r ⟨d,rfl,p⟩
      exact SqT.of<|m i b r p
    · rintro i x c b u ⟨d,rfl,p⟩
      exact (_,rfl,e i x b _ u p λ_ I q=>(_,rfl,q))
    · rintro c b ⟨d,rfl,p⟩
      refine (_,rfl,_,_,_,_,rfl,.of<|.tup<|m _ b (Q4 _) p,.ty<|ZfV K,_,rfl,Zed ?_);exact k b p
  · refine (_,(Zag (ZaY (ZcW (ZaQ<|Zao Zam (by rfl) T.isinstance boot_isinstance<|Zaa (pv 0)<|Zaa (Zcg (by rfl) T.tuple boot_tuple) Zaf)<|ZcO<|ZaQ<|Zao Zam (by rfl) T.isinstance boot_isinstance<|Zaa (pv 0)<|Zaa (Zcg (by rfl) T.list boot_list) Zaf).pt (Zad<|Zdz PassesOwn.never rfl (ZcX<|pv 0) (ZaL (i:=1) o rfl<|Or.inl rfl)<|Zad<|Zbm<|ZaG a n (by rfl)<|Zaa (pv 1) Zaf) Zav)
      (Zad<|ZaY (ZaQ<|Zao Zam (by rfl) T.isinstance boot_isinstance<|Zaa (pv 0)<|Zaa (Zcg (by rfl) T.list boot_list) Zaf) (Zad<|Zbm<|Zic PySem.F.plainAttrs_list PySem.F.slot_list_append PySem.F.type_list_append Zcn (pv 0)<|Zaa Zhk Zaf) Zav)),?_)
    refine (_,rfl,_,_,_,_,rfl,.of<|.lst g,.ty<|ZfW K,_,rfl,Zed ?_);refine (_,rfl,_,_,_,_,rfl,.of<|.lst g,.ty<|ZbT K _,_,rfl,Zkv ?_);refine (_,rfl,t,rfl,(_,SqL.of g),?_);refine ZeT (xs:=xs) (λi c b=>∃d:Option V,c=[some<|.ref t,d]/\C i b) (_,rfl,z) ?_ ?_ ?_
    · rintro i c b r ⟨d,rfl,p⟩
      exact SqL.of<|m i b r p
    · rintro i x c b u ⟨d,rfl,p⟩
      exact (_,rfl,e i x b _ u p λ_ I q=>(_,rfl,q))
    · rintro c b ⟨d,rfl,p⟩
      have B:=m _ b (Q4 _) p;refine (_,rfl,_,_,_,_,rfl,.of<|.lst B,.ty<|ZbT K _,_,rfl,Zkv ?_);refine (_,rfl,.inl (rfl,_,SqL.of B),t,xs,.non,rfl,rfl,B,Qa (show xs.length<1000 by omega) ∅,?_);exact k b p
end
def NoN.upd{κ:KX}{us:List V}(h:NoN κ H v)(d:H a=some (.lst us)):NoN κ (upd H a o) v:=by
 rcases h with h|⟨x,n⟩
 ·exact .inl h
 cases κ with
 |r p f=>exact .inr (x,n)
 |q =>
  obtain ⟨b,rfl,c⟩:=n;exact .inr (x,b,rfl,by rw[Zaj (λe=>by rw[e,d] at c;cases c)];exact c)
def Zmv{K:ZZfg}{κ:KX}{t a b:Addr}{us ws:List V}{Q:VK}(S:Same g j)(C:j t=some (.tup [.ref a,.ref b]))(r:j a=some (.lst us))(A:j b=some (.lst ws))(I:g a=none)(H:g b=none)(x:∀v∈us,NoN κ j v)(y:∀v∈ws,NoN κ j v)(O:us.length<=50)(lw:ws.length<=50)(k:∀G,Same g G->Q .non G):Za8 K (Za8 K<|Za8 K<|Za8 K spF) [.ref t] j Q E:=by
 have D:∀ {f:Hp} {d:Addr} {o:HO},Same g f->g d=none->Same g (upd f d o):=λS n b u q=>by rw[Zaj<|ZaF q n];exact S _ _ q
 refine (_,rfl,.inr<|.inr<|.inl (t,_,λi f=>Same g f/\f t=some (.tup [.ref a,.ref b])/\(i<=1->∃s,f b=some (.lst s)/\s.length<=100/\∀v∈s,NoN κ f v)/\(i=0->f=j),rfl,C,(S,C,λ_=>(ws,A,⋯,y),λ_=>rfl),λi f _ p=>p.2.1,λi R f P l p F=>?_,λf p=>k f p.1));obtain ⟨B,c,N,L⟩:=p
 match i,l with
 |0,l =>
  cases l
  have e:=L rfl;subst e;refine Zgg r x ⋯<|F _ _ (D B I,by rw[Zaj (λe=>by rw[e,r] at c;cases c)];exact c,λ_=>?_,λz=>⋯)
  by_cases e:b=a
  ·subst e;refine (_,Zai,by rw[Qi];show us.length+1<=100;omega,λv w=>?_);rcases We.mp w with h|h
   ·exact (x v h).upd r
   ·exact .inl (Qf.mp h)
  ·exact (ws,by rw[Zaj e];exact A,⋯,λv w=>(y v w).upd r)
 |1,l =>
  cases l
  obtain ⟨s,m,M,J⟩:=N<|Q4 _;exact Zgg m J M<|F _ _ (D B H,by rw[Zaj (λe=>by rw[e,m] at c;cases c)];exact c,λz=>⋯,λz=>⋯)
 |i+2,l=>simp at l
end My
namespace Zp
open My
open PySem L2 PyProof.Rows
variable{Z:Zc}{X:Cx}{P:Program}{w:World}{K:ZZfg}{mg:ZZmg}{base:Heap}{cF:Addr}
section
variable{p p2 pos:Pos}{e:Expr}{te:ZE}
abbrev ZuH(te:ZE):ZE:=λa Q=>te a λp=>match p with
 | .tup _=>Q<|.bl true
 |_=>False
abbrev ZuI(te:ZE):ZE:=λa Q=>te a λp=>match p with
 | .lst _=>Q<|.bl true
 |_=>False
def Ztw(j:X.mg "isinstance"=none) (l:X.mg "tuple"=none) (h:QE Z X e te) (m:Gl X "isinstance":= by rfl) (c:Gl X "tuple":= by rfl) (g:starEach [e,.Name "tuple" p2] X.env=(false,eval e X.env)::starEach [.Name "tuple" p2] X.env:=by rfl):QE Z X (.Call (.Name "isinstance" p) [e,.Name "tuple" p2] [] pos) (ZuH te) :=
 (λb _ _ f q=>h.mo b _ _ (λp k=>by
  split at k
  ·exact f _ k
  ·exact k.elim) q,λo n=>Zbi (Zao Zbz m j boot_isinstance (Zaa (h.ok o n) (Zaa (Zcg c l boot_tuple) Zaf) g) ∅ ∅ g rfl) λu H Q ⟨O,b,s,q⟩=>(O,b,s,h.mo b _ _ (λp k v r t d=>by
  split at k
  ·unfold Rep at d;obtain ⟨a,x,rfl,i,_⟩:=d;exact (_,_,_,true,rfl,.tup<|Zaw _ _ i,ZbT _ _,k _ r t ZfQ)
  ·exact k.elim) q))
def Ztx(j:X.mg "isinstance"=none) (l:X.mg "list"=none) (h:QE Z X e te) (m:Gl X "isinstance":= by rfl) (c:Gl X "list":= by rfl) (g:starEach [e,.Name "list" p2] X.env=(false,eval e X.env)::starEach [.Name "list" p2] X.env:=by rfl):QE Z X (.Call (.Name "isinstance" p) [e,.Name "list" p2] [] pos) (ZuI te) :=
 (λb _ _ f q=>h.mo b _ _ (λp k=>by
  split at k
  ·exact f _ k
  ·exact k.elim) q,λo n=>Zbi (Zao Zbz m j boot_isinstance (Zaa (h.ok o n) (Zaa (Zcg c l boot_list) Zaf) g) ∅ ∅ g rfl) λu H Q ⟨O,b,s,q⟩=>(O,b,s,h.mo b _ _ (λp k v r t d=>by
  split at k
  ·unfold Rep at d;obtain ⟨a,x,rfl,i,_⟩:=d;exact (_,_,_,true,rfl,.lst<|Zaw _ _ i,ZbT _ _,k _ r t ZfQ)
  ·exact k.elim) q))
end
inductive S_lisrow:ZF
 |mk {Q:PK'} {κ:KX} {f:ZZlk κ} (q:Q (.bl true)):S_lisrow [.int κ.P,nums κ f,.int (f.length:Int)] Q
def z_lisrow{k:Nat}(h:Has P w K mg base "_law_is_row" k ps ZcI):Fn P w K mg base Z "_law_is_row" k S_lisrow :=
 fn_of h.toX (λps A B f ⟨q⟩=>⟨f _ q⟩) λO H pv j Q E L r s=>by
  obtain ⟨q⟩:=s;obtain ⟨u,v,t,rfl,i,e,d⟩:=r.three;rw[Zax i,Zax d];obtain ⟨a,b,rfl,g,c⟩:=Za0 e;exact (_,a,b,_,rfl,Zaw _ _ g,Zds c,q _ H ZaT ZfQ)
def Zmw{κ:KX}{R:ZZll κ}(h:Rep Z (hide O H) (tab κ R) v):Rp H 3 v (.list<|R.map λf => .list<|f.map κ.D):=by
 obtain ⟨a,d,rfl,k,r⟩:=Za0 h;refine .inr<|.inl (a,d,_,rfl,rfl,Zaw _ _ k,by have:=r.len;rw[Q1] at this ⊢;exact this,λi u e j c=>?_);rw[Q3] at c
 cases hx:R[i]? with
 |none=>rw[hx] at c;cases c
 |some f =>
  rw[hx] at c;cases c;obtain ⟨l,b,g⟩:=r.get (show (R.map<|nums κ)[i]?=some (nums κ f) by rw[Q3,hx];rfl);rw[j] at b;cases b;exact Zmr g
inductive NeTP:R2'
 |mk {Q:PK'} {κ:KX} {R:ZZll κ} (q:Q (.bl false)):NeTP (tab κ R) (tab κ R) Q
def Zty:LR Z ZtH NeTP:=(λp q A B f ⟨h⟩=>⟨f _ h⟩,λO H p q x y Q _ a b k=>by
 obtain ⟨k⟩:=k;exact (_,(Zmw a).mono ∅,(Zmw b).mono ∅,k _ H ZaT ZfQ))
abbrev Zc.at(Z:Zc)(s:Addr->Prop):Zc:=(Z.f,Z.r,Z.p,s,Z.t,Z.la,Z.las)
inductive S_least:ZF
 |mk {Q:PK'} {κ:KX} {A:ZZll κ} {m:Nat} (t:TbK κ A m) (q:∀F u,FinK A m F u->Q (.tup [frs κ F,frs κ u])):S_least [.kd κ,tab κ A] Q
def Zhd(Z:Zc):Sp:=λa H Q E=>∃s,liF (Z.at s) S_least a H Q E
abbrev Zr6(i j:Nat):ZS:=λD b=>∃(a:KX) (A:ZZll a) (m:Nat),sget b i=some (.val<|.kd a)/\sget b j=some (.val<|tab a A)/\TbK a A m/\D.nx b
def Zmx{κ:KX}{f:ZZlk κ}(r:Reps Z (hide O H) (f.map<|num κ) us):∀v∈us,NoN κ H v:=λv b=>by
 obtain ⟨i,c⟩:=List.getElem?_of_mem b;have a:=Zds r;obtain ⟨x,_,n⟩:=a.get c;exact .inr (x,n)
def ZnW{x y:Str}{p p2 p3 T p5 R o:Pos}(i j:Nat)(f:HasX X.prog X.w X.K X.mg X.base "least" k ps (Zhd Z)) (g:Has X.prog X.w X.K X.mg X.base "_law_spoil" k ["_law_thing"] (Za8 X.K<|Za8 X.K<|Za8 X.K<|Za8 X.K spF)) (hr:Room k X.A:=by assumption) (hg:Gl X "_law_spoil" := by rfl) (I:Gl X "least" := by rfl)
    (hN:X.N[i]?=some x:=by rfl) (hv:Vis X.env.scope x:=by first | exact .inl rfl | exact .inr (.inl rfl) | exact .inr (.inr rfl)) (hd:(x==("__debug__" : Str))=false:=by decide) (B:(x==("__classdict__" : Str))=false:=by decide)
    (z:X.N[j]?=some y:=by rfl) (G:Vis X.env.scope y:=by first | exact .inl rfl | exact .inr (.inl rfl) | exact .inr (.inr rfl)) (L:(y==("__debug__" : Str))=false:=by decide) (h:(y==("__classdict__" : Str))=false:=by decide)
    (hs:swapsWith (.Call (.Name "_law_spoil" p) [.Call (.Name "least" p2) [.Name x p3,.Name y T] [] p5] [] R) none o.line X.env=pure false:=by rfl):QS Z X (.Expr (.Call (.Name "_law_spoil" p) [.Call (.Name "least" p2) [.Name x p3,.Name y T] [] p5] [] R) o) (Zr6 i j) :=
  (λD D' ρ l ⟨κ,A,m,a,b,c,d⟩=>(κ,A,m,a,b,c,l.nx _ d),λH0 O0=>ZcU (Zbm (ZaG g hr hg<|Zaa (Zeg f Zla hr I<|Zaa (Zcm hN hv hd B)<|Zaa (Zcm z G L h) Zaf) Zaf) hs) λD Y H ⟨O,ρ,s,κ,A,m,ei,ej,t,kk⟩=>by
    obtain ⟨v,ev,r⟩:=s.rel i _ ei;obtain ⟨v2,C,q⟩:=s.rel j _ ej
    cases r with | val r=>?_
    cases q with | val q=>?_
    have rk:Rep (Z.at λa=>hide O H a≠none) (hide O H) (.kd κ) v:=by
      unfold Rep at *;obtain ⟨a,e,h1,h2⟩:=r;exact (a,e,h1,λa n=>n,h2.2)
    refine (v,ev,v2,C,λa=>hide O H a≠none,O,[.kd κ,tab κ A],s.ls,.cons rk<|.cons (ZoS (Mx.of ZaT) q) .nil,S_least.mk t λF u W v3 H2 S2 U=>?_);unfold Rep at U;obtain ⟨tt,us,rfl,ht,rr⟩:=U;obtain ⟨x1,x2,rfl,q1,q2⟩:=rr.two;unfold Rep at q1 q2;obtain ⟨a,ua,rfl,na,S,M⟩:=q1;obtain ⟨b,ub,rfl,nb,hb,rb⟩:=q2;have la:=M.len;have lb:=rb.len;rw[Q1] at la lb;have lF:=W.o.len;have lu:=W.l;have m7:=t.m7;have nn:∀c,c∉O->¬(hide O H c≠none)->H c=none:=λc co n=>by
      have:=Classical.not_not.mp n
      rwa [hide_out co] at this
    exact Zmv (κ:=κ) (Q:=λ_ J=>D.nx Y J) (E:=E0) S2 (Zaw _ _ ht) (Zaw _ _ S) (Zaw _ _ hb) (nn a (Zbp S).1 na) (nn b (Zbp hb).1 nb) (Zmx M) (Zmx rb) ⋯ ⋯ λJ N=>kk O Y J (s.same N)<|Zan N)
section
variable{X:Cx}{P:Program}{w:World}{K:ZZfg}{mg:ZZmg}{base:Heap}{F R C:Addr}{s:Addr->Prop}{tt:Addr->Array Value->Prop}
abbrev zGa:ZE:=λb Q=>∃(a:KX) (A:ZZll a) (m:Nat),sget b 0=some (.val<|.kd a)/\sget b 1=some (.val<|tab a A)/\sget b 2=some (.val<|nums a<|Chi A m)/\TbK a A m/\∀F u,FinK A m F u->Q (.tup [frs a F,frs a u])
def Zr7{p p1 p2 p3 p4 p5 a5 pl:Pos}{c T cw ck ca:Addr}(Tn:Nm X.mg)(a0:Fn X.prog X.w X.K X.mg X.base (Zk F R C s tt) "gathered" 14 S_gathered) (hr:Room 14 X.A) (B:Bm X.mg X.base) (Cd:PySem.W.CodeHd X.base c T) (hT:tt T laT) (g:X.env.code = .ref c) (I:X.env.qual=("least" ++ ".<locals>." : Str)) (l:X.N=(["kind", "A", "whole"]:List Str)) (a1:∀y,X.fn y=true)
    (hp:pl=laP lmE) (hs:X.env.scope=Zab ZcC) (Y:∀q∈([("whole", cw),("kind", ck),("A", ca)]:List (Str×Addr)),X.env.cells.lookup q.1=some q.2) (a4:closureFor (laS lmE) X.env=pure ([("whole", cw),("kind", ck),("A", ca)]:List (Str×Addr))) (n1:cw≠ck) (n2:cw≠ca) (n3:ck≠ca) :
    QE (Zk F R C s tt) X (.Call (.Name "gathered" p) [.Name "kind" p1,.Name "A" p2,.Call (.Name "len" p3) [.Name "whole" p4] [] p5,.Lambda (laA lmE) (laB lmE) (laS lmE) pl] [] a5) zGa:=by
  obtain ⟨ps,hh⟩:=a0.has;have kc:∀q∈([("whole", cw),("kind", ck),("A", ca)]:List (Str×Addr)),X.env.scope.names.lookup q.1=some .cell:=λq I=>by
    rw[hs]
    simp only[Qe,Wg,or_false] at I
    rcases I with rfl | rfl | rfl <;> rfl
  have gl:∀x,(Zab ZcC).names.lookup x=some .globalImplicit->Gl X x:=λx e=>by unfold Gl; show X.env.scope.names.lookup x=_; rw[hs]; exact e
  have vk:∀x,(Zab ZcC).names.lookup x=some .cell->Vis X.env.scope x:=λx e => .inr<|.inl (by rw[hs]; exact e);refine (λρ A B f ⟨r,T,m,e0,e1,N,t,q⟩=>(r,T,m,e0,e1,N,t,λF u k=>f _<|q F u k),λH0 O0=>Zbi (ZpN (cl:=[("whole", cw),("kind", ck),("A", ca)]) hh hr (gl _ rfl) (Zaa (Zcm (i:=0) (by rw[l]; rfl)<|vk _ rfl)<|Zaa (Zcm (i:=1) (by rw[l]; rfl)<|vk _ rfl)<|Zaa ((ZaP (Z:=Zk F R C s tt) Tn.len (qv 2 (by rw[l]; rfl)<|vk _ rfl)<|gl _ rfl).ok H0 O0)<|Zaa (Zrw a4 rfl g Cd B) Zaf) Y kc a1) λσ H Q ⟨O,ρ,sr,r,A,m,e0,e1,N,tb,k⟩=>?_);obtain ⟨v0,E,D⟩:=sr.rel 0 _ e0;obtain ⟨v1,J,L⟩:=sr.rel 1 _ e1;obtain ⟨v2,a3,W⟩:=sr.rel 2 _ N
  cases D with | val D=>?_
  cases L with | val L=>?_
  cases W with | val W=>?_
  refine (v0,E,v1,J,O,ρ,sr,?_);show zV 2 ρ _;unfold zV;rw[N];show ∀v H',_;intro v3 H3 S3 r3;have lc:((Chi A m).map<|num r).length=m+1:=by rw[Q1]; exact ZaI _ _
  rw[lc] at r3;obtain rfl:=Zax r3;have gd:=Zol D;have a2:H3 T=some (.tbl laT):=S3 _ _<|Zaw _ _<|gd.2 T laT hT;refine (by rw[hp,I]; exact a2,λf c' oc vs t pm a6 H4 S4 nf hf hc hd hv h S5 cn U co=>?_);rw[I] at hf hv;have d:=ZaH S3<|ZaH S4 S5;have l5:=sr.ls.same d;have cW:=U _ (.head _) 2 v2 (by rw[l]; rfl) a3;have cK:=U _ (.tail _<|.head _) 0 v0 (by rw[l]; rfl) E;have cA:=U _ (.tail _<|.tail _<|.head _) 1 v1 (by rw[l]; rfl) J;have nO:∀a o,h a=some o->(∀S,o ≠ .lst S)->hide O h a=some o:=λa o z n=>by
    rw[hide_out λm=>by obtain ⟨S,y⟩:=l5 a m; rw[z] at y; cases y; exact n _ rfl]; exact z
  have cO:∀ {c v},CellT h c v->CellT (hide O h) c v:=λ⟨o,u,a,b⟩=>(o,u,nO _ _ a nofun,b);have G:∀a o,H a=some o->a∉[cw,ck,ca]:=λa o z m=>by
    have j:=S4 _ _<|S3 _ _ z
    simp only[Qe,Wg,or_false] at m
    rcases m with rfl | rfl | rfl
    · rw[cn _<|.head _] at j; cases j
    · rw[cn _<|.tail _<|.head _] at j; cases j
    · rw[cn _<|.tail _<|.tail _<|.head _] at j; cases j
  have M:Mx (hide O H) (hide [cw,ck,ca]<|hide O h):=λa o n z=>by
    rw[hide_out<|G a o<|Zaw _ _ z]; exact Zan d _ _ z
  refine (O,[.kd r,tab r A,.int ((m+1:Nat):Int),.la r A],l5,.cons (D.same<|Zan d)<|.cons (L.same<|Zan d)<|.cons rep_i<|.cons ?_ .nil,S_gathered.mk tb λF u fk v H6 S6 r6=>(S6,?_))
  · unfold Rep
    exact (f,rfl,LaP.mk (nO _ _ (S5 _ _ hf) nofun) (nO _ _ (S5 _ _ hc) nofun) hd hv (cO cW) (cO cK) (cO cA) n1 n2 n3 (ZiZ M W) (Ztq (Z:=Zk F R C s tt) M rfl rfl ZuF D) (ZoS M L) tb)
  · have M6:Mx (hide O H6) (hide O<|hide [cw,ck,ca] H6):=λa o n z=>by
      obtain ⟨ao,z⟩:=Zbp z;rw[hide_out ao,hide_out λm=>?_]
      · exact z
      · simp only[Qe,Wg,or_false] at m
        have no:∀ {c v},CellT h c v->a≠c:=λ⟨o',_,b,_⟩ e=>by
          subst e;rw[S6 _ _ b] at z; cases z;exact n _ rfl
        rcases m with m | m | m
        · exact no cW m
        · exact no cK m
        · exact no cA m
    refine k F u fk v _ (λa o z=>?_) ?_
    · show hide [cw,ck,ca] H6 a=_
      rw[hide_out<|G a o z]; exact S6 _ _<|d _ _ z
    · unfold Rep at *
      obtain ⟨a,S,e,ha,rr⟩:=r6;obtain ⟨u1,u2,rfl,q1,q2⟩:=rr.two;exact (a,_,e,M6 _ _ nofun ha,.cons (ZoT M6 q1)<|.cons (ZoT M6 q2) .nil)
def CdK(K:ZZfg)(mg:ZZmg)(x:Str)(c:Addr):Prop:=∃f b d a e,mg x=some (.ref f)/\K.lookup f=some (b,d,.func a,e)/\a.code = .ref c
def sc_least:FnScope ["kind","A","whole"] ["kind","A"] (Zab ZcC):=‹2›
def z_least(h:Here K mg "least" ZcC) (z:Nm mg) (k:∀s,Fn P w K mg base (Zk F R C s tt) "great" 14 S_great) (j:∀s,Fn P w K mg base (Zk F R C s tt) "gathered" 14 S_gathered) (B:Bm mg base) (L:PySem.W.CodeHd base c T) (y:tt T laT) (D:CdK K mg "least" c) :
    HasX P w K mg base "least" 15 ["kind", "A"] (Zhd<|Zk F R C s tt):=by
  have U:=sc_least.nd;have b:∀d Q,S_least d Q->d.length=2:=λ_ _ ⟨_,_⟩=>rfl;obtain ⟨f,I,n,x⟩:=h.ex;refine (f,I,?_,x,n.kp,n.binds λ_ _ _ _ _ _ Y a=>by obtain ⟨_,_,rfl⟩:=len2 a; exact rfl);obtain ⟨oc,od,kV,S,pm,W,i,ct,J,rfl,v,m⟩:=n.ex;obtain ⟨f',_,_,_,_,u,p,M⟩:=D;rw[x] at u; cases u;rw[v] at p; cases p;obtain rfl:i = .ref c:=M;refine L2.fn_of v m sc_least (λd H Q E ⟨e,a⟩=>?_) λA g s H d Q E G ⟨e,a⟩=>?_
  · obtain ⟨O,pv,l,r,q⟩:=a
    rw[r.len]; exact b _ _ q
  · refine ZgS (N:=["kind", "A", "whole"]) (ps:=["kind", "A"]) b (Zae (Zat 2 U<|Zal (k e)<|qa2 (qv 0)<|qv 1)<|Zak<|ZaA<|Zr7 (cw:=s.heap.objs.size+3) (ck:=s.heap.objs.size+1) (ca:=s.heap.objs.size+2) z (j e) G B L y rfl rfl rfl (λ_=>rfl) rfl rfl (λq o=>?_) rfl ?_ ?_ ?_) ∅ (λd Q ⟨t,q⟩=>?_) a
    · simp only[Qe,Wg,or_false] at o
      rcases o with rfl | rfl | rfl <;> rfl
    · show (s.heap.objs.size+3:Nat)≠s.heap.objs.size+1; omega
    · show (s.heap.objs.size+3:Nat)≠s.heap.objs.size+2; omega
    · show (s.heap.objs.size+1:Nat)≠s.heap.objs.size+2; omega
    · exact S_great.mk t.l t.w t.m1 t.m7 (Ztm t.q) (_,_,_,rfl,rfl,rfl,t,q)
end
def ZnX{k:Nat}(h:HasX P w K mg base "least" k ps (Zhd Z)):Fn P w K mg base Z "least" k S_least :=
 (λps A B f ⟨t,q⟩=>(t,λF u k=>f _<|q F u k),ps,let ⟨f',fd,F,m,kp,b⟩:=h.ex;(f',fd,F.imp<|λa H Q E q=>(Z.s,q),m,kp,b))
inductive S_lleast:ZF
 |mk {Q:PK'} {κ:KX} {A:ZZll κ} {m:Nat} (t:TbK κ A m) (q:Q (.bl true)):S_lleast [.kd κ,.int κ.P,tab κ A] Q
def sc_l_least:FnScope ["_law_kind_here","_law_prime_here","_law_table","_law_handed","_law_told","_law_f","_law_column"] ["_law_kind_here","_law_prime_here","_law_table"] (Zab Zfo):=‹2›
def z_lleast{ps:List Str}(h:Here K mg "_law_least" Zfo) (T:Nm mg) (R:HasX P w K mg base "least" 15 ps (Zhd Z)) (r:Has P w K mg base "_law_spoil" 15 ["_law_thing"] (Za8 K<|Za8 K<|Za8 K<|Za8 K spF)) (c:Fn P w K mg base Z "_law_is_row" 15 S_lisrow) (v:Fn P w K mg base Z "_law_make" 15 S_lmake) (s:Fn P w K mg base Z "_law_unit" 15 S_lunit) (o:Fn P w K mg base Z "_law_nought" 15 S_lnought) (l:Fn P w K mg base Z "_law_ranked" 15 S_lranked) (g:Fn P w K mg base Z "_law_chained" 15 S_lchain):Fn P w K mg base Z "_law_least" 16 S_lleast:=by
 have C:=sc_l_least.nd;have x:=ZnX R;refine Za9 h (λ_ _ F=>F.b3 λ_ _ _ _ _ _ _ _ _=>rfl) sc_l_least (λps A B f ⟨a,q⟩=>(a,f _ q)) (λ_ _ ⟨_,_⟩=>rfl) (λ_ _ _ _ _ _ _ O =>
  (Zae (ZiG 3 "_law_row" [] C (ZfT<|qv 2) (by exact λ_ _ _ _=>(QL.toE<|Zjn T.list<|qv 0)))
  (Zae (ZnW 0 3 R r)
  (Zae (Zat 4 C<|Zal x<|qa2 (qv 0)<|qv 3)
  (Zae (ZdQ (QW.t<|Zqp (Zkf<|ZpB<|Ztw T.isinstance T.tuple<|qv 4)<|Zqp (ZfK Zgi lne (ZaP T.len<|qv 4) Zas)<|ZpC<|ZfK (ZqV O) Zty (qv 3)<|qv 2) (Zak<|ZaA Zsf) Zb8)
  (Zae (Zat 5 C<|ZpM<|Zbs (qv 4) Zas)
  (Zae (ZdQ (QW.t<|Zqp (Zkf<|ZpB<|Ztx T.isinstance T.list<|qv 5)<|Zqp (ZfK ZdW lb (ZaP T.len<|qv 5) Zas)<|Zqp (ZfK Ze3 lb (ZaP T.len<|qv 5)<|ZeQ Za6 li (ZaP T.len<|qv 2) Zas)<|ZpC<|Zkf<|ZpB<|Zal c<|qa3 (qv 1) (qv 5)<|ZaP T.len<|qv 5) (Zak<|ZaA Zsf) Zb8)
  (Zae (ZdQ (QW.t<|Zqp (ZfK (Zoc O) ZtP (Zbs (qv 5)<|ZeQ Zbq li (ZaP T.len<|qv 5) Zas)<|Zal v<|qa2 (qv 1) Zas)<|ZpC<|Zkf<|ZpB<|Zal c<|qa3 (qv 1) (ZpM<|Zbs (qv 4) Zas)<|ZaP T.len<|qv 2) (Zak<|ZaA Zsf) Zb8)
  (Zae (Zby [6] (ZfT<|Zal s<|qa2 (qv 1)<|ZaP T.len<|qv 2) (ZhL 6 C)<|Zak<|ZdQ (Zkf<|ZpB<|Zal o<|qa4 (qv 1) (qv 5) (qv 2)<|qv 6) (Zak<|ZaA Zsf) Zb8)
  (Zak<|ZaA<|Znl Zbr leq (Zal l<|qa2 (qv 1)<|Zal g<|qa4 (qv 1) (qv 2) (ZpM<|Zbs (qv 4) Zas)<|ZeQ Zbq li (ZaP T.len<|qv 5) Zas)<|ZeQ Zbq li (ZaP T.len<|qv 5) Zas)))))))))) ∅ ?_
 rintro _ Q ⟨t,q⟩
 rename_i d A m
 have I:=t.l;have m7:=t.m7;have S:=Q1 (nums d) (as:=A);refine (A.map<|nums d,rfl,⋯,λi p G=>?_,?_)
 ·obtain ⟨f,E,rfl⟩:=mget G;exact G
 refine (d,A,m,rfl,rfl,t,S_least.mk t λF u y=>?_);obtain ⟨l2,lx⟩:=y.len2 t;have N:=ZaB F;have lu:=ZaB u;have H:=y.l;obtain ⟨n,hn⟩:∃n,F.length=n+1:=(F.length-1,⋯);refine NeTP.mk (show At _ _ _ from (_,rfl,?_));refine brF (decide_eq_false ⋯)<|brF (decide_eq_false ⋯) ?_;show S_lisrow [.int d.P,nums d F,.int ((F.map<|num d).length:Int)] _;rw[ZaB];refine S_lisrow.mk (show At _ _ _ from (num d<|F.getD n 0,?_,1,Zda,⟨λb hb=>?_⟩))
 ·rw[N,hn,show ((n+1:Nat):Int)-1=(n:Int) by omega];exact ZbK ⋯
 have L:=y.top;rw[hn,Qz] at L;obtain rfl:b=true:=hb.mpr L;refine show At _ _ _ from (_,rfl,?_)
 show S_lisrow [.int d.P,nums d u,.int ((A.map<|nums d).length:Int)] _;rw[S,I,<-H];refine S_lisrow.mk ?_;show S_lunit [.int d.P,.int ((A.map<|nums d).length:Int)] _;rw[S,I];refine S_lunit.mk ⋯ ?_;refine (λi Y=>Y=[some<|.val<|.kd d,some<|.val<|.int d.P,some<|.val<|tab d A,some<|.val<|tab d A,some<|.val<|.tup [frs d F,frs d u],some<|.val<|nums d F,none],rfl,?_,?_)
 ·rintro i _ _ G rfl;obtain ⟨f,E,rfl⟩:=mget G;obtain ⟨j,hj,rfl⟩:=mget E;obtain ⟨J,rfl⟩:=Qp.mp hj;rw[Qn] at J;rw[List.getElem_range];exact S_lnought.mk t (ZiX _ _ _) (Zqi _ _ _) hn ⋯ (y.qs t) (y.no J) rfl
 ·rintro _ rfl;obtain ⟨z,rfl⟩:∃z,n=z+1:=(n-1,⋯);obtain ⟨D,M,W,d1,U,qu⟩:=y.col t;refine show At _ _ _ from (_,rfl,?_)
  show S_lchain [.int d.P,tab d A,nums d u,.int<|((F.map<|num d).length:Int)-1] _;rw[N,hn,show ((z+1+1:Nat):Int)-1=((z+1:Nat):Int) by omega];refine S_lchain.mk t.l t.w t.m7 ⋯ t.q H qu W d1 U ?_;refine S_lranked.mk (n:=z+1) (m:=m) (by rw[Q1,Qn]) (λf E=>by obtain ⟨k,_,rfl⟩:=W5.mp E;exact Zdh _ _ _ _) ⋯ ⋯ t.m7 (λe=>by have:=t.m3 e;omega) (y.row0 t ⋯) (y.ind hn) ?_;show Q (.bl<|decide<|((z+1:Nat):Int)=((F.map<|num d).length:Int)-1);rw[decide_eq_true ⋯];exact q
end Zp
namespace My
open PySem L2 PyProof.Rows
section
variable{P:Program}{w:World}{K:ZZfg}{mg:ZZmg}{base:Heap}{CE cK cN cF cT cI cX cM cR:Addr}
def Zmy:PSs X a λ_ _ _=>False:=by
 intro _ _ _ _ _ _ h;exact h.elim
def Zr8(H:Hp)(v:V):Prop:=∃(a b:Addr) (c d:List V),v = .ref a/\H a=some (.lst (.ref b::c))/\H b=some (.lst d)/\c.length+1≠d.length
def Zhe(h:Here K mg "is_square" Zb3) (T:Nm mg):Has P w K mg base "is_square" 1 ["table"] λvs H Q _=>∃v,vs=[v]/\Zr8 H v/\Q (.bl false) H:=by
 refine h.has (λ_ _ F=>F.b1 λ_ _ _ _ _ _ _=>rfl) λf m F=>F.ok Zp.sc_is_square (λvs H Q E h=>?_)<|λg A c s H vs Q E l h=>?_
 ·obtain ⟨_,rfl,_⟩:=h
  rfl
 obtain ⟨_,rfl,⟨a,b,i,j,rfl,d,e,n⟩,k⟩:=h;refine (_,(Zad<|Zaq<|Zcr Zbr (Zao Za2 (by rfl) T.len boot_len<|Zaa (pv 0) Zaf) (Zao Za2 (by rfl) T.len boot_len<|Zaa (ZaD Zct (pv 0) Zac<|λ_ _=>rfl) Zaf)<|ZaC _),?_);refine (_,rfl,a,_,rfl,.inl<|SqL.of d,_,rfl,a,_,0,_,rfl,rfl,SqL.of d,(by unfold atI ixN;rw[if_pos ∅,if_pos (by rw[Wy];omega)];rfl),b,_,rfl,.inl<|SqL.of e,rfl,?_);show Q (V.bl<|decide<|V.int ((i.length+1:Nat):Int)=V.int (j.length:Int)) H;rw[decide_eq_false λz=>n (by injection z;omega)];exact k
def ZoX(cF:Addr):Sp:=λa H _ E=>∃v,a=[v]/\Zr8 H v/\E (.ref cF) none H
def ZjM(cF:Addr):Sp:=λa H _ E=>∃u v,a=[u,v]/\Zr8 H v/\E (.ref cF) none H
def ZfI(h:Here K mg "need_square" ZbW) (T:Nm mg) (b:ExcC K mg "NoFit" cF) (c:Here K mg "is_square" Zb3):HasX P w K mg base "need_square" 2 ["table"] (ZoX cF):=by
 have a:=Zhe (P:=P) (w:=w) (base:=base) c T;refine h.hasX (λ_ _ F=>F.b1 λ_ _ _ _ _ _ _=>rfl) λf j F=>F.okx Zp.sc_need_square (λi H Q E h=>?_)<|λe A d s H i Q E g h=>?_
 ·obtain ⟨_,rfl,_⟩:=h
  rfl
 obtain ⟨v,rfl,n,k⟩:=h;exact (_,(Zad<|ZaY (ZcP<|ZaQ<|ZaG a g (by rfl)<|Zaa (pv 0) Zaf) (Zad<|Zd1 b ZhE rfl (by rfl)<|Zaa Zhl Zaf) Zav),_,rfl,v,rfl,n,_,rfl,Zkv ((by show 1<=1000;decide),k))
def Zmz(h:Here K mg "great" Zgv) (a:HasX P w K mg base "need_square" 2 ["table"] (ZoX cF)):HasX P w K mg base "great" 3 ["kind","A"] (ZjM cF):=by
 refine h.hasX (λ_ _ F=>F.b2 λ_ _ _ _ _ _ _ _=>rfl) λf g F=>F.okx Zp.sc_great (λe H Q E h=>?_)<|λc A b s H e Q E d h=>?_
 ·obtain ⟨_,_,rfl,_⟩:=h
  rfl
 obtain ⟨u,v,rfl,n,k⟩:=h;exact (_,Zag (Zbm<|Zeg a Zpk d (by rfl)<|Zaa (pv 1) Zaf) Zmy,_,rfl,_,rfl,n,k)
def ZmA(h:Here K mg "least" ZcC) (a:HasX P w K mg base "great" 3 ["kind","A"] (ZjM cF)):HasX P w K mg base "least" 4 ["kind","A"] (ZjM cF):=by
 refine h.hasX (λ_ _ F=>F.b2 λ_ _ _ _ _ _ _ _=>rfl) λf g F=>F.okx Zp.sc_least (λe H Q E h=>?_)<|λc A b s H e Q E d h=>?_
 ·obtain ⟨_,_,rfl,_⟩:=h
  rfl
 obtain ⟨u,v,rfl,n,k⟩:=h;exact (_,Zag (ZaE (i:=2) Zp.sc_least.nd rfl (Or.inr rfl)<|Zeg a Zpk d (by rfl)<|Zaa (pv 0)<|Zaa (pv 1) Zaf) Zmy,_,rfl,_,rfl,_,_,rfl,n,k)
def ZjN:Sp:=λb H Q _=>∃u v,b=[u,v]/\Zr8 H v/\∀a,Same H a->Q (.bl true) a
def sc_l_refused:FnScope ["_law_kind_here","_law_table","_law_got","e"] ["_law_kind_here","_law_table"] (Zab ZdN):=‹2›
def ZfX(h:Here K mg "_law_refused" ZdN) (T:Nm mg) (R:Rf K mg CE cK cN cF cT cI cX cM cR) (Z:Rz K mg "NoFit" CE cF [cK,cN,cT,cI,cX,cM,cR]) (b:HasX P w K mg base "least" 4 ["kind","A"] (ZjM cF)):Has P w K mg base "_law_refused" 5 ["_law_kind_here","_law_table"] ZjN:=by
 refine h.has (λ_ _ F=>F.b2 λ_ _ _ _ _ _ _ _=>rfl) λf M F=>F.ok sc_l_refused (λI H Q E h=>?_)<|λC A g s H I Q E D h=>?_
 ·obtain ⟨_,_,rfl,_⟩:=h
  rfl
 obtain ⟨u,v,rfl,n,k⟩:=h;have j:=sc_l_refused.nd;refine (_,(Zag (ZaE (i:=2) j rfl (Or.inl rfl) Zhk)
  (Zag (ZqR R.cat j (i:=3) rfl rfl (by rfl) (by exact λE L m B=>(Zad<|Zbm<|Zeg b B D (by rfl)<|Zaa (pv 0)<|Zaa (pv 1) Zaf)) (by exact λe=>(Zad<|ZaE (i:=2) j rfl (Or.inl rfl)<|pv 3)))
  (Zag (ZaY (ZcW (ZaQ<|Zao Zam (by rfl) T.isinstance boot_isinstance<|Zaa (pv 2)<|Zaa (Zcq (v:=.ref cK) (by rfl) R.k.m rfl) Zaf)<|ZcW (ZaQ<|Zao Zam (by rfl) T.isinstance boot_isinstance<|Zaa (pv 2)<|Zaa (Zcq (v:=.ref cN) (by rfl) R.n.m rfl) Zaf)<|ZcW (ZaQ<|Zao Zam (by rfl) T.isinstance boot_isinstance<|Zaa (pv 2)<|Zaa (Zcq (v:=.ref cT) (by rfl) R.t.m rfl) Zaf)<|ZcO<|ZaQ<|Zao Zam (by rfl) T.isinstance boot_isinstance<|Zaa (pv 2)<|Zaa (Zcq (v:=.ref cI) (by rfl) R.i.m rfl) Zaf).pt (Zad<|Zaq ZdV) Zav)
  (Zag (ZaY (ZcW (ZaQ<|Zao Zam (by rfl) T.isinstance boot_isinstance<|Zaa (pv 2)<|Zaa (Zcq (v:=.ref cX) (by rfl) R.x.m rfl) Zaf)<|ZcW (ZaQ<|Zao Zam (by rfl) T.isinstance boot_isinstance<|Zaa (pv 2)<|Zaa (Zcq (v:=.ref cM) (by rfl) R.m.m rfl) Zaf)<|ZcO<|ZaQ<|Zao Zam (by rfl) T.isinstance boot_isinstance<|Zaa (pv 2)<|Zaa (Zcq (v:=.ref cR) (by rfl) R.r.m rfl) Zaf).pt (Zad<|Zaq ZdV) Zav)
  (Zad<|Zaq<|Zhn (Zao Zam (by rfl) T.isinstance boot_isinstance<|Zaa (pv 2)<|Zaa (Zcq (v:=.ref cF) (by rfl) R.f.m rfl) Zaf)<|Zhm<|Zao Zam (by rfl) T.isinstance boot_isinstance<|Zaa (pv 2)<|Zaa (Zcg (by rfl) R.ve PyProof.Rows.Boot.«ValueError») Zaf))))),?_)
 obtain ⟨t,r,J,x,l,q,p,_⟩:=Z.o;intro L m;refine (_,rfl,_,rfl,_,_,rfl,n,?_);refine (cF,rfl,Z.e,λe G=>?_);refine (_,rfl,?_);have d:=Zai (H:=H) (a:=e) (o:=Zpl e cF none);have z:=Zar G<|Zpl e cF none;generalize upd H e (Zpl e cF none)=y at *;have c:TyX K y (.ref e) (.ref cF):=.exc d Z.c.cls;refine (_,rfl,_,_,_,_,rfl,c,.ref<|R.k.no t,_,rfl,Zed ?_);refine (_,rfl,_,_,_,_,rfl,c,.ref<|R.n.no r,_,rfl,Zed ?_);refine (_,rfl,_,_,_,_,rfl,c,.ref<|R.t.no J,_,rfl,Zed ?_);refine (_,rfl,_,_,_,_,rfl,c,.ref<|R.i.no x,_,rfl,Zed ?_);refine (_,rfl,_,_,_,_,rfl,c,.ref<|R.x.no l,_,rfl,Zed ?_);refine (_,rfl,_,_,_,_,rfl,c,.ref<|R.m.no q,_,rfl,Zed ?_);refine (_,rfl,_,_,_,_,rfl,c,.ref<|R.r.no p,_,rfl,Zed ?_);refine (_,rfl,_,_,_,_,rfl,c,.ref Zm2,_,rfl,Zkv ?_);exact (_,rfl,_,_,_,_,rfl,c,.ty<|ZsG K Z.v,k _ z)
end
inductive Zcf (K:ZZfg) (vs:List V) (H:Hp) (Q:VK) (zE:XK):Prop
 |mk (a:Addr) (cs:List Int) (i:Int) (_:vs=[.ref a,.int i]) (_:SqL K H a (cs.map V.int)) (_:0<=i) (_:∀c:Int,Q (.int c) H):Zcf K vs H Q zE
inductive ZdU (vs:List V) (H:Hp) (Q:VK) (zE:XK):Prop
 |mk (κ:KX) (c:Int) (_:vs=[.int κ.P,.int c]) (_:∀H' (n:Nat),Same H H'->1<=n->n<=7->(κ = .q->n<=3)->Q (.int (n:Int)) H'):ZdU vs H Q zE
inductive Zdk (vs:List V) (H:Hp) (Q:VK) (zE:XK):Prop
 |mk (κ:KX) (ca:Addr) (cs:List Int) (i:Int) (n m:Nat) (_:vs=[.int κ.P,.ref ca,.int i,.int (n:Int),.int (m:Int)]) (_:H ca=some (.lst (cs.map V.int))) (_:0<=i) (_:i<=1000) (_:n<=7) (_:m<=7) (_:∀H' D rs (R:ZZll κ),Same H H'->H' D=some (.lst (rs.map V.ref))->RowsX κ H' rs R->R.length=n->Wid m R->AllR (QN κ ((12:Nat):Int) 108) R->(∀a∈rs,H a=none)->rs.Nodup->Q (.ref D) H'):Zdk vs H Q zE
section
variable{P:Program}{w:World}{K:ZZfg}{mg:ZZmg}{base:Heap}
def sc_l_fraction:FnScope ["_law_top","_law_bottom","_law_by"] ["_law_top","_law_bottom"] (Zab Zc7):=‹2›
def ZmB(h:Here K mg "_law_fraction" Zc7) (c:Has P w K mg base "_law_divisor" 1 ["_law_one","_law_other"] ZaZ):Has P w K mg base "_law_fraction" 2 ["_law_top","_law_bottom"] Zft:=by
 refine h.has (λ_ _ F=>F.b2 λ_ _ _ _ _ _ _ _=>rfl) λf x F=>F.ok sc_l_fraction (λu H Q E h=>?_)<|λo A e s H u Q E p h=>?_
 ·obtain ⟨_,_,rfl,_⟩:=h
  rfl
 obtain ⟨t,b,rfl,l,m,k⟩:=h;have v:=sc_l_fraction.nd;refine (_,(Zag (ZaE (i:=2) v rfl (Or.inl rfl)<|ZaG c p (by rfl)<|Zaa (pv 0)<|Zaa (pv 1) Zaf)
  (Zad<|Zaq<|Zb0<|Zaa (Zap Zjj (pv 0)<|pv 2)<|Zaa (Zap Zjj (pv 1)<|pv 2) Zaf)),?_)
 refine (_,rfl,_,rfl,t,b,rfl,?_);have y:=M3.gcd_ne (a:=t) (b:=b) ⋯;have q:Int.gcd t b<=b.natAbs:=Ub ⋯<|U2.mpr<|Wf t b;have d:(Int.gcd t b:Int)≠0/\Bits 8000 (Int.gcd t b:Int):=(⋯,m.le (by rw[Qo];exact q));obtain ⟨j,n⟩:=Zud (t:=t) l;refine (_,rfl,_,rfl,_,_,rfl,rfl,d,_,rfl,_,rfl,_,_,rfl,rfl,d,(by show 2<=sizeLine;decide),λr g=>?_);have:=k r g;rw[<-j,<-n] at this;exact this
def sc_l_prime:FnScope ["_law_number"] ["_law_number"] (Zab Zfj):=‹2›
def Zi1(h:Here K mg "_law_prime" Zfj) (a:Has P w K mg base "_law_is_prime" 1 ["_law_number"] Zd4):Has P w K mg base "_law_prime" 2 ["_law_number"] ZdS:=by
 refine h.has (λ_ _ F=>F.b1 λ_ _ _ _ _ _ _=>rfl) λf u F=>F.ok sc_l_prime (λp H Q E h=>?_)<|λl A b s H p Q E m h=>?_
 ·obtain ⟨_,rfl,_⟩:=h
  rfl
 obtain ⟨n,rfl,x,r,k⟩:=h;have o:=sc_l_prime.nd;refine (_,(Zag (Zcc PassesOwn.never (ZcP<|ZaQ<|ZaG a m (by rfl)<|Zaa (pv 0) Zaf)<|Zad<|ZaE (i:=0) o rfl (Or.inl rfl)<|Zap Za6 (pv 0) Zac)
  (Zad<|Zaq<|pv 0)),?_)
 refine (λe d g=>∃t:Int,e=(999983-t).toNat/\d=[some<|.int t]/\g=H/\2<=t/\t<=999983,(_,n,rfl,rfl,rfl,⋯,⋯),?_);rintro e d g ⟨t,rfl,rfl,rfl,q,v⟩;refine (_,rfl,t,rfl,⋯,λc=>(_,rfl,?_),λc=>(_,rfl,?_))
 ·refine Zed ?_;exact (_,rfl,k t<|.inr (c,⋯))
 ·refine Zkv ?_;refine (_,λ_ _ h=>h,?_);have j:t≠999983:=λz=>c (by rw[z];exact M2.prm_big);refine (_,rfl,_,_,rfl,rfl,?_);exact (_,⋯,t+1,rfl,rfl,rfl,⋯,⋯)
def Zhf:FnScope ["_law_cell"] ["_law_cell"] (Zab Zc6):=‹2›
def Zhg(h:Here K mg "_law_prime_by" Zc6) (a:Has P w K mg base "_law_prime" 2 ["_law_number"] ZdS):Has P w K mg base "_law_prime_by" 3 ["_law_cell"] ZcH:=by
 refine h.has (λ_ _ F=>F.b1 λ_ _ _ _ _ _ _=>rfl) λf o F=>F.ok Zhf (λn H Q E h=>?_)<|λg A b s H n Q E l h=>?_
 ·obtain ⟨_,rfl,_⟩:=h
  rfl
 obtain ⟨c,rfl,k⟩:=h;refine (_,(Zag (ZaY (Zay Zbr (Zap ZcQ (pv 0) Zac) Zac<|ZaC _) (Zad<|Zaq Zac) Zav)
  (Zag (ZaY (Zay Zbr (Zap ZcQ (pv 0) Zac) Zac<|ZaC _) (Zad<|Zaq<|ZaD Zct (ZeF<|Zaa Zac<|Zaa Zac<|Zaa Zac<|Zaa Zac<|Zaa Zac<|Zaa Zac Zaf) (Zap ZcQ (Zap Zec (pv 0) Zac) Zac)<|λ_ _=>rfl) Zav)
  (Zad<|Zaq<|ZaG a l (by rfl)<|Zaa (Zap Za6 Zac<|Zap ZcQ (Zap ZqE (Zap Zec (pv 0) Zac) Zac) Zac) Zaf))),?_)
 refine (_,rfl,_,_,rfl,rfl,(by show (0:Int)<_;decide),rfl,_,rfl,?_);refine Zb1 (λ_=>k H 0 (Same.refl H)<|.inl rfl)<|λ_=>?_;refine (_,rfl,_,_,rfl,rfl,(by show (0:Int)<_;decide),rfl,_,rfl,?_);refine Zb1 (λ_=>?_)<|λ_=>?_
 ·obtain ⟨m,j,e⟩:=ZsY c;refine ((by show 6<=sizeLine;decide),λq i=>?_);refine (_,rfl,_,_,rfl,rfl,(∅,∅),_,_,rfl,rfl,(by show (0:Int)<_;decide),_,_,_,_,rfl,rfl,SqL.of Zai,j,?_);exact k _ m (Zar i _) e
 ·refine (_,rfl,_,_,rfl,rfl,(∅,∅),_,_,rfl,rfl,.inr (∅,∅),_,_,rfl,rfl,(by show (0:Int)<_;decide),_,_,rfl,rfl,_,rfl,?_,?_,λp d=>k H p (Same.refl H) d)
  ·show (2:Int)<=2+c/3*48271%999982;omega
  ·show 2+c/3*48271%999982<=(999983:Int);omega
def ZmC:FnScope ["_law_prime_here","_law_number"] ["_law_prime_here","_law_number"] (Zab Zgy):=‹2›
def ZmD(h:Here K mg "_law_make" Zgy):Has P w K mg base "_law_make" 1 ["_law_prime_here","_law_number"] Zez:=by
 refine h.has (λ_ _ F=>F.b2 λ_ _ _ _ _ _ _ _=>rfl) λf u F=>F.ok ZmC (λl H Q E h=>?_)<|λg A a s H l Q E o h=>?_
 ·obtain ⟨_,_,_,rfl,_⟩:=h
  rfl
 obtain ⟨i,t,x,rfl,c,k⟩:=h;refine (_,(Zag (ZaY (Zay Zbr (pv 0) Zac<|ZaC _) (Zad<|Zaq<|Zb0<|Zaa (pv 1)<|Zaa Zac Zaf) Zav)
  (Zad<|Zaq<|Zap Zbn (pv 1)<|pv 0)),?_)
 refine (_,rfl,rfl,_,rfl,?_)
 cases i with
 |r p b =>
  have n:=b.two;refine Zlr (show (KX.r p b).P≠0 by have:0<(KX.r p b).P:=Zlq;omega) (_,rfl,_,rfl,_,_,rfl,rfl,(show (p:Int)≠0 by omega),k H _ (Same.refl H) ?_);show V.int (t.fmod p)=V.int x.val;have e:(Fin.val x:Int)=t%p:=c.2;rw[Wm _ ⋯,e]
 |q =>
  refine Ziw (show KX.q.P=0 from rfl) (_,rfl,(by show 2<=sizeLine;decide),λr j=>?_);refine k _ _ (Zar j _) (r,rfl,?_);have d:Rat.num x=t:=c.1;have m:Rat.den x=1:=c.2;rw[Zai,d,m];rfl
def ZfY:FnScope ["_law_prime_here","_law_found"] ["_law_prime_here","_law_found"] (Zab ZcD):=‹2›
def ZfZ(h:Here K mg "_law_is_number" ZcD) (T:Nm mg) (b:Has P w K mg base "_law_whole" 1 ["_law_found"] Zd3) (c:Has P w K mg base "_law_divisor" 1 ["_law_one","_law_other"] ZaZ):Has P w K mg base "_law_is_number" 2 ["_law_prime_here","_law_found"] Zde:=by
 refine h.has (λ_ _ F=>F.b2 λ_ _ _ _ _ _ _ _=>rfl) λf t F=>F.ok ZfY (λn H Q E h=>?_)<|λl A i s H n Q E e h=>?_
 ·obtain ⟨_,_,_,rfl,_⟩:=h
  rfl
 obtain ⟨m,u,x,rfl,g,k⟩:=h;refine (_,(Zag (ZaY (Zay Ze3 (pv 0) Zac<|ZaC _) (Zad<|Zaq<|Zhn (ZaG b e (by rfl)<|Zaa (pv 1) Zaf)<|Zhm<|ZmP Zo3 ZdW Zac (pv 1)<|pv 0) Zav)
  (Zag (ZaY (ZcW (ZcP<|ZaQ<|Zao Zam (by rfl) T.isinstance boot_isinstance<|Zaa (pv 1)<|Zaa (Zcg (by rfl) T.tuple boot_tuple) Zaf)<|ZcW (Zay Zgi (Zao Za2 (by rfl) T.len boot_len<|Zaa (pv 1) Zaf) Zac<|ZaC _)<|ZcW (ZcP<|ZaQ<|ZaG b e (by rfl)<|Zaa (ZaD Zau (pv 1) Zac<|λ_ _=>rfl) Zaf)<|ZcO<|ZcP<|ZaQ<|ZaG b e (by rfl)<|Zaa (ZaD Zau (pv 1) Zac<|λ_ _=>rfl) Zaf).pt (Zad<|Zaq ZdV) Zav)
  (Zad<|Zaq<|Zhn (Zcr Ze3 (ZaD Zau (pv 1) Zac<|λ_ _=>rfl) Zac<|ZaC _)<|Zhm<|Zcr Zbr (ZaG c e (by rfl)<|Zaa (ZaD Zau (pv 1) Zac<|λ_ _=>rfl)<|Zaa (ZaD Zau (pv 1) Zac<|λ_ _=>rfl) Zaf) Zac<|ZaC _))),?_)
 refine (_,rfl,_,_,rfl,rfl,_,rfl,?_)
 cases m with
 |r p o =>
  have g:u = .int x.val:=g;subst g;have v:=x.isLt;exact ZgK (show (0:Int)<(KX.r p o).P from Zlq) (_,rfl,_,rfl,_,rfl,Zkv (_,rfl,_,_,rfl,rfl,_,rfl,ZgK (show (0:Int)<=x.val by omega) (_,rfl,_,_,rfl,rfl,Zoq (show (x.val:Int)<(p:Int) by omega) k)))
 |q =>
  obtain ⟨a,rfl,d⟩:=g;have j:=Zbf x;refine Zod (show ¬(0:Int)<0 by decide) ?_;refine (_,rfl,_,_,_,_,rfl,.of<|.tup d,.ty<|ZbT K _,_,rfl,Zed ?_);refine (_,rfl,a,_,rfl,.inr<|SqT.of d,rfl,_,rfl,Zf2 (λz=>absurd rfl z)<|λ_=>?_);refine (_,rfl,a,_,0,_,rfl,rfl,SqT.of d,rfl,_,rfl,_,rfl,Zed ?_);refine (_,rfl,a,_,1,_,rfl,rfl,SqT.of d,rfl,_,rfl,_,rfl,Zed ?_);refine (_,rfl,a,_,1,_,rfl,rfl,SqT.of d,rfl,_,_,rfl,rfl,_,rfl,ZgK (show (0:Int)<x.den from j.pos) ?_);refine (_,rfl,a,_,0,_,rfl,rfl,SqT.of d,rfl,_,rfl,a,_,1,_,rfl,rfl,SqT.of d,rfl,_,_,rfl,rfl,Zoq (show V.int ((Int.gcd x.num x.den:Nat):Int)=V.int 1 by rw[j.cop];rfl) k)
end
inductive ZfJ (CF CR:Addr) (vs:List V) (H:Hp) (Q:VK) (zE:XK):Prop
 |mk (p:Int) (_:vs=[.int p]) (_:PK p) (_:∀(H':Hp) (k:Addr),Same H H'->KdA CF CR p H' k->Q (.ref k) H'):ZfJ CF CR vs H Q zE
section
variable{P:Program}{w:World}{K:ZZfg}{mg:ZZmg}{base:Heap}{CF CR cN:Addr}
def ZmE:FnScope ["_law_prime_here"] ["_law_prime_here"] (Zab Zgx):=‹2›
def ZmF(h:Here K mg "_law_kind" Zgx) (l:Kd K mg CF CR) (u:HasI P w K mg base CR 2 ["self","prime"] (ZgF CR)):Has P w K mg base "_law_kind" 4 ["_law_prime_here"] (ZfJ CF CR):=by
 refine h.has (λ_ _ F=>F.b1 λ_ _ _ _ _ _ _=>rfl) λf C F=>F.ok ZmE (λB H Q E h=>?_)<|λv A i s H B Q E y h=>?_
 ·obtain ⟨_,rfl,_⟩:=h
  rfl
 obtain ⟨p,rfl,t,k⟩:=h;refine (_,(Zag (ZaY (Zay Zbr (pv 0) Zac<|ZaC _) (Zad<|Zaq<|Zk0 l.mkF (by rfl) l.mgF) Zav)
  (Zad<|Zaq<|Zjf u y (by rfl) l.mgR<|Zaa (pv 0) Zaf)),?_)
 refine (_,rfl,rfl,_,rfl,?_);refine Zb1 (λz=>?_)<|λz=>?_
 ·intro x j m g r;refine k _ x (λb o e=>?_)<|.inl (z,j,Zai);rw[Zaj<|ZaF e m,Zaj<|ZaF e g];exact e
 ·rcases t with rfl|⟨pr1,lp1⟩
  ·exact absurd rfl z
  refine (_,rfl,λn a c d q=>(n,a,p,rfl,Zai,pr1,lp1,rfl,?_));refine k _ n (λb o e=>?_)<|.inr (pr1,lp1,a,Zai);rw[Zaj<|ZaF e c,Zaj<|ZaF e c,Zaj<|ZaF e d];exact e
end
section
variable{P:Program}{w:World}{K:ZZfg}{mg:ZZmg}{base:Heap}
def Zks:FnScope ["_law_prime_here","_law_one","_law_other"] ["_law_prime_here","_law_one","_law_other"] (Zab Zfk):=‹2›
def Zi2(h:Here K mg "_law_times" Zfk) (c:Has P w K mg base "_law_fraction" 2 ["_law_top","_law_bottom"] Zft):Has P w K mg base "_law_times" 3 ["_law_prime_here","_law_one","_law_other"] (ZeW λ_ x y=>x*y):=by
 refine h.has (λ_ _ F=>F.b3 λ_ _ _ _ _ _ _ _ _=>rfl) λf J F=>F.ok Zks (λG H Q E h=>?_)<|λz A l s H G Q E D h=>?_
 ·obtain ⟨_,_,_,_,_,rfl,_⟩:=h
  rfl
 obtain ⟨B,u,v,x,y,rfl,i,j,m,d,k⟩:=h;refine (_,(Zag (ZaY (Zay Zbr (pv 0) Zac<|ZaC _) (Zad<|Zaq<|ZaG c D (by rfl)<|Zaa (Zap ZaK (ZaD Zau (pv 1) Zac<|λ_ _=>rfl)<|ZaD Zau (pv 2) Zac<|λ_ _=>rfl)<|Zaa (Zap ZaK (ZaD Zau (pv 1) Zac<|λ_ _=>rfl)<|ZaD Zau (pv 2) Zac<|λ_ _=>rfl) Zaf) Zav)
  (Zad<|Zaq<|Zap Zbn (Zap ZaK (pv 1)<|pv 2)<|pv 0)),?_)
 refine (_,rfl,rfl,_,rfl,?_)
 cases B with
 |q =>
  obtain ⟨a,rfl,t⟩:=i;obtain ⟨b,rfl,o⟩:=j;refine Ziw (show KX.q.P=0 from rfl) ?_;have I:=(Zbf x).pos;have C:=(Zbf y).pos;refine (_,rfl,a,_,0,_,rfl,rfl,SqT.of t,rfl,_,rfl,b,_,0,_,rfl,rfl,SqT.of o,rfl,_,_,rfl,rfl,m.1.mulT d.1,_,rfl,a,_,1,_,rfl,rfl,SqT.of t,rfl,_,rfl,b,_,1,_,rfl,rfl,SqT.of o,rfl,_,_,rfl,rfl,(m.2.up ∅).mulG d.2,_,_,rfl,Wa I C,(m.2.times d.2),λr n=>?_);have e:x*y=Rat.divInt (x.num*y.num) ((x.den:Int)*y.den):=by
   rw[<-Ua,Qy,Qy]
  refine k _ _ (Zar n _) (r,rfl,?_);rw[Zai];show _=some (HO.tup [.int (x*y).num,.int ((x*y).den:Int)]);rw[e]
 |r p g =>
  have i:u = .int x.val:=i;have j:v = .int y.val:=j;subst i j;refine Zlr (show (KX.r p g).P≠0 by have:0<(KX.r p g).P:=Zlq;omega) (_,rfl,_,rfl,_,_,rfl,rfl,Zbu (Za7 g x)<|Za7 g y,_,rfl,_,_,rfl,rfl,(show (p:Int)≠0 by have:=g.two;omega),k H _ (Same.refl H) ?_);show V.int (((x.val:Int)*y.val).fmod p)=V.int ((Fin.val (x*y):Nat):Int);have e:Fin.val (x*y)=(x.val*y.val)%p:=Fin.val_mul x y;rw[e,Ww,W2,Wm _ ⋯]
def ZmG:FnScope ["_law_prime_here","_law_one","_law_other"] ["_law_prime_here","_law_one","_law_other"] (Zab Zgz):=‹2›
def Zkt(h:Here K mg "_law_plus" Zgz) (c:Has P w K mg base "_law_fraction" 2 ["_law_top","_law_bottom"] Zft):Has P w K mg base "_law_plus" 3 ["_law_prime_here","_law_one","_law_other"] (ZeW λ_ x y=>x+y):=by
 refine h.has (λ_ _ F=>F.b3 λ_ _ _ _ _ _ _ _ _=>rfl) λf J F=>F.ok ZmG (λG H Q E h=>?_)<|λz A m s H G Q E D h=>?_
 ·obtain ⟨_,_,_,_,_,rfl,_⟩:=h
  rfl
 obtain ⟨B,u,v,x,y,rfl,i,j,g,d,k⟩:=h;refine (_,(Zag (ZaY (Zay Zbr (pv 0) Zac<|ZaC _) (Zad<|Zaq<|ZaG c D (by rfl)<|Zaa (Zap Za6 (Zap ZaK (ZaD Zau (pv 1) Zac<|λ_ _=>rfl)<|ZaD Zau (pv 2) Zac<|λ_ _=>rfl)<|Zap ZaK (ZaD Zau (pv 2) Zac<|λ_ _=>rfl)<|ZaD Zau (pv 1) Zac<|λ_ _=>rfl)<|Zaa (Zap ZaK (ZaD Zau (pv 1) Zac<|λ_ _=>rfl)<|ZaD Zau (pv 2) Zac<|λ_ _=>rfl) Zaf) Zav)
  (Zad<|Zaq<|Zap Zbn (Zap Za6 (pv 1)<|pv 2)<|pv 0)),?_)
 refine (_,rfl,rfl,_,rfl,?_)
 cases B with
 |q =>
  obtain ⟨a,rfl,t⟩:=i;obtain ⟨b,rfl,l⟩:=j;refine Ziw (show KX.q.P=0 from rfl) ?_;have I:=(Zbf x).pos;have C:=(Zbf y).pos;refine (_,rfl,a,_,0,_,rfl,rfl,SqT.of t,rfl,_,rfl,b,_,1,_,rfl,rfl,SqT.of l,rfl,_,_,rfl,rfl,g.1.mulG d.2,_,rfl,b,_,0,_,rfl,rfl,SqT.of l,rfl,_,rfl,a,_,1,_,rfl,rfl,SqT.of t,rfl,_,_,rfl,rfl,d.1.mulG g.2,_,_,rfl,rfl,_,rfl,a,_,1,_,rfl,rfl,SqT.of t,rfl,_,rfl,b,_,1,_,rfl,rfl,SqT.of l,rfl,_,_,rfl,rfl,(g.2.up ∅).mulG d.2,_,_,rfl,Wa I C,(g.2.times d.2),λr o=>?_);have e:x+y=Rat.divInt (x.num*y.den+y.num*x.den) ((x.den:Int)*y.den):=by
   rw[<-Rat.divInt_add_divInt _ _ ⋯ ⋯,Qy,Qy]
  refine k _ _ (Zar o _) (r,rfl,?_);rw[Zai];show _=some (HO.tup [.int (x+y).num,.int ((x+y).den:Int)]);rw[e]
 |r p n =>
  have i:u = .int x.val:=i;have j:v = .int y.val:=j;subst i j;refine Zlr (show (KX.r p n).P≠0 by have:0<(KX.r p n).P:=Zlq;omega) (_,rfl,_,rfl,_,_,rfl,rfl,_,rfl,_,_,rfl,rfl,(show (p:Int)≠0 by have:=n.two;omega),k H _ (Same.refl H) ?_);show V.int (((x.val:Int)+y.val).fmod p)=V.int ((Fin.val (x+y):Nat):Int);have e:Fin.val (x+y)=(x.val+y.val)%p:=Fin.val_add x y;rw[e,Ww,Int.natCast_add,Wm _ ⋯]
def Zku:FnScope ["_law_prime_here","_law_number"] ["_law_prime_here","_law_number"] (Zab Zfm):=‹2›
def Zi3(h:Here K mg "_law_drawn" Zfm) (a:Has P w K mg base "_law_fraction" 2 ["_law_top","_law_bottom"] Zft):Has P w K mg base "_law_drawn" 3 ["_law_prime_here","_law_number"] ZdT:=by
 refine h.has (λ_ _ F=>F.b2 λ_ _ _ _ _ _ _ _=>rfl) λf O F=>F.ok Zku (λJ H Q E h=>?_)<|λC A g s H J Q E G h=>?_
 ·obtain ⟨_,_,rfl,_⟩:=h
  rfl
 obtain ⟨o,c,rfl,k⟩:=h;refine (_,(Zag (ZaY (Zay Ze3 (pv 0) Zac<|ZaC _) (Zad<|Zaq<|ZaD Zct (ZeF<|Zaa Zac<|Zaa Zac<|Zaa (Zap Zbq (pv 0) Zac)<|Zaa (Zap Zbn (Zap Zec (pv 1) Zac)<|pv 0) Zaf) (Zap ZcQ (pv 1) Zac)<|λ_ _=>rfl) Zav)
  (Zag (ZaY (Zay Zbr (Zap ZcQ (pv 1) Zac) Zac<|ZaC _) (Zad<|Zaq<|Zb0<|Zaa (Zap Zbq (Zap ZcQ (Zap Zec (pv 1) Zac) Zac) Zac)<|Zaa Zac Zaf) Zav)
  (Zad<|Zaq<|ZaG a G (by rfl)<|Zaa (Zap Zbq (Zap ZcQ (Zap Zec (pv 1) Zac) Zac) Zac)<|Zaa (Zap Za6 Zac<|Zap ZcQ (Zap Zec (pv 1) Zac) Zac) Zaf))),?_)
 refine (_,rfl,_,_,rfl,rfl,_,rfl,?_)
 cases o with
 |r p b =>
  have N:=b.two;refine ZgK (show (0:Int)<(KX.r p b).P from Zlq) (_,rfl,_,_,rfl,rfl,_,rfl,_,_,rfl,rfl,(∅,∅),_,rfl,_,_,rfl,rfl,(show (p:Int)≠0 by omega),(by show 4<=sizeLine;decide),λl t=>?_);obtain ⟨u,I⟩:=Zq2 b<|c/4;have i:∃(v:V) (x:Fin p),atI [V.int 0,V.int 1,V.int<|(p:Int)-1,V.int<|(c/4).fmod p] (c%4)=some v/\v = .int (x.val:Int):=by
   rcases (by omega:c%4=0\/c%4=1\/c%4=2\/c%4=3) with e|e|e|e <;> rw[e]
   ·exact (_,(0,⋯),rfl,rfl)
   ·exact (_,(1,⋯),rfl,rfl)
   ·exact (_,(p-1,⋯),rfl,by show V.int ((p:Int)-1)=V.int (((p-1:Nat)):Int);congr 1;omega)
   ·exact (_,u,rfl,by rw[I])
  obtain ⟨v,x,B,M⟩:=i;exact (_,rfl,_,_,rfl,rfl,(by show (0:Int)<_;decide),l,_,_,_,rfl,rfl,SqL.of Zai,B,k _ v x (Zar t _) M trivial)
 |q =>
  refine Zod (show ¬(0:Int)<0 by decide) ?_;refine (_,rfl,_,_,rfl,rfl,(by show (0:Int)<_;decide),rfl,_,rfl,?_);refine Zb1 (λ_=>?_)<|λ_=>?_
  ·obtain ⟨x,m,j⟩:=Zjl (n:=c/3%3-1) (d:=1) (∅,by rw[Int.gcd_one]);refine (_,rfl,_,_,rfl,rfl,(∅,∅),_,_,rfl,rfl,(by show (0:Int)<_;decide),_,_,rfl,rfl,(by show 2<=sizeLine;decide),λz y=>?_);have L:x=Rat.divInt (c/3%3-1) 1:=by rw[<-m,<-j,Qy]
   refine k _ _ x (Zar y _) (z,rfl,?_) ?_
   ·rw[Zai,m,j]
   ·rw[L];exact ZtK ∅ ∅ ⋯
  ·refine (_,rfl,_,_,rfl,rfl,(∅,∅),_,_,rfl,rfl,(by show (0:Int)<_;decide),_,_,rfl,rfl,_,rfl,_,_,rfl,rfl,(∅,∅),_,_,rfl,rfl,(by show (0:Int)<_;decide),_,_,rfl,rfl,c/3%19-9,1+c/57%4,rfl,⋯,Bits.of<|Qa (show _<2^3 by show _<8;omega)<|Q5 ∅ ∅,λr D=>?_);exact k _ _ (Rat.divInt (c/3%19-9)<|1+c/57%4) (Zar D _) (r,rfl,Zai)<|ZtK ⋯ ⋯ ⋯
def sc_l_is_row:FnScope ["_law_prime_here","_law_found","_law_many","_law_one"] ["_law_prime_here","_law_found","_law_many"] (Zab Zen):=‹2›
def Zhh(h:Here K mg "_law_is_row" Zen) (T:Nm mg) (b:Has P w K mg base "_law_is_number" 2 ["_law_prime_here","_law_found"] Zde):Has P w K mg base "_law_is_row" 3 ["_law_prime_here","_law_found","_law_many"] ZcI:=by
 refine h.has (λ_ _ F=>F.b3 λ_ _ _ _ _ _ _ _ _=>rfl) λf C F=>F.ok sc_l_is_row (λy H Q E h=>?_)<|λr A l s H y Q E v h=>?_
 ·obtain ⟨_,_,_,_,rfl,_⟩:=h
  rfl
 obtain ⟨m,a,xs,q,rfl,e,n,k⟩:=h;have B:=sc_l_is_row.nd;refine (_,(Zag (ZaY (ZcW (ZcP<|ZaQ<|Zao Zam (by rfl) T.isinstance boot_isinstance<|Zaa (pv 1)<|Zaa (Zcg (by rfl) T.list boot_list) Zaf)<|ZcO<|Zay Zgi (Zao Za2 (by rfl) T.len boot_len<|Zaa (pv 1) Zaf) (pv 2)<|ZaC _).pt (Zad<|Zaq ZdV) Zav)
  (Zag (Zdz PassesOwn.never rfl (ZcX<|pv 1) (ZaL (i:=3) B rfl<|Or.inl rfl)<|Zad<|ZaY (ZcP<|ZaQ<|ZaG b v (by rfl)<|Zaa (pv 0)<|Zaa (pv 3) Zaf) (Zad<|Zaq ZdV) Zav)
  (Zad<|Zaq ZdV))),?_)
 refine (_,rfl,_,_,_,_,rfl,.of<|.lst e,.ty<|ZbT K _,_,rfl,Zed ?_);refine (_,rfl,a,_,rfl,.inl<|SqL.of e,_,rfl,rfl,_,rfl,?_);rw[n.1];refine Zf2 (λz=>absurd rfl z)<|λ_=>?_;refine (_,rfl,a,rfl,(_,SqL.of e),?_);refine ZeT (xs:=xs) (λj c d=>∃g:Option V,c=[some<|.int m.P,some<|.ref a,some<|.int (q.length:Int),g]/\d=H) (_,rfl,rfl) ?_ ?_ ?_
 ·rintro j c d-⟨g,rfl,rfl⟩;exact SqL.of e
 ·rintro j u c d p ⟨g,rfl,rfl⟩;obtain ⟨x,o,t⟩:=n.get p;exact (_,rfl,_,rfl,m,u,x,rfl,t,_,rfl,Zed (_,rfl,rfl))
 ·rintro c d ⟨g,rfl,rfl⟩;exact k
def Zh2:FnScope ["_law_cells","_law_k"] ["_law_cells","_law_k"] (Zab ZdL):=‹2›
def Zh3(h:Here K mg "_law_cell_at" ZdL) (T:Nm mg):Has P w K mg base "_law_cell_at" 1 ["_law_cells","_law_k"] (Zcf K):=by
 refine h.has (λ_ _ F=>F.b2 λ_ _ _ _ _ _ _ _=>rfl) λf m F=>F.ok Zh2 (λj H Q E h=>?_)<|λd A b s H j Q E l h=>?_
 ·obtain ⟨_,_,_,rfl,_⟩:=h
  rfl
 obtain ⟨a,g,i,rfl,c,n,k⟩:=h;refine (_,(Zag (ZaY (Zay ZdW (pv 1) (Zao Za2 (by rfl) T.len boot_len<|Zaa (pv 0) Zaf)<|ZaC _) (Zad<|Zaq<|ZaD Zct (pv 0) (pv 1)<|λ_ _=>rfl) Zav)
  (Zad<|Zaq Zac)),?_)
 refine (_,rfl,_,rfl,a,_,rfl,.inl c,_,_,rfl,rfl,_,rfl,?_);rw[Q1];refine ZcR (λz=>?_)<|λz=>k 0;have z:i<(g.length:Int):=z;have e:i=((i.toNat:Nat):Int):=⋯;exact (_,rfl,_,rfl,a,_,_,_,rfl,rfl,c,(by rw[e];exact Zq0 (i:=i.toNat) ⋯),k _)
def sc_l_rows_by:FnScope ["_law_prime_here","_law_cells","_law_at","_law_rows","_law_columns","_law_told","_law_i"] ["_law_prime_here","_law_cells","_law_at","_law_rows","_law_columns"] (Zab ZdM):=‹2›
def Zh4(h:Here K mg "_law_rows_by" ZdM) (T:Nm mg) (d:Has P w K mg base "_law_drawn" 3 ["_law_prime_here","_law_number"] ZdT) (b:Has P w K mg base "_law_cell_at" 3 ["_law_cells","_law_k"] (Zcf K)):Has P w K mg base "_law_rows_by" 4 ["_law_prime_here","_law_cells","_law_at","_law_rows","_law_columns"] Zdk:=by
 refine h.has (λf fd F=>F.binds λ_ _ _ _ _ _ us hl=>by obtain ⟨_,_,_,_,_,rfl⟩:=ZtI hl;exact rfl) λf fd F=>F.ok sc_l_rows_by (λvs H Q E h=>?_)<|λa4 A a3 s H vs Q E hr h=>?_
 ·obtain ⟨_,_,_,_,_,_,rfl,_⟩:=h
  rfl
 obtain ⟨r,ca,cs,a0,n,m,rfl,hC,a1,a2,n7,m7,k⟩:=h;have nd:=sc_l_rows_by.nd;refine (_,(Zag (ZaE (i:=5) nd rfl (Or.inl rfl)<|ZeF Zaf)
  (Zag (Zdz PassesOwn.never rfl (Ze2 (by rfl) T.range<|Zaa (pv 3) Zaf) (ZaL (i:=6) nd rfl<|Or.inr rfl)<|Zad<|Zbm<|Zic PySem.F.plainAttrs_list PySem.F.slot_list_append PySem.F.type_list_append Zcn (pv 5)<|Zaa (Zef ["_law_j"] [(0,"_law_prime_here"),(1,"_law_cells"),(2,"_law_at"),(4,"_law_columns"),(6,"_law_i")] rfl (Ze2 (by rfl) T.range<|Zaa (pv 4) Zaf) (by exact λ_ _ _ _=>(ZaL (i:=0) (show (["_law_j","_law_prime_here","_law_cells","_law_at","_law_columns","_law_i"]:List Str).Nodup by decide +kernel) rfl<|Or.inl rfl)) (by exact λ_ _ _ _=>(ZaG d hr (by rfl)<|Zaa (pv 1)<|Zaa (ZaG b hr (by rfl)<|Zaa (pv 2)<|Zaa (Zap Za6 (Zap Za6 (pv 3)<|Zap ZaK (pv 4)<|pv 5)<|pv 0) Zaf) Zaf)) ((rfl,rfl,Or.inl rfl),((rfl,rfl,Or.inl rfl),((rfl,rfl,Or.inl rfl),((rfl,rfl,Or.inl rfl),((rfl,rfl,Or.inl rfl),trivial)))))) Zaf)
  (Zad<|Zaq<|pv 5))),?_)
 refine ((by show 0<=sizeLine;decide),λl L=>?_);have St:=Zar L<|.lst [];have qt:=Zai (H:=H) (a:=l) (o:=.lst []);generalize upd H l (.lst [])=H1 at *;refine (_,rfl,(n:Int),rfl,⋯,⋯,?_);rw[Ws];refine ZkE (lo:=0) (n:=n) (λi σ u=>∃(z6:Option V) (j:ZZla) (R:ZZll r),σ=[some<|.int r.P,some<|.ref ca,some<|.int a0,some<|.int (n:Int),some<|.int (m:Int),some<|.ref l,z6]/\Same H u/\u l=some (.lst<|j.map V.ref)/\RowsX r u j R/\R.length=i/\Wid m R/\AllR (QN r ((12:Nat):Int) 108) R/\l∉j/\j.Nodup/\∀a∈j,H a=none) (_,[],[],rfl,St,qt,.nil,rfl,(λf h=>nomatch h),(λf h=>nomatch h),(λz=>nomatch z),List.nodup_nil,λa h=>nomatch h) ?_ ?_
 ·rintro i σ u hi ⟨z6,j,R,rfl,J,M,O,lR,wd,qR,nt,B,fr⟩;have lr:=O.1;refine (_,rfl,.inl (rfl,_,SqL.of M),_,rfl,(m:Int),rfl,⋯,⋯,?_);rw[Ws];refine ZjY (lo:=0) (n:=m) (λq G D=>Same u D/\∃g:ZZlk r,AllG (NR r D) G g/\g.length=q/\∀x∈g,QN r 12 108 x) ⋯ (Same.refl _,[],.nil,rfl,λx h=>nomatch h) ?_ ?_
  ·rintro q G D hq _ ⟨I,g,U,lg,Y⟩;refine (_,rfl,_,rfl,_,rfl,_,rfl,_,rfl,_,_,rfl,rfl,Zbu (Q0 (show ((m:Int)).natAbs<=1000 by omega) ∅)<|Q0 (show ((0+(i:Int))).natAbs<=1000 by omega) ∅,_,_,rfl,rfl,_,rfl,_,_,rfl,rfl,ca,cs,_,rfl,SqL.of<|(J.trans I) _ _ hC,?_,λc=>?_)
   ·have:0<=(m:Int)*(0+(i:Int)):=Ux ⋯ ⋯;omega
   ·refine (r,c,rfl,λH7 v x S7 nv qv=>(I.trans S7,g++[x],(U.mono λ_ _ n=>n.same S7).append<|.one nv,by rw[Qi,lg];rfl,λy hy=>?_));rcases We.mp hy with z|z
    ·exact Y y z
    ·rw[Qf.mp z];exact qv
  rintro G D _ ⟨I,g,U,lg,Y⟩ e t;have p:u e=none:=I.free t;have Z:=O.notin p;have N:e≠l:=λz=>by rw[z,M] at p;cases p
  have Sw:=Zar t<|.lst G;have qw:=Zai (H:=D) (a:=e) (o:=.lst G);have S5:=I.trans Sw;have e5:=U.mono λ_ _ n=>n.same Sw;generalize upd D e (.lst G)=W at *;have C:=S5 _ _ M;refine (l,_,_,rfl,rfl,C,Qa (show (j.map V.ref).length<1000 by rw[Q1];omega) ∅,?_);have S:Off [l] W (upd W l<|.lst<|j.map V.ref++[.ref e]):=Znd<|Same.refl W;refine (_,j++[e],R++[g],rfl,Off.same S (J.trans S5) (λz X=>by rw[Qf.mp X];exact L),by rw[Zai,Wh];rfl,((O.same S5).off nt C S).snoc (S _ _ (λz=>N<|Qf.mp z) qw)<|e5.mono λ_ _ n=>n.off C S,by rw[Qi,lR];rfl,wd.snoc lg,qR.snoc Y,λz=>?_,Zkd B Z,λz X=>?_)
  ·rcases We.mp z with q|q
   ·exact nt q
   ·exact N (Qf.mp q).symm
  ·rcases We.mp X with q|q
   ·exact fr z q
   ·rw[Qf.mp q];exact J.free p
 ·rintro σ u ⟨z6,j,R,rfl,J,M,O,lR,wd,qR,nt,B,fr⟩;exact (_,rfl,k u l j R J M O lR wd qR fr B)
def ZmH:FnScope ["_law_prime_here","_law_cell"] ["_law_prime_here","_law_cell"] (Zab ZgB):=‹2›
def Zi4(h:Here K mg "_law_size" ZgB):Has P w K mg base "_law_size" 1 ["_law_prime_here", "_law_cell"] ZdU:=by
  refine h.has (λ_ _ F=>F.b2 λ_ _ _ _ _ _ _ _=>rfl) λf o F=>F.ok ZmH (λi H Q E h=>?_)<|λd A a s H i Q E m h=>?_
  · obtain ⟨_,_,rfl,_⟩:=h
    rfl
  obtain ⟨j,c,rfl,k⟩:=h;refine (_,(Zag (ZaY (Zay Zbr (pv 0) Zac<|ZaC _) (Zad<|Zaq<|ZaD Zct (ZeF<|Zaa Zac<|Zaa Zac<|Zaa Zac<|Zaa Zac Zaf) (Zap ZcQ (pv 1) Zac)<|λ_ _=>rfl) Zav)
    (Zad<|Zaq<|ZaD Zct (ZeF<|Zaa Zac<|Zaa Zac<|Zaa Zac<|Zaa Zac<|Zaa Zac<|Zaa Zac<|Zaa Zac<|Zaa Zac Zaf) (Zap ZcQ (pv 1) Zac)<|λ_ _=>rfl)),?_)
  refine (_,rfl,rfl,_,rfl,?_);refine Zb1 (λ_=>?_)<|λg=>?_
  · obtain ⟨n,en,n1,n7⟩:∃n:Nat,atI [V.int 1,V.int 2,V.int 2,V.int 3] (c%4)=some (.int (n:Int))/\1<=n/\n<=3:=by
      rcases (by omega:c%4=0\/c%4=1\/c%4=2\/c%4=3) with e | e | e | e <;> rw[e]
      · exact (1,rfl,∅,∅)
      · exact (2,rfl,∅,∅)
      · exact (2,rfl,∅,∅)
      · exact (3,rfl,∅,∅)
    refine ((by show 4<=sizeLine; decide),λl b=>?_);exact (_,rfl,_,_,rfl,rfl,(by show (0:Int)<_; decide),l,_,_,_,rfl,rfl,SqL.of Zai,en,k _ n (Zar b _) n1 ⋯ λ_=>n7)
  · obtain ⟨n,en,n1,n7⟩:∃n:Nat,atI [V.int 1,V.int 2,V.int 3,V.int 4,V.int 2,V.int 3,V.int 5,V.int 7] (c%8)=some (.int (n:Int))/\1<=n/\n<=7:=by
      rcases (by omega:c%8=0\/c%8=1\/c%8=2\/c%8=3\/c%8=4\/c%8=5\/c%8=6\/c%8=7) with e | e | e | e | e | e | e | e <;> rw[e]
      · exact (1,rfl,∅,∅)
      · exact (2,rfl,∅,∅)
      · exact (3,rfl,∅,∅)
      · exact (4,rfl,∅,∅)
      · exact (2,rfl,∅,∅)
      · exact (3,rfl,∅,∅)
      · exact (5,rfl,∅,∅)
      · exact (7,rfl,∅,∅)
    refine ((by show 8<=sizeLine; decide),λl b=>?_);exact (_,rfl,_,_,rfl,rfl,(by show (0:Int)<_; decide),l,_,_,_,rfl,rfl,SqL.of Zai,en,k _ n (Zar b _) n1 n7 λe=>absurd (by rw[e]; rfl) g)
end
abbrev Zt(T:Addr):Addr->Array Value->Prop:=λa b=>a=T/\b=Zp.laT
inductive sp_law (T:Addr) (K:ZZfg) (vs:List V) (H:Hp) (Q:VK) (zE:XK):Prop
 |mk (a:Addr) (ns:List Int) (_:vs=[.ref a]) (_:SqL K H a (ns.map V.int)) (_:ns.length<=63) (_:H T=some (.tbl Zp.laT)) (_:∀H',Q (.bl true) H'):sp_law T K vs H Q zE
def ZnY(b:List Int)(lo c:Option Int):∃a:List Int,Zh9 (b.map V.int) lo c=a.map V.int/\a.length<=b.length:=by
 unfold Zh9;rw[<-List.map_drop,<-List.map_take];exact (_,rfl,by rw[Qr,Wj];omega)
def ZjO{K:ZZfg}(h:SqL K H a xs)(S:Same H b):SqL K b a xs:=by
 rcases h with h|h
 ·rcases h with h|⟨o,h⟩
  ·exact .inl (.inl<|S _ _ h)
  ·exact .inl (.inr (o,S _ _ h))
 ·exact .inr h
def Ztz{C G X:Prop}(h:(C->G)->X)(a:C->G):X:=h a
def Zr9(x y:Int)(b:Bool):∃m:Int,atI [V.int x,V.int y] (if b=true then 1 else 0)=some (.int m)/\(m=x\/m=y):=by
 cases b
 ·exact (x,rfl,.inl rfl)
 ·exact (y,rfl,.inr rfl)
def Zqn{κ:KX}{H:Hp}{d:ZZla}{R:ZZll κ}(n:H c=some (.lst<|d.map V.ref))(k:RowsX κ H d R):Zp.Rep Z (Zp.hide [] H) (Zp.tab κ R) (.ref c):=by
 have r:Zp.Ls [] H:=λ_ m=>nomatch m;unfold Zp.Rep;refine (c,_,rfl,by rw[Zp.hide_out<|Wg];exact n,.of (by rw[Q1,Q1];exact k.1) λi p u w b=>?_);obtain ⟨f,l,rfl⟩:=Zp.mget w;rw[Q3] at b
 cases e:d[i]? with
 |none=>rw[e] at b;cases b
 |some a =>
  rw[e] at b;cases b;obtain ⟨t,g,h⟩:=k.2 i a f e l;unfold Zp.nums Zp.Rep;refine (a,t,rfl,by rw[Zp.hide_out<|Wg];exact g,.of (by rw[Q1];exact h.1) λj q v o s=>?_);obtain ⟨x,g,rfl⟩:=Zp.mget o;exact Zp.nr_rep r<|h.2 j v x s g
inductive LwA (κ:KX) (a kk ca:Addr) (H4:Hp) (mm:Nat) (σ:L2.St) (H':Hp):Prop
 |mk (at':Int) (z5 z6 z7:Option V) (_:mm=(200-at').toNat) (_:σ=[some (.ref a),some (.int κ.P),some (.ref kk),some (.ref ca),some (.int at'),z5,z6,z7]) (_:Same H4 H') (_:1<=at'):LwA κ a kk ca H4 mm σ H'
section
variable{P:Program}{w:World}{K:ZZfg}{mg:ZZmg}{base:Heap}{CF CR CP T:Addr}
def sc_law:FnScope ["_law_script","_law_prime_here","_law_kind_here","_law_cells","_law_at","_law_size_here","_law_table","_law_wrong"] ["_law_script"] (Zab Zpu):=‹2›
def Zsa(F:Fun K "law" "law" Zpu f fd) (Tn:Nm mg) (j:Has P w K mg base "_law_prime_by" 16 ["_law_cell"] ZcH) (y:Has P w K mg base "_law_kind" 16 ["_law_prime_here"] (ZfJ CF CR)) (g:Has P w K mg base "_law_cell_at" 16 ["_law_cells","_law_k"] (Zcf K)) (v:Has P w K mg base "_law_size" 16 ["_law_prime_here","_law_cell"] ZdU) (r:Has P w K mg base "_law_rows_by" 16 ["_law_prime_here","_law_cells","_law_at","_law_rows","_law_columns"] Zdk) (hl:Zp.Fn P w K mg base (Zp.Zk CF CR CP (λ_=>False)<|Zt T) "_law_least" 16 Zp.S_lleast) (p:Has P w K mg base "_law_refused" 16 ["_law_kind_here","_law_table"] ZjN):FnOk P w K mg base CX0 17 f fd ["_law_script"] (sp_law T K):=by
 obtain ⟨ps,u⟩:=hl.has;refine F.ok sc_law (λvs H Q E h=>?_)<|λc6 A b7 s H vs Q E U h=>?_
 ·obtain ⟨_,_,rfl,_⟩:=h
  rfl
 obtain ⟨a,ns,rfl,hS,hl,hT,k⟩:=h;have I:=sc_law.nd;refine (_,(Zag (ZaE (i:=1) I rfl (Or.inl rfl)<|ZaG j U (by rfl)<|Zaa (ZaG g U (by rfl)<|Zaa (pv 0)<|Zaa Zac Zaf) Zaf)
  (Zag (ZaE (i:=2) I rfl (Or.inl rfl)<|ZaG y U (by rfl)<|Zaa (pv 1) Zaf)
  (Zag (ZaE (i:=3) I rfl (Or.inl rfl)<|ZdX Ze8 (pv 0) Zgj<|Zgk<|ZaD Zct (ZeF<|Zaa Zac<|Zaa Zac Zaf) (Ze7 Zhq (by rfl) Tn.int boot_int<|Zaa (Zcr Zbr (pv 1) Zac<|ZaC _) Zaf)<|λ_ _=>rfl)
  (Zag (ZaE (i:=4) I rfl (Or.inl rfl) Zac)
  (Zag (Zcc PassesOwn.never (ZcW (Zay Zbr (pv 4) Zac<|ZaC _)<|ZcO<|Zay ZdW (pv 4) (Zao Za2 (by rfl) Tn.len boot_len<|Zaa (pv 3) Zaf)<|ZaC _).pt<|Zag (ZaE (i:=5) I rfl (Or.inl rfl)<|ZaG v U (by rfl)<|Zaa (pv 1)<|Zaa (ZaG g U (by rfl)<|Zaa (pv 3)<|Zaa (pv 4) Zaf) Zaf)
   (Zag (ZaE (i:=6) I rfl (Or.inl rfl)<|ZaG r U (by rfl)<|Zaa (pv 1)<|Zaa (pv 3)<|Zaa (Zap Za6 (pv 4) Zac)<|Zaa (pv 5)<|Zaa (pv 5) Zaf)
   (Zag (ZaE (i:=4) I rfl (Or.inl rfl)<|Zap Za6 (Zap Za6 (pv 4) Zac)<|Zap ZaK (pv 5)<|pv 5)
   (Zag (ZaY (ZcP<|ZaQ<|Zeg u Zla U (by rfl)<|Zaa (pv 2)<|Zaa (pv 1)<|Zaa (pv 6) Zaf) (Zad<|Zaq ZdV) Zav)
   (Zad<|Zdz PassesOwn.never rfl (ZcX<|ZeF<|Zaa (ZdX Ze8 (pv 6) (Zgk Zac) Zgj)<|Zaa (Zef ["_law_row"] [] rfl (ZcX<|pv 6) (by exact λ_ _ _ _=>(ZaL (i:=0) (show (["_law_row"]:List Str).Nodup by decide +kernel) rfl<|Or.inl rfl)) (by exact λ_ _ _ _=>(ZdX (ZnC K rfl) (pv 0) (Zgk Zac) Zgj)) trivial) Zaf) (ZaL (i:=7) I rfl<|Or.inl rfl)<|Zad<|ZaY (Zn0 (Zay Ze3 (pv 5) Zac<|ZaC _)<|Zkz<|ZcP<|ZaQ<|ZaG p U (by rfl)<|Zaa (pv 2)<|Zaa (pv 7) Zaf).pt (Zad<|Zaq ZdV) Zav)))))
  (Zad<|Zaq ZdV)))))),?_)
 refine (_,rfl,a,ns,0,rfl,hS,Int.le_refl _,λc0=>?_);refine (c0,rfl,λH1 pr S1 pk=>?_);refine (_,rfl,pr,rfl,pk,λH2 kk S2 b2=>?_);obtain ⟨O,rfl,c4⟩:=Zq1 b2;have b8:=ZjO hS<|S1.trans S2;have a8:=(S1.trans S2) _ _ hT;refine (_,rfl,(by show 2<=sizeLine;decide),λl nl=>?_);have Sl:=Zar nl<|.lst [.int 63,.int 16];have ql:=Zai (H:=H2) (a:=l) (o:=.lst [.int 63,.int 16]);generalize upd H2 l (.lst [.int 63,.int 16])=H3 at *;obtain ⟨m,em,_⟩:=Zr9 63 16<|decide<|V.int O.P=V.int 0;refine (_,rfl,rfl,.inr (_,rfl,l,_,_,_,rfl,rfl,SqL.of ql,em,m,rfl,a,_,rfl,ZjO b8 Sl,λX b4=>?_));obtain ⟨ms,es,c9⟩:=ZnY ns none<|some m;rw[es];have Sc:=Zar b4<|.lst<|ms.map V.int;have qc:=Zai (H:=H3) (a:=X) (o:=.lst<|ms.map V.int);generalize upd H3 X (.lst<|ms.map V.int)=H4 at *;have b3:=c4.same<|Sl.trans Sc;have c2:=(Sl.trans Sc) _ _ a8;refine (λmm Z H'=>LwA O a kk X H4 mm Z H',(_,1,_,_,_,rfl,rfl,Same.refl _,∅),?_);rintro mm Z H5 ⟨t,z5,z6,z7,rfl,rfl,S5,t1⟩;refine' Ztz (C:=t<=63) (λkb=>?cond) ?body
 case cond =>
  refine (_,rfl,rfl,_,rfl,?_);refine Zb1 (λz=>Zkv<|kb ?_)<|λz=>?_
  ·omega
  refine (_,rfl,_,rfl,X,_,rfl,.inl<|SqL.of<|S5 _ _ qc,_,_,rfl,rfl,_,rfl,?_);rw[Q1];refine ZcR (λz=>kb ?_)<|λ_=>k H5;have z:t<(ms.length:Int):=z;omega
 case body =>
 intro c8;refine (_,λ_ _ h=>h,?_);have a3:=S5 _ _ qc;refine (_,rfl,_,rfl,_,rfl,X,ms,t,rfl,SqL.of a3,⋯,λc1=>?_);refine (O,c1,rfl,λH6 n S6 n1 n7 n3=>?_);refine (_,rfl,_,rfl,_,rfl,_,_,rfl,rfl,_,rfl,_,rfl,O,X,ms,t+1,n,n,rfl,S6 _ _ a3,⋯,⋯,n7,n7,λH7 ta G R S7 a0 rx lR wd qR _ _=>?_);have nn:(n:Int)*n<=49:=by
  have:n*n<=7*7:=Qj n7 n7;have e:((n*n:Nat):Int)=(n:Int)*n:=W2 n n;omega
 have d0:0<=(n:Int)*n:=Ux ⋯ ⋯;refine (_,rfl,_,_,rfl,rfl,_,rfl,_,rfl,_,_,rfl,rfl,Zbu (Q0 (show ((n:Int)).natAbs<=7 by omega) ∅)<|Q0 (show ((n:Int)).natAbs<=7 by omega) ∅,_,_,rfl,rfl,?_);have M:=S5.trans<|S6.trans S7;have lr:=rx.1;refine (_,rfl,_,rfl,_,rfl,[],[.kd O,.int O.P,Zp.tab O R],(λ_ m=>nomatch m),.cons ?_<|.cons Zp.rep_i<|.cons (Zqn a0 rx) .nil,Zp.S_lleast.mk (lR,wd,n1,n7,n3,qR) λvb H8 S8 rb=>?_)
 ·unfold Zp.Rep;have e:Zp.hide [] H7=H7:=by funext a;exact Zp.hide_out Wg
  rw[e];exact (kk,rfl,b3.same M,λ_ z=>z.elim,λb ps ⟨e1,e2⟩=>by subst e1 e2;exact M _ _ c2)
 obtain rfl:=Zp.rep_bl rb;refine (_,rfl,Zed ?_);have b0:=rx.same S8;have a6:=S8 _ _ a0;have c5:=M.trans S8;clear M S7 S8 a0 rx;refine (_,rfl,_,rfl,ta,_,rfl,SqL.of a6,λN a7=>?_);rw[show Zh9 (G.map V.ref) (some 1) none=(G.drop 1).map V.ref by rw[List.map_drop];exact ZhI _ 1];have Ss:=Zar a7<|.lst<|(G.drop 1).map V.ref;have qs:=Zai (H:=H8) (a:=N) (o:=.lst<|(G.drop 1).map V.ref);generalize upd H8 N (.lst<|(G.drop 1).map V.ref)=H9 at *;have a4:=b0.same Ss;have a5:=Ss _ _ a6;refine (_,rfl,ta,rfl,(_,SqL.of a5),?_);refine ZkY (K:=K) (a:=ta) (xs:=G.map V.ref) (λi ys W=>Same H9 W/\∃B:ZZla,ys=B.map V.ref/\B.length=i/\∀d∈B,∃D,W d=some (.lst D)/\D.length=n-1) (by rw[Q1];omega) (Same.refl _,[],rfl,rfl,λd h=>nomatch h) (λi ys W _ q=>SqL.of<|q.1 _ _ a5) ?_ ?_
 ·rintro i x ys W J _ ⟨Sa,B,rfl,S,Y⟩;rw[Q3] at J
  cases e:G[i]? with
  |none=>rw[e] at J;cases J
  |some b =>
   rw[e] at J;cases J;have il:i<R.length:=by rw[<-lr];exact (Qp.mp e).1
   obtain ⟨xs,hb,al⟩:=a4.2 i b _ e<|Q6 il;have lx:xs.length=n:=al.1.trans<|wd _<|Qu il;refine (_,rfl,_,rfl,b,_,rfl,SqL.of<|Sa _ _ hb,λd I=>?_);have Sd:=Zar I<|.lst<|Zh9 xs (some 1) none;refine (Sa.trans Sd,B++[d],by simp,by simp[S],λc hc=>?_);rcases We.mp hc with q|q
   ·obtain ⟨D,h1,h2⟩:=Y c q;exact (D,Sd _ _ h1,h2)
   ·rw[Qf.mp q];exact (_,Zai,by rw[show Zh9 xs (some 1) none=xs.drop 1 from ZhI xs 1,Wj,lx])
 rintro ys W _ ⟨Sa,B,rfl,S,Y⟩ L b9;rw[Q1] at S;have Sb:=Zar b9<|.lst<|B.map V.ref;have qb:=Zai (H:=W) (a:=L) (o:=.lst<|B.map V.ref);have Y:∀d∈B,∃D,upd W L (.lst<|B.map V.ref) d=some (.lst D)/\D.length=n-1:=λd m=>let ⟨D,h1,h2⟩:=Y d m;(D,Sb _ _ h1,h2);generalize upd W L (.lst<|B.map V.ref)=Hb at *;refine ((by show 2<=sizeLine;decide),λp3 b6=>?_);have Sp:=Zar b6<|.lst [.ref N,.ref L];have qp:=Zai (H:=Hb) (a:=p3) (o:=.lst [.ref N,.ref L]);generalize upd Hb p3 (.lst [.ref N,.ref L])=Hc at *;have a2:=Sa.trans<|Sb.trans Sp;have wr:1<n->∀(i:Nat) (x:V),([V.ref N,V.ref L]:List V)[i]?=some x->Zr8 Hc x:=λn2 i x J=>by
  have mx:=Qd J
  simp only[Qe,Wg,or_false] at mx
  have i1:1<R.length:=⋯;obtain ⟨b,xs,gb,hb,al⟩:=a4.get (i:=1) i1;have lx:xs.length=n:=al.1.trans<|wd _<|Qu i1;rcases mx with rfl|rfl
  ·match G,gb,lr,qs with
   |_::c::rs',gb,lr,qs =>
    cases gb
    refine (N,b,rs'.map V.ref,xs,rfl,a2 _ _ qs,a2 _ _ hb,?_);rw[Q1];have:rs'.length+2=R.length:=lr;omega
  ·match B,S,qb,Y with
   |d::ds',S,qb,Y =>
    obtain ⟨D,h1,h2⟩:=Y d<|.head _;refine (L,d,ds'.map V.ref,D,rfl,Sp _ _ qb,Sp _ _ h1,?_);rw[Q1];have:ds'.length+1=G.length:=S;omega
   | [],S,_,_ =>
    have:0=G.length:=S;omega
 refine (p3,rfl,(_,SqL.of qp),?_);have c3:=c5.trans<|Ss.trans a2;refine ZeT (K:=K) (a:=p3) (xs:=[V.ref N,.ref L]) (λi Z Hh=>∃z7:Option V,Z=[some<|.ref a,some<|.int O.P,some<|.ref kk,some<|.ref X,some<|.int<|t+1+(n:Int)*n,some<|.int (n:Int),some<|.ref ta,z7]/\Same Hc Hh) (_,rfl,Same.refl _) ?_ ?_ ?_
 ·rintro i Z Hh-⟨z7,rfl,Sh⟩;exact SqL.of<|Sh _ _ qp
 ·rintro i x Z Hh J ⟨z7,rfl,Sh⟩;refine (_,rfl,_,_,rfl,rfl,_,rfl,?_);refine ZcR (λz=>?_)<|λ_=>Zed (_,rfl,Sh);have z:(1:Int)<(n:Int):=z;obtain ⟨a1,b1,a9,b5,e1,e2,e3,e4⟩:=wr ⋯ i x J;exact (_,rfl,_,rfl,_,_,rfl,(a1,b1,a9,b5,e1,Sh _ _ e2,Sh _ _ e3,e4),λHj Sj=>(_,rfl,Zed (_,rfl,Sh.trans Sj)))
 rintro Z Hh ⟨c7,rfl,Sh⟩;exact (_,⋯,t+1+(n:Int)*n,_,_,_,rfl,rfl,c3.trans Sh,⋯)
end
end My
namespace Zp
open My
open PySem PySem.Spec L2 PyProof.Rows
def ZmI{K:ZZfg}{fa a c T:Addr}{x:Str}{f:Shared}{vs:List Value}{S:List Int}{tq:Array Value}
    (KX:K.In f.heap) (N:f.heap.Ns mainGlobals mg) (g:f.heap.Ns builtinsNs mb) (a1:∀x:Str,x ≠ "__name__" -> mb x=bootBuiltins x) (a0:f.heap.NoLimit) (hg:f.gens=#[])
    (D:f.heap.get? a=some { cls:=.type "list", data:=.seq vs.toArray }) (hi:IntsAre vs S) (hl:S.length<=sizeLine) (hr:Room k callerA)
    (C:PySem.W.CodeHd f.heap c T) (E:f.heap.get? T=some (PySem.W.tabObj #[])) (a4:PySem.W.noTabs K=true) (a2:Bm mg f.heap)
    (F:∀base:Heap,K.In base->base.Ns mainGlobals mg->Bm mg base->PySem.W.CodeHd base c T->FnOk P w K mg base CX k fa fd [x] sp) (G:∀(s:Shared) (u:Value),BindsTo s fd ([u],[]) [(x,u)])
    (a5:∀H:Hp,SqL K H a (S.map V.int)->H T=some (.tbl tq)->sp [.ref a] H (λv _=>v = .bl true) λ_ _ _=>False)
    (a3:∀H e i,CX [] H f (λ_ _ _=>False) e i->False) :
    codeAny (model P w) callerA (.call (.ref fa) ([.ref a],[])) (λr i=>r = .ok (.ret<|.bool true)/\OldK f.heap i.heap/\i.os=f.os/\AllBare i.gens) f:=by
  have rv:=Zhz hi;have Q:=hi.length;have aT:a≠T:=λe=>by rw[e,E] at D; cases D
  have kT:K.lookup T=none:=by
    cases q:K.lookup T with
    | none=>rfl
    | some o =>
      have e:=KX _ _ q;rw[E] at e; cases e;have h2:=List.all_eq_true.mp a4 (T,_)<|PySem.W.mem_of_lookupK q;exact absurd (show false=true from h2) Qv
  have B:∀H:Hp,H T=some (.tbl tq)->(∀b,b≠T->H b=none\/∃o xs,H b=some (.frz o<|.lst xs))->SqL K H a (S.map V.int)->HOk P w H f.heap->(∀b,H b≠none->b=a\/b=T)->(H a≠none->K.lookup a=none) →
      codeAny (model P w) callerA (.call (.ref fa) ([.ref a],[])) (λr i=>r = .ok (.ret<|.bool true)/\OldK f.heap i.heap/\i.os=f.os/\AllBare i.gens) f:=by
    intro H U hO hS Z hA hK;have L:∀ {b:Addr} {o:Obj},f.heap.get? b=some o->(∀xs n,o.data ≠ .seq xs n)->o.cls ≠ .none->H b=none:=fun {b o} e d n=>by
      cases q:H b with
      | none=>rfl
      | some u =>
        rcases hA b (by rw[q]; simp) with e' | e'
        · subst e'; rw[D] at e; cases e; exact absurd rfl<|d _ _
        · subst e'; rw[E] at e; cases e; exact absurd rfl n
    have a7:∀ {b:Addr} {o:Obj} {es:Array DictEntry} {ep:Nat},f.heap.get? b=some o->o.data = .dict es ep->H b=none:=fun {b o es ep} e d=>by
      cases q:H b with
      | none=>rfl
      | some u =>
        rcases hA b (by rw[q]; simp) with e' | e'
        · subst e'; rw[D] at e; cases e; cases d
        · subst e'; rw[E] at e; cases e; cases d
    have p:∀ {b:Addr} {m:Str->Option Value},f.heap.Ns b m->(ZmK f.heap H).Ns b m:=fun {b m} (o,es,ep,e,d,r)=>(o,es,ep,ZeS e<|a7 e d,d,r)
    have R:K.In (ZmK f.heap H):=λb o e=>ZeS (KX b o e) (by
      cases q:H b with
      | none=>rfl
      | some u =>
        rcases hA b (by rw[q]; simp) with e' | e'
        · subst e'; rw[hK (by rw[q]; simp)] at e; cases e
        · subst e'; rw[kT] at e; cases e)
    have hM:Mod K mg (ZmK f.heap H):=(R,p N,(mb,p g,a1),let ⟨mc,h1,h2⟩:=a0; (mc,p h1,h2));have hB:Bm mg (ZmK f.heap H):=let ⟨bm,ob,b1,b2,b3,b4,b5,b6⟩:=a2; (bm,ob,b1,b2,ZeS b3<|L b3 (λ_ _ z=>by rw[b6] at z; cases z) (by rw[b4]; nofun),b4,b5,b6);have hC:PySem.W.CodeHd (ZmK f.heap H) c T:=by
      obtain ⟨o,us,M,tf,I,tg,a6,Y,tt,O,r1,r2,r⟩:=C;exact (o,us,M,tf,I,tg,a6,Y,tt,ZeS O<|L O (λ_ _ z=>by rw[r2] at z; cases z) (by rw[r1]; nofun),r1,r2,r)
    have e0:Env0 P w K mg (ZmK f.heap H) callerA [] f H:=(rfl,hM,λb o e=>ZoZ e,Wo<|Zky _ _,trivial,λb g=>absurd (show b∈([]:ZZla) from g) (by simp),Z,.of_eq hg);refine codeAny_mono ((F _ R (p N) hB hC).run callerA [] f H ([.ref a],[]) [.ref a] [.ref a] _ _ hr e0 (G f<|.ref a) (.cons rfl .nil)<|a5 H hS U) λr i h=>?_
    cases r with
    | error e=>exact (a3 H e i h).elim
    | ok fl =>
      cases fl with
      | next=>exact False.elim h
      | brk=>exact False.elim h
      | cont=>exact False.elim h
      | ret u =>
        obtain ⟨v,H',os,X,un,A,r',q⟩:=h;have q':v = .bl true:=q;subst q';obtain rfl:u=Value.bool true:=r';have kp:∀b o,b≠T->f.heap.get? b=some o->i.heap.get? b=some o:=λb o n e=>by
          rcases hO b n with z | ⟨ob,xs,z⟩
          · exact un.keep b o e z (by intro y; exact absurd (show b∈([]:ZZla) from y) (by simp)) (by simp)
          · have z2:=un.frzs b ob _ z
            obtain ⟨O,_⟩:=Z b _ z;obtain ⟨e2,_⟩:=A b _ z2;rw[e] at O; cases O;exact e2
        obtain ⟨a8,gT⟩:=un.tbls _ _ U;have J:∃ps,i.heap.get? T=some (PySem.W.tabObj ps):=by
          rcases A T _ gT with e | ⟨l,c0,q,t,c',oc,vs,t',_,e,_⟩
          · exact (_,e)
          · exact (_,e)
        refine (rfl,(λb o e=>?_,λb o e=>?_),os,X)
        · by_cases n:b=T
          · subst n
            rw[E] at e; cases e;obtain ⟨ps,J⟩:=J;exact .inr<|.inl ((C.tab E).isCodeTable,rfl,#[],ps,rfl,by rw[Array.empty_append]; exact J)
          · exact .inl (kp b o n e)
        · by_cases n:b=T
          · subst n; exact let ⟨ps,J⟩:=J; (_,J)
          · exact (o,kp b o n e)
  have W:∀H:Hp,ObjOk P w H f.heap T (.tbl tq):=λH => .inl E
  cases hk:K.lookup a with
  | some o =>
    have e:=KX a o hk;rw[D] at e
    cases e
    refine B (λb=>if b=T then some (.tbl tq) else none) (if_pos rfl) (λb n => .inl<|if_neg n) (.inr (_,vs.toArray,_,hk,rfl,rfl,rfl,by rw[Qh,Q]; exact hl,by simpa using rv)) (λb u z=>?_) (λb z=>?_) λz=>absurd (if_neg aT) z
    · by_cases n:b=T
      · have j:=(if_pos n).symm.trans z
        cases j; subst n; exact W _
      · have j:=(if_neg n).symm.trans z
        cases j
    · by_cases n:b=T
      · exact .inr n
      · exact absurd (if_neg n) z
  | none =>
    refine B (λb=>if b=T then some (.tbl tq) else if b=a then some (.frz { cls:=.type "list", data:=.seq vs.toArray }<|.lst<|S.map V.int) else none) (if_pos rfl) (λb n=>?_) (.inl<|.inr ({ cls:=.type "list", data:=.seq vs.toArray },(if_neg aT).trans<|if_pos rfl)) (λb u z=>?_) (λb z=>?_) λ_=>hk
    · by_cases g:b=a
      · exact .inr (_,_,(if_neg n).trans<|if_pos g)
      · exact .inl ((if_neg n).trans<|if_neg g)
    · by_cases n:b=T
      · have j:=(if_pos n).symm.trans z
        cases j; subst n; exact W _
      · by_cases g:b=a
        · have j:=((if_neg n).trans<|if_pos g).symm.trans z
          cases j
          subst g;exact (D,by rw[Q1]; exact hl,vs,_,rv,D)
        · have j:=((if_neg n).trans<|if_neg g).symm.trans z
          cases j
    · by_cases n:b=T
      · exact .inr n
      · by_cases g:b=a
        · exact .inl g
        · exact absurd ((if_neg n).trans<|if_neg g) z
def walk_ofT{l:PySem.W.OpenLaw}{n k:Nat}{L:World->Heap->Prop}{d:DefRec}{K:Params->ZZfg}{CX:World->CXT}{sp:World->Sp}{x:Str}{c T:Addr}{tq:Array Value}
    (Q:l.most=some n) (C:n<=sizeLine) (z:d.params.defaults=[]) (hr:Room k callerA)
    (N:∀(w:World) (h:Heap),L w h->(K w.params).In h) (y:∀(w:World) (h:Heap),L w h->h.get? T=some (PySem.W.tabObj #[])) (U:∀w:World,PySem.W.codeHdIn (K w.params) c T=true) (E:∀w:World,PySem.W.noTabs (K w.params)=true)
    (F:∀(w:World) (mg:ZZmg) (t:Addr) (h:Heap),(K w.params).In h->h.Ns mainGlobals mg->mg d.name=some (.ref t) →
      ∃D:FuncData,(∀(s:Shared) (u:Value),BindsTo s D ([u],[]) [(x,u)]) ∧
        ∀base:Heap,(K w.params).In base->base.Ns mainGlobals mg->Bm mg base->PySem.W.CodeHd base c T->FnOk l.prog w (K w.params) mg base (CX w) k t D [x] (sp w))
    (A:∀(w:World) (H:Hp) (a:Addr) (r:List Int),r.length<=n->(∀i∈r,Bits 1048576 i)->SqL (K w.params) H a (r.map V.int)->H T=some (.tbl tq)->sp w [.ref a] H (λv _=>v = .bl true) λ_ _ _=>False)
    (B:∀(w:World) (H:Hp) (s:Shared) (e:Value) (J:Shared),CX w [] H s (λ_ _ _=>False) e J->False) :
    PySem.W.WalkO q j S L l.row.toRowW d [] (λf vs=>PySem.call f vs):=by
  refine ZhG Q z λw M o mg X t a vs r G Y I p g b m W=>?_;have KX:=N w _ Y;obtain ⟨D,R,P⟩:=F w mg t _ KX G.T.g I;exact ZmI KX G.T.g G.T.b G.T.builtins G.T.nolimit W p g (Q0 b C) hr (PySem.W.codeHd_of_K KX<|U w) (y w _ Y) (E w) G.T.bmain P R (λH O y=>A w H a r b m O y) λH e J=>B w H o e J
end Zp
namespace My
open PySem L2 PyProof.Rows
section
variable{P:Program}{w:World}{K:ZZfg}{mg:ZZmg}{base:Heap}{CF CR:Addr}
def Zh5(d:Kd K mg CF CR)(i:HasM P w K mg base CF "is_nought" 2 ["self","one"] [] (Zev K CF)) (m:HasM P w K mg base CR "is_nought" 2 ["self","one"] [] Zew):Zp.NoughtZ P w K mg base CF CR:=by
 intro g H s f
 cases g with
 |q =>
  obtain ⟨c,h⟩:=f;refine (CF,c,[],_,_,_,h,d.clF,i,rfl,rfl,λj u x Q b k=>?_);obtain ⟨a,rfl,b⟩:=b;refine (s,a,_,_,rfl,SqT.of b,k _ ?_);rw[decide_eq_true_iff];exact Rat.num_eq_zero
 |r p l =>
  obtain ⟨c,h⟩:=f;refine (CR,c,fsR p,_,_,_,h,d.clR,m,ZdB _ ∅,rfl,λj u x Q b k=>?_);have b:u = .int x.val:=b;subst b;refine (s,_,rfl,k _ ?_);rw[decide_eq_true_iff]
  letI:=l.nz
  have z:(0:Fin p).val=0:=by simp
  constructor
  ·intro e;exact Fin.ext (by rw[z];omega)
  ·intro e;have e:x=(0:Fin p):=e;rw[e,z];rfl
def ZeD:FnScope ["self","under"] ["self","under"] (Zab ZbP):=‹2›
def ZnZ(h:HereI K CR "Polys.__init__" ZbP) (b:Pc K mg CR):HasI P w K mg base CR 1 ["self","under"] (ZcL CR):=by
 refine h.hasI (λ_ _ F=>F.b2 λ_ _ _ _ _ _ _ _=>rfl) λf j F=>F.ok ZeD (λg H Q E h=>?_)<|λc A a s H g Q E i h=>?_
 ·obtain ⟨_,_,_,rfl,_⟩:=h
  rfl
 obtain ⟨x,d,l,rfl,e,k⟩:=h;refine (_,(Zad<|Zn8 (pv 0) (pv 1) rfl),?_);exact (_,rfl,_,rfl,x,CR,d,_,rfl,e,b.cl,b.nU,(by show 0<1000;decide),k)
def Zdl{j k:Nat}(h:HasI P w K mg base C j ps sp)(e:j<=k):HasI P w K mg base C k ps sp:=let ⟨f,fd,a,b,c⟩:=h.ex;(f,fd,a,b.mono e,c)
end
section
variable{P:Program}{w:World}{K:ZZfg}{mg:ZZmg}{base:Heap}{CF CR cF cN:Addr}
def ZmJ(j:Kd K mg CF CR)(v:HasMX P w K mg base CF "number" 3 ["self","top","bottom"] [] Zb9) (I:HasMX P w K mg base CR "number" 3 ["self","top","bottom"] [] (ZbE CR cN)):ZjA P w K mg base CF CR:=by
 intro u H s n
 cases u with
 |q =>
  obtain ⟨c,h⟩:=n;refine (CF,c,[],_,_,_,h,j.clF,v,rfl,rfl,λt b y Q E S d l m _ k=>(s,1,b,rfl,l,m,λr x z M G e=>?_));have J:Rat.num y=b:=d.1;have F:Rat.den y=1:=d.2;obtain ⟨N,O⟩:=Zls (q:=y) G (by rw[J,F,e];rfl);refine k _ _ (Zar M _) (r,rfl,?_);show upd t r _ r=some (.tup [.int (Fd.inv y:Rat).num,.int ((Fd.inv y:Rat).den:Int)]);rw[N,O];exact Zai
 |r p a =>
  obtain ⟨c,h⟩:=n;have R:=a.pr.1;refine (CR,c,_,_,_,_,h,j.clR,I,ZdB p ∅,rfl,λt b y Q E S d l m g k=>?_);have g:=g<|λz=>nomatch z;subst g;refine (s,p,1,1,rfl,(c,S _ _ h),a.pr,by have:=a.lt;omega,∅,∅,λz=>?_,λ_ f r L D B i=>?_)
  ·have:=Int.le_of_dvd ∅ z;omega
  ·refine k _ f L ?_;have A:y=K1 (.r p a):=d.uniq Zda;subst A;have C:(KX.r p a).invF (K1<|.r p a)=K1 (.r p a):=by
    have:(KX.r p a).mulF (K1<|.r p a) (K1<|.r p a)=K1 (.r p a):=Zjz;exact (ZhJ this).symm
   show V.int r=V.int ((Fin.val ((KX.r p a).invF<|K1<|.r p a):Nat):Int);rw[C,ZgL]
   congr 1
   rw[Ut] at i;have o:r%p=1%p:=Int.emod_eq_emod_iff_emod_sub_eq_zero.mpr<|U9 i;rw[Uk D B,Uk ∅ ⋯] at o;exact o
end
end My
local macro_rules | `(universe $_) => do
  let b := `PySem.Challenge.cw_turnframe_k46_least_holds
  let r := ((Array.range 832).map fun i => Lean.Name.str b s!"o_{i+43}") ++ (#["tree_516","sts_233","tree_182","tree_749","tree_47","sts_837","heap_46","sts_440","sts_517","tree_115","sts_363","sts_71","sts_750","sts_86","tree_152","tree_232","tree_167","heap_39","tree_665","sts_168","sts_49","tree_85","sts_666","tree_874","tree_589","sts_183","tree_276","sts_153","tree_836","view_39","tree_100","heap_875","env_41","tree_439","tree_70","tree_362","sts_101","sts_590","sts_277","sts_116","tree_130","sts_131"]).map (Lean.Name.str b)
  let c ← (r.push `PySem.Challenge.pw_turnframe_k46_least).mapM fun n => let i := Lean.mkIdent (.str `PySem.W.Fast s!"tw{n.hash}"); `(theorem $i : True := trivial)
  return Lean.mkNullNode c
universe u
namespace My
open PySem L2 PyProof.Rows
structure Defs (K:ZZfg) (mg:ZZmg) (CF CR CP tC tT CE cK cN cF cT cI cX cM cR:Addr):Prop where
 T:Nm mg
 kd:Kd K mg CF CR
 pc:Pc K mg CP
 R:Rf K mg CE cK cN cF cT cI cX cM cR
 Z:Rz K mg "NoFit" CE cF [cK,cN,cT,cI,cX,cM,cR]
 xn:ExcC K mg "NoNumber" cN
 nz:mg "zip"=none
 nsu:mg "sum"=none
 nmx:mg "max"=none
 nmn:mg "min"=none
 nrv:mg "reversed"=none
 d1:Here K mg "divisor" Zfe
 d2:Here K mg "is_whole" Zeh
 d3:Here K mg "is_prime" Zei
 d4:Here K mg "shares" Zgr
 d5:Here K mg "less_times" Zc0
 c1:Here K mg "scaled_row" Zc3
 c2:Here K mg "column_at" ZdH
 c3:Here K mg "sums_with" ZdI
 c4:Here K mg "is_square" Zb3
 c5:Here K mg "need_square" ZbW
 c6:Here K mg "scaled" Zgt
 c7:Here K mg "evenly_freed" Zch
 c8:Here K mg "product_number" ZbO
 c9:Here K mg "corner_numbers" ZbQ
 c10:Here K mg "falling_numbers" ZbD
 c11:Here K mg "great" Zgv
 c12:Here K mg "plus_row" Zek
 c21:Here K mg "image" Zim
 c23:Here K mg "climbed" Zfh
 c31:Here K mg "trimmed" Zff
 c32:Here K mg "divided" Zfg
 c34:Here K mg "raised" Zgu
 c35:Here K mg "following_row" Zb4
 c36:Here K mg "common_row" Zce
 c37:Here K mg "bottom_factor" Zb5
 c38:Here K mg "common_part" ZcB
 c39:Here K mg "turned" Zgs
 c40:Here K mg "tops_over" ZdJ
 c41:Here K mg "least_within" Zci
 c43:Here K mg "unit_row" Zej
 c44:Here K mg "image_at" Zel
 c45:Here K mg "part_without" Zcj
 c46:Here K mg "joined" Zgw
 c47:Here K mg "gathered" Zem
 c48:Here K mg "least" ZcC
 l1:Here K mg "_law_whole" Zfi
 l2:Here K mg "_law_divisor" ZdK
 l3:Here K mg "_law_is_prime" Zc5
 l4:Here K mg "_law_prime" Zfj
 l5:Here K mg "_law_kind" Zgx
 l6:Here K mg "_law_fraction" Zc7
 l7:Here K mg "_law_prime_by" Zc6
 l8:Here K mg "_law_make" Zgy
 l9:Here K mg "_law_is_number" ZcD
 l10:Here K mg "_law_drawn" Zfm
 l11:Here K mg "_law_plus" Zgz
 l12:Here K mg "_law_times" Zfk
 l13:Here K mg "_law_minus" Zfl
 l14:Here K mg "_law_image" Zfn
 l15:Here K mg "_law_ranked" Zeo
 l16:Here K mg "_law_unit" ZgA
 l17:Here K mg "_law_nought" Zep
 l18:Here K mg "_law_size" ZgB
 l19:Here K mg "_law_least" Zfo
 l20:Here K mg "_law_chained" ZdO
 l21:Here K mg "_law_spoil" Zd2
 l27:Here K mg "_law_is_row" Zen
 l28:Here K mg "_law_cell_at" ZdL
 l29:Here K mg "_law_rows_by" ZdM
 l30:Here K mg "_law_refused" ZdN
 m1:HereM K CF "plus" "Fractions.plus" ZbL
 m2:HereM K CF "minus" "Fractions.minus" ZbA
 m3:HereM K CF "back" "Fractions.back" ZbM
 m4:HereM K CF "times" "Fractions.times" ZbB
 m5:HereM K CF "is_nought" "Fractions.is_nought" Zbb
 m6:HereM K CF "common_bottom" "Fractions.common_bottom" ZaX
 m7:HereM K CF "sum_of_products" "Fractions.sum_of_products" ZaR
 m8:HereM K CF "over" "Kind.over" Zcw
 r1:HereM K CR "plus" "Rests.plus" Zc1
 r2:HereM K CR "minus" "Rests.minus" Zcx
 r3:HereM K CR "back" "Rests.back" Zc2
 r4:HereM K CR "times" "Rests.times" Zcy
 r5:HereM K CR "is_nought" "Rests.is_nought" ZbC
 r6:HereM K CR "common_bottom" "Kind.common_bottom" Zbg
 r7:HereM K CR "sum_of_products" "Rests.sum_of_products" Za4
 r8:HereM K CR "over" "Kind.over" Zcw
 p1:HereM K CP "times" "Polys.times" ZcA
 p2:HereM K CP "plus" "Polys.plus" Zc4
 p3:HereM K CP "minus" "Polys.minus" Zcz
 n1:∃tk,HereD K CF "number" "Fractions.number" ZaV #[.int 1 tk]
 n2:∃tk,HereD K CR "number" "Rests.number" Zbh #[.int 1 tk]
 i1:HereI K CR "Rests.__init__" ZbN
 i2:HereI K CP "Polys.__init__" ZbP
 tb:Zp.CdK K mg "least" tC
 lw:Here K mg "law" Zpu
def all_mk{l:PySem.W.OpenLaw}{K:ZZfg}{mg:ZZmg}{fa h CR i tC k CE cK cN cF cT cI cX cM cR:Addr}(R:mg "law" = some (.ref fa)) (D:Defs K mg h CR i tC k CE cK cN cF cT cI cX cM cR) :
    ∃H:FuncData,(∀(s:Shared) (v:Value),BindsTo s H ([v],[]) [("_law_script", v)])/\∀base:Heap,K.In base->base.Ns mainGlobals mg->Zp.Bm mg base->PySem.W.CodeHd base tC k->FnOk l.prog w K mg base CX0 17 fa H ["_law_script"] (sp_law k K):=by
  obtain ⟨f,H,F,m⟩:=D.lw.ex;have e:=R.symm.trans m
  cases e
  refine (H,?_,λbase hK hG hB hC=>?_)
  · obtain ⟨oc,od,kV,d4,pm,an,c9,ct,d1,rfl,lk,d2⟩:=F.ex
    exact λs v => .of_eq rfl
  · have T:=D.T
    have d:=D.kd;obtain ⟨d0,n1⟩:=D.n1;obtain ⟨d5,n2⟩:=D.n2;have z:Has l.prog w K mg base "divisor" 1 _ _:=Zj4 D.d1 T;have g2:Has l.prog w K mg base "is_whole" 1 _ _:=Zio D.d2 T;have g3:Has l.prog w K mg base "is_prime" 1 _ _:=Zip D.d3 T;have g5:Has l.prog w K mg base "less_times" 1 _ _:=ZgE D.d5;have g4:=Zli D.d4 g5;have ai:=Zm8 D.i1 d.clR d.nP g2 g3;have a1:=Zlm D.m1 z;have a2:=Zj9 D.m2 d.clF a1;have a3:HasMX l.prog w K mg base h "back" 1 _ _ _:=Znb D.m3 D.xn;have a4:=Zj7 D.m4 z;have a5:HasM l.prog w K mg base h "is_nought" 1 _ _ _:=Zka D.m5;have a6:=ZiH D.m6 z;have a7:=Zit n1 D.xn z;have a8:=ZiI n1 D.xn z;have a9:=Znu D.m7 d.clF D.nz a6 a8;have b1:HasM l.prog w K mg base CR "plus" 1 _ _ _:=Zna D.r1 d.clR d.nP;have b2:HasM l.prog w K mg base CR "minus" 1 _ _ _:=Zlo D.r2 d.clR d.nP;have b7:=Ziu n2 d.clR d.nP D.xn g4;have b8:=Zj8 n2 d.clR d.nP D.xn g4;have b3:=Znc D.r3 d.clR b8;have b4:HasM l.prog w K mg base CR "times" 1 _ _ _:=Zln D.r4 d.clR d.nP;have b5:HasM l.prog w K mg base CR "is_nought" 1 _ _ _:=Zkb D.r5;have b6:HasM l.prog w K mg base CR "common_bottom" 1 _ _ _:=Zkm D.r6;have b9:HasM l.prog w K mg base CR "sum_of_products" 3 _ _ _:=Znv D.r7 d.clR d.nP D.nz D.nsu;have mp:=Zlp d a1<|b1.mono ∅;have mt:=Zkc d a4<|b4.mono ∅;have mz:=Zh5 d (a5.mono ∅)<|b5.mono ∅;have mm:=Zke d a2<|b2.mono ∅;have mn:=Zix d (a7.mono ∅) b7;have mb:=Zlv d (a3.mono ∅) b3;have md:=Znw d a9 b9;have mc:=ZmJ d (a8.mono ∅) b8;have u:HasI l.prog w K mg base i 1 _ _:=ZnZ D.i2 D.pc;have Q:∀Z:Zp.Zc,Z.f=h->Z.r=CR->Z.p=i->Zp.Fn l.prog w K mg base Z "great" 7 Zp.S_great/\Zp.Fn l.prog w K mg base Z "least_within" 12 Zp.S_lwithin/\Zp.Fn l.prog w K mg base Z "unit_row" 4 Zp.S_urow/\Zp.Fn l.prog w K mg base Z "joined" 13 Zp.S_joined/\Zp.Mt l.prog w K mg base Z Zp.zKd "number" 3 Zp.Snum:=by
      rintro Z rfl rfl rfl;have p:=Zp.mt_2 (Z:=Z) mt;have p2:=Zp.mt_2 (Z:=Z) mp;have M:=Zp.mt_m (Z:=Z) mm;have o2:=Zp.mt_nz (Z:=Z) mz;have r:=Zp.mt_back (Z:=Z) mb;have g:=Zp.mt_num (Z:=Z) mn;have c3:=Zp.mt_numC (Z:=Z) mc;have N:=Zp.mt_dot (Z:=Z) md;have j2:=Zp.mt_bot (Z:=Z) d a6<|b6.mono ∅;have x:=Zp.z_trimmedF D.c31 T o2;have S:=Zp.z_trimmed x;have sr:=Zp.z_scaled_row D.c1 p;have G:=Zp.z_divided D.c32 T D.nrv r (p.mono ∅) (M.mono ∅)<|S.mono ∅;have ca:Zp.Fn l.prog w K mg base Z "column_at" 1 _:=Zp.z_column_at D.c2;have tu:=Zp.z_turned D.c39 T ca;have sc:=Zp.z_scaled D.c6 sr;have y:=Zp.z_plus_rowF D.c12 D.nz p2;have pr:=Zp.z_plus_row y;have sw:=Zp.z_sums_with D.c3 N;have im:=Zp.z_image D.c21 T sw;have pn:=Zp.z_product_number D.c8 T D.nmx D.nmn N;have C:=Zp.z_PtF D.p1 T D.pc (x.mono ∅) pn;have E:=Zp.z_Pt C;have Pp:=Zp.z_Pp D.p2 T D.nz D.pc (p2.mono ∅)<|S.mono ∅;have Pm:=Zp.z_Pm D.p3 D.pc (M.mono ∅) (g.mono ∅) Pp;have O:=Zp.z_raised D.c34 T g<|p.mono ∅;have bf:=Zp.z_botf D.c37 g<|j2.mono ∅;have fo:=Zp.z_follow D.c35 T D.nz D.pc (Zdl u ∅) (p.mono ∅) (r.mono ∅) (E.mono ∅) Pm (O.mono ∅)<|G.mono ∅;have ov:=Zp.mt_kk d (Zp.z_over D.m8 (p.mono ∅) r) (Zp.z_over D.r8 (p.mono ∅) r) λ_ _ _ f ⟨a,b,c,q⟩=>(a,b,c,f _ q);have r0:Zp.Fn l.prog w K mg base Z "common_row" 0 _:=Zp.z_crow0 D.c36;have r1:=Zp.z_crow (j:=8) ∅ D.c36 T D.pc (Zdl u ∅) (g.mono ∅) (r.mono ∅) (ov.mono ∅) (E.mono ∅) (O.mono ∅) (fo.mono ∅)<|r0.mono ∅;have r2:=Zp.z_crow (j:=9) ∅ D.c36 T D.pc (Zdl u ∅) (g.mono ∅) (r.mono ∅) (ov.mono ∅) (E.mono ∅) (O.mono ∅) (fo.mono ∅) r1;have cp:=Zp.z_cpart D.c38 D.pc (Zdl u ∅) (E.mono ∅) (bf.mono ∅) r2;have cn:=Zp.z_corner D.c9 T (g.mono ∅) (M.mono ∅) (N.mono ∅) (ca.mono ∅) sw;have fl:=Zp.z_falling D.c10 T (g.mono ∅) cn<|pn.mono ∅;have sq:Zp.Fn l.prog w K mg base Z "is_square" 1 _:=Zp.z_is_square D.c4 T;have ns:=Zp.z_need_square D.c5 sq;have fr:=Zp.z_freed D.c7 (g.mono ∅) (j2.mono ∅) sc;have gr:=Zp.z_great D.c11 T D.nrv (c3.mono ∅) (p.mono ∅) (ns.mono ∅) (fr.mono ∅) fl;have cl:=Zp.z_climbed D.c23 D.nrv (g.mono ∅) (pr.mono ∅) im<|sr.mono ∅;have tp:=Zp.z_tops D.c40 T D.nrv (tu.mono ∅) cl<|S.mono ∅;have lw:=Zp.z_lwithin D.c41 T (tp.mono ∅) cp<|G.mono ∅;have P:=Zp.z_urow D.c43 T g;have ia:=Zp.z_imat D.c44 cl;have pw:=Zp.z_pwo D.c45 T cp<|G.mono ∅;have J:=Zp.z_joined D.c46 T D.pc (Zdl u ∅) (C.mono ∅) (G.mono ∅) (cp.mono ∅) pw (ia.mono ∅)<|y.mono ∅;exact (gr,lw,P,J,g)
    obtain ⟨_,U,I,_⟩:=Q (Zp.Zb h CR i) rfl rfl rfl;have ga:∀s,Zp.Fn l.prog w K mg base (Zp.Zk h CR i s<|Zt k) "gathered" 14 Zp.S_gathered:=λs=>by
      obtain ⟨_,_,P,J,g⟩:=Q (Zp.Zk h CR i s<|Zt k) rfl rfl rfl;exact Zp.z_gathered D.c47 T (Zp.la_rule T U<|I.mono ∅) (g.mono ∅) J<|P.mono ∅
    have le:=Zp.z_least (s:=λ_=>False) D.c48 T (λs=>(Q (Zp.Zk h CR i s<|Zt k) rfl rfl rfl).1.mono ∅) ga hB hC (rfl,rfl) D.tb;have w1:Has l.prog w K mg base "_law_whole" 1 _ _:=Zj6 D.l1 T;have w2:Has l.prog w K mg base "_law_divisor" 1 _ _:=ZhH D.l2 T;have w3:Has l.prog w K mg base "_law_is_prime" 1 _ _:=ZgC D.l3;have w4:=Zi1 D.l4 w3;have w5:=ZmF D.l5 d ai;have w6:=ZmB D.l6 w2;have w7:=Zhg D.l7 w4;have w8:Has l.prog w K mg base "_law_make" 1 _ _:=ZmD D.l8;have w9:=ZfZ D.l9 T w1 w2;have b0:=Zi3 D.l10 w6;have c4:=Zkt D.l11 w6;have X:=Zi2 D.l12 w6;have c8:=Zhh D.l27 T w9;have A:Has l.prog w K mg base "_law_cell_at" 1 _ _:=Zh3 D.l28 T;have c1:=Zh4 D.l29 T b0<|A.mono ∅;have c7:Has l.prog w K mg base "_law_size" 1 _ _:=Zi4 D.l18;have a0:Has l.prog w K mg base "_law_refused" 5 _ _:=ZfX D.l30 T D.R D.Z<|ZmA D.c48<|Zmz D.c11<|ZfI D.c5 T D.Z.c D.c4;have f0:Has l.prog w K mg base "_law_spoil" 0 _ _:=Zr5 D.l21;have f3:=Zdu D.l21 T<|Zdu D.l21 T<|Zdu D.l21 T<|Zdu D.l21 T f0;have t:=Zp.z_lmake (Z:=Zp.Zk h CR i (λ_=>False)<|Zt k) w8;have o:=Zp.z_lop (Z:=Zp.Zk h CR i (λ_=>False)<|Zt k) c4;have n:=Zp.z_lop (Z:=Zp.Zk h CR i (λ_=>False)<|Zt k) X;have c0:=Zp.z_limage D.l14 T (t.mono ∅) o n;have B:=Zp.z_lchain D.l20 T c0;have c5:=Zp.z_lminus D.l13 (t.mono ∅) o n;have c6:=Zp.z_lnought D.l17 T B (t.mono ∅) (o.mono ∅)<|n.mono ∅;have c2:=Zp.z_lranked D.l15 T (t.mono ∅) (n.mono ∅) c5;have L:=Zp.z_lunit D.l16 T<|t.mono ∅;have Y:=Zp.z_lisrow (Z:=Zp.Zk h CR i (λ_=>False)<|Zt k) c8;have W:=Zp.z_lleast D.l19 T le (f3.mono ∅) (Y.mono ∅) (t.mono ∅) (L.mono ∅) (c6.mono ∅) (c2.mono ∅)<|B.mono ∅;exact Zsa F T (w7.mono ∅) (w5.mono ∅) (A.mono ∅) (c7.mono ∅) (c1.mono ∅) W<|a0.mono ∅
def walk{l:PySem.W.OpenLaw}{j:World->Heap->Prop}{d:DefRec}{K:Params->ZZfg}{tC c:Addr}(B:l.most=some 63)(i:d.params.defaults=[])
    (p:∀(w:World) (h:Heap),j w h->(K w.params).In h) (e:∀(w:World) (h:Heap),j w h->h.get? c=some (PySem.W.tabObj #[])) (y:∀w:World,PySem.W.codeHdIn (K w.params) tC c=true) (g:∀w:World,PySem.W.noTabs (K w.params)=true)
    (F:∀(w:World) (mg:ZZmg) (o:Addr) (h:Heap),(K w.params).In h->h.Ns mainGlobals mg->mg d.name=some (.ref o) →
      ∃m:FuncData,(∀(s:Shared) (u:Value),BindsTo s m ([u],[]) [("_law_script", u)])/\∀base:Heap,(K w.params).In base->base.Ns mainGlobals mg->Zp.Bm mg base->PySem.W.CodeHd base tC c->FnOk l.prog w (K w.params) mg base CX0 17 o m ["_law_script"] (sp_law c<|K w.params)) :
    PySem.W.WalkO q b r j l.row.toRowW d [] (λf vs=>PySem.call f vs) :=
  Zp.walk_ofT (n:=63) (k:=17) (x := "_law_script") (tq:=Zp.laT) (CX:=λ_=>CX0) (sp:=λw=>sp_law c<|K w.params) B ∅ i (rfl,∅,∅) p e y g F (λ_ _ a v A _ t e=>(a,v,rfl,t,A,e,λ_=>rfl)) λ_ _ _ _ _ z=>z
def kd_mk{K:ZZfg}{h:Heap}{a CR:Addr}(X:K.In h)(G:h.Ns mainGlobals mg)(b:PySem.W.nsIn K mainGlobals "Fractions" = some (some<|.ref a)) (j:PySem.W.nsIn K mainGlobals "Rests" = some (some<|.ref CR))
    (p1:PySem.W.plainGet K a Str.empty=true) (p2:PySem.W.hasDictIn K a=true) (p3:PySem.W.plainOver K a=true) (m:PySem.W.findIn K (.ref a) "__setattr__" = some (some<|.builtin "object.__setattr__"))
    (c:PySem.W.plainGet K CR Str.empty=true) (i:PySem.W.hasDictIn K CR=true) (e:PySem.W.plainOver K CR=true) (l:PySem.W.findIn K (.ref CR) "__setattr__" = some (some<|.builtin "object.__setattr__"))
    (d:PySem.W.findIn K (.ref CR) "prime" = some none) (k:PySem.W.makesIn K a=true) (f:PySem.W.findIn K (.ref a) "__init__" = some (some<|.builtin "object.__init__")) (g:PySem.W.keepIn K (.ref a)=true):Kd K mg a CR :=
  ((p1,p2,p3,m),(c,i,e,l),d,(k,f,g),PySem.W.mg_of X G b,PySem.W.mg_of X G j)
def pc_mk{K:ZZfg}{h:Heap}{b:Addr}(X:K.In h)(G:h.Ns mainGlobals mg)(a:PySem.W.nsIn K mainGlobals "Polys" = some (some<|.ref b))
    (d:PySem.W.plainGet K b Str.empty=true) (c:PySem.W.hasDictIn K b=true) (f:PySem.W.plainOver K b=true) (g:PySem.W.findIn K (.ref b) "__setattr__" = some (some<|.builtin "object.__setattr__"))
    (e:PySem.W.findIn K (.ref b) "under" = some none):Pc K mg b:=((d,c,f,g),e,PySem.W.mg_of X G a)
def tb_mk{K:ZZfg}{h:Heap}{c f:Addr}{g:Value}{i:Option Addr}{d:FuncData}{j:Array (Option Value)}(X:K.In h)(G:h.Ns mainGlobals mg)(a:PySem.W.nsIn K mainGlobals x=some (some<|.ref f))(b:K.lookup f=some (g,i,.func d,j))(e:d.code = .ref c):Zp.CdK K mg x c:=(f,g,i,d,j,PySem.W.mg_of X G a,b,e)
def cn_mk{K:ZZfg}{h:Heap}{C:Addr}(X:K.In h)(G:h.Ns mainGlobals mg)(a:PySem.W.nsIn K mainGlobals x=some (some<|.ref C))(b:PySem.W.isClsIn K C=true)(c:PySem.W.typeIn K (.ref C)=some (.type "type")):CN K mg x C:=(PySem.W.mg_of X G a,b,c)
def xcls_mk{K:ZZfg}{C:Addr}(a:PySem.W.findIn K (.ref C) "__getattribute__" = some (some<|.builtin "BaseException.__getattribute__")) (g:PySem.W.findIn K (.ref C) "__getattr__" = some none) (cl:PySem.W.findIn K (.ref C) "__class__" = some (some<|.builtin "object.__class__"))
    (e:PySem.W.specialIn K (.builtin "object.__class__") "__get__" = some (some<|.builtin "getset_descriptor.__get__")) (b:PySem.W.takesIn K (.builtin "object.__class__")=some true) (f:PySem.W.mroIn K C (.type "object")=some true) (d:PySem.W.mroIn K C (.type "BaseException")=some true) (c:PySem.W.hasDictIn K C=true):XCls K C:=(a,g,cl,e,b,f,d,c)
def apart_cons{K:ZZfg}{C D:Addr}(a:PySem.W.mroIn K C (.ref D)=some false)(n:C≠D)(z:Zm9 K C r):Zm9 K C (D::r):=((a,n),z)
end My
open PySem PySem.W PyProof.Rows
local macro_rules | `(tactic| walk_at "xcls") => `(tactic| exact My.xcls_mk (by k_is) (by k_is) (by k_is) (by k_is) (by k_is) (by k_is) (by k_is) (by k_is))
local macro_rules | `(tactic| walk_at "apart") => `(tactic| repeat (first | exact True.intro | (refine' My.apart_cons (by k_is) ∅ ?_)))
set_option maxRecDepth 100000 in
set_option maxHeartbeats 0 in
theorem PySem.Challenge.cw_turnframe_k46_least_holds : PySem.Challenge.rw_turnframe_k46_least.Holds := by
  w_on; o_law; k_head; (case hw=>w_witness2)
  k_fill
  refine' My.walk (l:=PySem.Challenge.rw_turnframe_k46_least) rfl rfl (λw h Y=>PySem.W.km_in_of Y) (λw h Y=>PySem.W.km_tabs_of Y _ (.head _)) ?tc ?no ?F
  case F =>
    intro w mg fa h KX G hmg;have kd:=by
      refine' My.kd_mk KX G ?e1 ?e2 ?e3 ?e4 ?e5 ?e6 ?e7 ?e8 ?e9 ?e10 ?e11 ?e12 ?e13 ?e14
      (case e1=>k_is); (case e2=>k_is); (case e3=>k_is); (case e4=>k_is); (case e5=>k_is); (case e6=>k_is); (case e7=>k_is)
      (case e8=>k_is); (case e9=>k_is); (case e10=>k_is); (case e11=>k_is); (case e12=>k_is); (case e13=>k_is); (case e14=>k_is)
    have pc:=by
      refine' My.pc_mk KX G ?e1 ?e2 ?e3 ?e4 ?e5 ?e6
      (case e1=>k_is); (case e2=>k_is); (case e3=>k_is); (case e4=>k_is); (case e5=>k_is); (case e6=>k_is)
    have tb:=by
      refine' My.tb_mk (x := "least") KX G ?e1 ?e2 ?e3
      (case e1=>k_is); (case e2=>k_is); (case e3=>rfl)
    have nE:=by
      refine' My.cn_mk (x := "FrameError") KX G ?a ?b ?c
      (case a=>k_is); (case b=>k_is); (case c=>k_is)
    have nk:=by
      refine' My.cn_mk (x := "NoKind") KX G ?a ?b ?c
      (case a=>k_is); (case b=>k_is); (case c=>k_is)
    have nn:=by
      refine' My.cn_mk (x := "NoNumber") KX G ?a ?b ?c
      (case a=>k_is); (case b=>k_is); (case c=>k_is)
    have nf:=by
      refine' My.cn_mk (x := "NoFit") KX G ?a ?b ?c
      (case a=>k_is); (case b=>k_is); (case c=>k_is)
    have nt:=by
      refine' My.cn_mk (x := "NoTurn") KX G ?a ?b ?c
      (case a=>k_is); (case b=>k_is); (case c=>k_is)
    have ni:=by
      refine' My.cn_mk (x := "NoInverse") KX G ?a ?b ?c
      (case a=>k_is); (case b=>k_is); (case c=>k_is)
    have nx:=by
      refine' My.cn_mk (x := "NoText") KX G ?a ?b ?c
      (case a=>k_is); (case b=>k_is); (case c=>k_is)
    have nm:=by
      refine' My.cn_mk (x := "NoName") KX G ?a ?b ?c
      (case a=>k_is); (case b=>k_is); (case c=>k_is)
    have nr:=by
      refine' My.cn_mk (x := "NoRow") KX G ?a ?b ?c
      (case a=>k_is); (case b=>k_is); (case c=>k_is)
    have x_xn:=by
      refine' My.cn_mk (x := "NoNumber") KX G ?a ?b ?c
      (case a=>k_is); (case b=>k_is); (case c=>k_is)
    refine My.all_mk hmg ⟨?T,kd,pc,⟨nE,?eb,nk,nn,nf,nt,ni,nx,nm,nr,PySem.W.mg_none_of KX G ?ve⟩,⟨⟨?Zx,nf.m,?Zi⟩,?Ze,?Zv,?Zo⟩,⟨?xnx,x_xn.m,?xni⟩,PySem.W.mg_none_of KX G ?nz,PySem.W.mg_none_of KX G ?nsu,PySem.W.mg_none_of KX G ?nmx,PySem.W.mg_none_of KX G ?nmn,PySem.W.mg_none_of KX G ?nrv,?d1,?d2,?d3,?d4,?d5,?c1,?c2,?c3,?c4,?c5,?c6,?c7,?c8,?c9,?c10,?c11,?c12,?c21,?c23,?c31,?c32,?c34,?c35,?c36,?c37,?c38,?c39,?c40,?c41,?c43,?c44,?c45,?c46,?c47,?c48,?l1,?l2,?l3,?l4,?l5,?l6,?l7,?l8,?l9,?l10,?l11,?l12,?l13,?l14,?l15,?l16,?l17,?l18,?l19,?l20,?l21,?l27,?l28,?l29,?l30,?m1,?m2,?m3,?m4,?m5,?m6,?m7,?m8,?r1,?r2,?r3,?r4,?r5,?r6,?r7,?r8,?p1,?p2,?p3,?n1,?n2,?i1,?i2,tb,?lw⟩
    case eb=>k_is
    case ve=>k_is
    case Zx=>walk_at "xcls"
    case Zi=>k_exc
    case Ze=>k_is
    case Zv=>k_is
    case Zo=>walk_at "apart"
    case xnx=>walk_at "xcls"
    case xni=>k_exc
    case nz=>k_is
    case nsu=>k_is
    case nmx=>k_is
    case nmn=>k_is
    case nrv=>k_is
    case T =>
      refine' My.nm_mk (PySem.W.mg_of KX G ?e1) ?e2 (PySem.W.mg_none_of KX G ?e3) (PySem.W.mg_none_of KX G ?e4) (PySem.W.mg_none_of KX G ?e5) (PySem.W.mg_none_of KX G ?e6) (PySem.W.mg_none_of KX G ?e7) (PySem.W.mg_none_of KX G ?e8) (PySem.W.mg_none_of KX G ?e9) (PySem.W.mg_none_of KX G ?e10)
      (case e1=>k_is); (case e2=>exact ⟨_,rfl⟩); (case e3=>k_is); (case e4=>k_is); (case e5=>k_is); (case e6=>k_is); (case e7=>k_is); (case e8=>k_is); (case e9=>k_is); (case e10=>k_is)
    case i1 =>
      refine' L2.hereI_mk ?e1 ?e2 ?e3 ?e4 ?e5 ?e6 ?e7
      (case e1=>k_is); (case e2=>k_is); (case e3=>k_is); (case e4=>k_is); (case e5=>k_is); (case e6=>k_is); (case e7=>k_is)
    case i2 =>
      refine' L2.hereI_mk ?e1 ?e2 ?e3 ?e4 ?e5 ?e6 ?e7
      (case e1=>k_is); (case e2=>k_is); (case e3=>k_is); (case e4=>k_is); (case e5=>k_is); (case e6=>k_is); (case e7=>k_is)
    case n1 =>
      refine' ⟨_,L2.hereD_mk ?x0a ?x0i ?x0l ?x0t ?x0c ?x0k⟩
      (case x0a=>k_is); (case x0i=>k_is); (case x0l=>k_is); (case x0t=>(apply Eq.trans; k_is; rfl)); (case x0c=>k_is); (case x0k=>k_is)
    case n2 =>
      refine' ⟨_,L2.hereD_mk ?x1a ?x1i ?x1l ?x1t ?x1c ?x1k⟩
      (case x1a=>k_is); (case x1i=>k_is); (case x1l=>k_is); (case x1t=>(apply Eq.trans; k_is; rfl)); (case x1c=>k_is); (case x1k=>k_is)
    all_goals first
      | (refine' L2.here_mk KX G ?y1 ?y2 ?y3 ?y4
         (case y1=>k_is); (case y2=>k_is); (case y3=>k_is); (case y4=>k_is))
      | (refine' L2.hereM_mk ?z1 ?z2 ?z3 ?z4 ?z5
         (case z1=>k_is); (case z2=>k_is); (case z3=>k_is); (case z4=>k_is); (case z5=>k_is))
  case tc=>intro w; kernel_rfl
  case no=>intro w; kernel_rfl
