import PyProof.Rows.All
import Wide.All
import OpenK.AllK
import Wide.FinOn
import Lean
import PyProof.EqAt
import PyProof.EqKinds
import PyProof.TupleCall
import PySem.Challenge.RW_turnframe_k49_tables_of_polynomials
set_option Elab.async false
set_option linter.all false
set_option maxRecDepth 100000
local macro_rules | `(tactic| omega) => `(tactic| first | lia | omega (config := {}))
local macro_rules | `(⋯) => `(by omega)
local macro_rules | `(∅) => `(by decide)
local macro_rules | `(‹2›) => `(⟨rfl,rfl,rfl,by decide +kernel,rfl,by decide +kernel,by decide +kernel⟩)
local macro_rules | `(‹4›) => `(by decide +kernel)
abbrev Q0:=@List.length_map
abbrev Q1:=@Nat.le_trans
abbrev Q2:=@Nat.le_refl
abbrev Q3:=@List.getD_eq_getElem?_getD
abbrev Q4:=@List.getElem?_map
abbrev Q5:=@Nat.lt_of_lt_of_le
abbrev Q6:=@Nat.zero_le
abbrev Q7:=@List.getElem?_eq_getElem
abbrev Q8:=@Nat.ne_of_lt
abbrev Q9:=@List.length_range
abbrev Qa:=@Int.toNat_natCast
abbrev Qb:=@List.mem_append_right
abbrev Qc:=@List.length_append
abbrev Qd:=@List.size_toArray
abbrev Qe:=@List.mem_cons
abbrev Qf:=@Nat.lt_irrefl
abbrev Qg:=@Bool.false_ne_true
abbrev Qh:=@List.mem_singleton
abbrev Qi:=@List.length_take
abbrev Qj:=@List.getElem?_range
abbrev Qk:=@Int.natAbs_natCast
abbrev Ql:=@Nat.mul_le_mul_right
abbrev Qm:=@List.mem_cons_self
abbrev Qn:=@List.getElem?_eq_some_iff
abbrev Qo:=@Int.zero_add
abbrev Qp:=@List.mem_of_getElem?
abbrev Qq:=@Nat.lt_of_le_of_lt
abbrev Qr:=@List.lookup_cons
abbrev Qs:=@Int.natAbs_mul
abbrev Qt:=@Int.mul_assoc
abbrev Qu:=@Rat.num_divInt_den
abbrev Qv:=@List.length_drop
abbrev Qw:=@List.map_append
abbrev Qx:=@Nat.le_of_lt
abbrev Qy:=@List.mem_cons_of_mem
abbrev Qz:=@List.getElem?_eq_none
abbrev W0:=@Int.mul_comm
abbrev W1:=@Int.gcd_dvd_right
abbrev W2:=@Int.mul_pos
abbrev W3:=@List.mem_range
abbrev W4:=@Rat.divInt_eq_divInt_iff
abbrev W5:=@Nat.pow_le_pow_right
abbrev W6:=@List.mem_append
abbrev W7:=@List.length_cons
abbrev W8:=@Int.fmod_eq_emod_of_nonneg
abbrev W9:=@List.map_cons
abbrev Wa:=@List.getElem?_append_right
abbrev Wb:=@Nat.pow_pos
abbrev Wc:=@List.not_mem_nil
abbrev Wd:=@List.getElem?_append_left
abbrev We:=@List.length_set
abbrev Wf:=@Nat.pow_add
abbrev Wg:=@Int.emod_nonneg
abbrev Wh:=@List.getElem?_take
abbrev Wi:=@Nat.ne_of_gt
abbrev Wj:=@Int.natCast_emod
abbrev Wk:=@Int.gcd_dvd_left
abbrev Wl:=@List.getElem_mem
abbrev Wm:=@List.mem_filter
abbrev Wn:=@List.mem_append_left
abbrev Wo:=@Int.mul_one
abbrev Wp:=@Nat.lt_succ_self
abbrev Wq:=@List.append_nil
abbrev Wr:=@List.length_replicate
abbrev Ws:=@Int.emod_lt_of_pos
abbrev Wt:=@Int.natCast_mul
abbrev Wu:=@Nat.le_of_dvd
abbrev Wv:=@Int.natAbs_dvd_natAbs
abbrev Ww:=@List.getElem?_drop
abbrev Wx:=@Nat.mul_le_mul
abbrev Wy:=@List.mem_map
abbrev Wz:=@List.range_succ
abbrev U0:=@Nat.le_of_eq
abbrev U1:=@Nat.not_lt
abbrev U2:=@Int.emod_eq_zero_of_dvd
abbrev U3:=@Nat.succ_mul
abbrev U4:=@List.map_congr_left
abbrev U7:=@List.map_map
abbrev U8:=@Bool.eq_iff_iff
abbrev U9:=@Nat.le_succ
abbrev Ua:=@Nat.lt_trans
abbrev Ub:=@Nat.pos_of_ne_zero
abbrev Uc:=@Nat.le_succ_of_le
abbrev Ud:=@Nat.mul_add
abbrev Ue:=@Nat.le_mul_of_pos_left
abbrev Uf:=@List.find?_cons
abbrev Ug:=@Rat.divInt_mul_divInt
abbrev Uh:=@Nat.min_eq_left
abbrev Ui:=@Nat.min_self
abbrev Uj:=@List.ext_getElem?
abbrev Uk:=@Option.isSome_iff_exists
abbrev Ul:=@List.all_eq_true
abbrev Um:=@Nat.lt_succ_of_lt
abbrev Uo:=@Int.mul_neg
abbrev Uq:=@Int.lt_of_not_ge
abbrev Ur:=@List.getElem?_set
abbrev Us:=@Bool.true_or
abbrev Ut:=@Bool.false_or
abbrev Uu:=@Int.emod_eq_of_lt
abbrev Uv:=@Nat.zero_add
abbrev Uw:=@List.filterMap_cons
abbrev Ux:=@Array.length_toList
abbrev Uy:=@List.mem_filterMap
abbrev Uz:=@Int.fdiv_eq_ediv_of_nonneg
abbrev ZZfg:=PySem.W.Frag
abbrev ZZla:=List PySem.Addr
abbrev ZZmg:=PySem.Str->Option PySem.Value
namespace L2
open PySem PySem.Spec PyProof.Rows
abbrev Key:=Sum Int Str
def ZjH:Key->Value->Bool
 | .inl k,v=>Value.isInt k v
 | .inr x,v=>Value.isStrOf x v
def Zta(w:World):Key->Int
 | .inl k=>hashInt k
 | .inr x=>hashStr w x
theorem Za3:∀ {k:Key} {v:Value},ZjH k v=true->(∃i t,k=Sum.inl i/\v=Value.int i t)\/(∃x t,k=Sum.inr x/\v=Value.str x t)
 | .inl i,v,h=>by
  obtain ⟨t,e⟩:=Value.isInt_shape (k:=i) (v:=v) h;exact .inl ⟨i,t,rfl,e⟩
 | .inr x,v,h=>by
  obtain ⟨t,e⟩:=Value.isStrOf_shape (x:=x) (v:=v) h;exact .inr ⟨x,t,rfl,e⟩
theorem Zkp(i:Int)(t:Tok):ZjH (.inl i) (.int i t)=true:=by simp[ZjH,Value.isInt]
theorem Zkq(x:Str)(t:Tok):ZjH (.inr x) (.str x t)=true:=by simp[ZjH,Value.isStrOf]
theorem Zp1(a b:Int):decide ((Sum.inl a:Key)=Sum.inl b)=(a==b):=by
 by_cases e:a=b
 ·subst e;simp
 ·have h:¬(Sum.inl a:Key)=Sum.inl b:=λq=>e<|Sum.inl.inj q;rw[decide_eq_false h];exact (beq_eq_false_iff_ne.mpr e).symm
theorem Zp2(a b:Str):decide ((Sum.inr a:Key)=Sum.inr b)=decide (a=b):=by
 by_cases e:a=b
 ·subst e;simp
 ·have h:¬(Sum.inr a:Key)=Sum.inr b:=λq=>e<|Sum.inr.inj q;rw[decide_eq_false h,decide_eq_false e]
theorem Zp3(a:Int)(b:Str):decide ((Sum.inl a:Key)=Sum.inr b)=false:=decide_eq_false (λq=>nomatch q)
theorem Zp4(a:Str)(b:Int):decide ((Sum.inr a:Key)=Sum.inl b)=false:=decide_eq_false (λq=>nomatch q)
def ZaS(prog:Program)(w:World):PySem.KeyKind prog w Key where
 is:=ZjH
 hash:=Zta w
 inj:=λv a b g d=>by
  rcases Za3 g with ⟨i,t,rfl,rfl⟩|⟨x,t,rfl,rfl⟩
  ·rcases Za3 d with ⟨j,u,rfl,e⟩|⟨y,u,rfl,e⟩
   ·injection e with e1 _;rw[e1]
   ·exact nomatch e
  ·rcases Za3 d with ⟨j,u,rfl,e⟩|⟨y,u,rfl,e⟩
   ·exact nomatch e
   ·injection e with e1 _;rw[e1]
 byValue:=λk v h=>by
  rcases Za3 h with ⟨i,t,rfl,rfl⟩|⟨x,t,rfl,rfl⟩ <;> rfl
 pyHash:=λc h=>by
  rcases Za3 c with ⟨i,t,rfl,rfl⟩|⟨x,t,rfl,rfl⟩
  ·exact wpAny_pyHash_int h
  ·exact wpAny_pyHash_str h
 eqBool:=λf c h=>by
  rcases Za3 f with ⟨i,t,rfl,rfl⟩|⟨x,t,rfl,rfl⟩
  ·rcases Za3 c with ⟨j,u,rfl,rfl⟩|⟨y,u,rfl,rfl⟩
   ·rw[Zp1] at h;exact wpAny_eqBool_int h
   ·rw[Zp3] at h;exact SeqAt.EqAt.int_str i t y u _ _ _ _ h
  ·rcases Za3 c with ⟨j,u,rfl,rfl⟩|⟨y,u,rfl,rfl⟩
   ·rw[Zp4] at h;exact SeqAt.EqAt.str_int x t j u _ _ _ _ h
   ·rw[Zp2] at h;exact wpAny_eqBool_str h
 «strs»:=λk x t v h=>by
  rcases Za3 h with ⟨i,u,rfl,e⟩|⟨y,u,rfl,e⟩
  ·exact nomatch e
  ·injection e with e1 _
   subst e1
   cases v <;> rfl
theorem ZhT(prog:Program)(w:World)(i:Int)(t:Tok):(ZaS prog w).is (.inl i) (.int i t)=true:=Zkp i t
theorem ZhU(prog:Program)(w:World)(x:Str)(t:Tok):(ZaS prog w).is (.inr x) (.str x t)=true:=Zkq x t
inductive V where
 |non|bl (b:Bool)|int (i:Int)|str (x:Str)|byt (b:Array UInt8)|flt (b:UInt64)|ref (a:Addr)|ty (n:String)
 deriving DecidableEq
def RelV:V->Value->Prop
 | .non,u=>u=Value.none
 | .bl b,u=>u=Value.bool b
 | .int i,u=>∃t,u=Value.int i t
 | .str x,u=>∃t,u=Value.str x t
 | .byt b,u=>∃t,u=Value.bytes b t
 | .flt b,u=>∃t,u=Value.float b t
 | .ref a,u=>u=Value.ref a
 | .ty n,u=>u=Value.type n
abbrev Vals:List V->List Value->Prop:=Paired RelV
theorem Vals.length{xs:List V}{us:List Value}(r:Vals xs us):xs.length=us.length:=Paired.length r
theorem Vals.get:∀ {xs:List V} {us:List Value} {i:Nat} {x:V},Vals xs us->xs[i]?=some x->∃u,us[i]?=some u/\RelV x u
 |_,_,_,_,.nil,e=>by simp at e
 |_,_,0,_,.cons r _,e=>by simp at e;subst e;exact ⟨_,rfl,r⟩
 |_,_,i+1,x,.cons _ t,e=>by
  obtain ⟨u,b,a⟩:=Vals.get (i:=i) (x:=x) t (by simpa using e);exact ⟨u,by simpa using b,a⟩
theorem Vals.set{x:V}{u:Value}(r:RelV x u):∀ {xs:List V} {us:List Value} (i:Nat),Vals xs us->Vals (xs.set i x) (us.set i u)
 |_,_,_,.nil => .nil
 |_,_,0,.cons _ t => .cons r t
 |_,_,i+1,.cons q t => .cons q<|Vals.set r i t
theorem Vals.append:∀ {xs ys:List V} {us a:List Value},Vals xs us->Vals ys a->Vals (xs++ys) (us++a)
 |_,_,_,_,.nil,s=>s
 |_,_,_,_,.cons r t,s => .cons r<|Vals.append t s
theorem Vals.take:∀ {xs:List V} {us:List Value} (n:Nat),Vals xs us->Vals (xs.take n) (us.take n)
 |_,_,0,_ => .nil
 |_,_,_+1,.nil => .nil
 |_,_,n+1,.cons r t => .cons r<|Vals.take n t
theorem Vals.drop:∀ {xs:List V} {us:List Value} (n:Nat),Vals xs us->Vals (xs.drop n) (us.drop n)
 |_,_,0,r=>r
 |_,_,_+1,.nil => .nil
 |_,_,n+1,.cons _ t=>Vals.drop n t
def RelO:Option V->Option Value->Prop
 |some v,some u=>RelV v u
 |none,none=>True
 |_,_=>False
def KV{κ:Type}:List (κ×V)->List (κ×Value)->Prop:=Paired λ(p:κ×V) (q:κ×Value)=>p.1=q.1/\RelV p.2 q.2
def kV:Key->V
 | .inl i => .int i
 | .inr x => .str x
inductive HO where
    | lst (xs:List V)
    | tup (xs:List V)
    | dK (kvs:List (Key×V)) | dT (kvs:List (List Key×V))
    | set (S:Int->Bool) (n:Nat)
    | ins (C dx:Addr) (fs:List (Str×V))
    | own (x:Addr)
    | xd (fs:List (Str×V))
    | met (f x:Addr)
    | rng (lo hi:Int)
    | frz (o:Obj) (u:HO)
    | tbl (ps:Array Value)
    | ext (φ:Heap->Prop)
abbrev Hp:=Addr->Option HO
def upd(H:Hp)(a:Addr)(o:HO):Hp:=λb=>if b=a then some o else H b
theorem Zah{H:Hp}{a:Addr}{o:HO}:upd H a o a=some o:=by unfold upd;rw[if_pos rfl]
theorem Zaj{H:Hp}{a b:Addr}{o:HO}(h:b≠a):upd H a o b=H b:=by unfold upd;rw[if_neg h]
theorem Zou{H:Hp}{a:Addr}{o u:HO}:upd (upd H a o) a u=upd H a u:=by
 funext b;unfold upd;split <;> rfl
theorem Zov{H:Hp}{a b:Addr}{o u:HO}(h:H a=some o)(h':H b=some u)(d:o≠u):a≠b:=by
 intro e;subst e;rw[h] at h';exact d<|Option.some.inj h'
theorem ZaQ{H:Hp}{a b:Addr}{o:HO}(h:H a=some o)(h':H b=none):a≠b:=by
 intro e;subst e;rw[h] at h';cases h'
section
variable(P:Program)(w:World)
def ObjOk(H:Hp)(h:Heap)(a:Addr):HO->Prop
  | .lst d=>d.length<=sizeLine/\∃(b:List Value) (n:Nat),Vals d b/\h.get? a=some { cls:=.type "list", data:=.seq b.toArray n }
  | .tup d=>d.length<=sizeLine/\∃b:List Value,Vals d b/\IsTup h a b.toArray
  | .dK kvs=>kvs.length<=sizeLine/\(a==sysModules)=false/\∃g,KV kvs g/\h.DictOf (ZaS P w) a g
  | .dT kvs=>kvs.length<=sizeLine/\(a==sysModules)=false/\∃d:List (List Key×Addr×Value),
      Paired (λ(p:List Key×V) (q:List Key×Addr×Value)=>p.1=q.1/\H q.2.1=some (.tup<|p.1.map kV)/\RelV p.2 q.2.2) kvs d ∧
      ∃o m y,h.get? a=some o/\o.ExactDict/\o.data = .dict m y/\m.toList=d.map (entryOfKey<|tupleKind<|ZaS P w)/\(d.map (·.1)).Nodup
  | .set S n=>h.SetOf (intKind P w) a S n
  | .ins C dx fs=>H dx=some (.own a)/\fs.length<=1000/\dx≠a/\h.get? a=some (PySem.W.instObj C dx) ∧
      ∃e,h.Ns1 dx e/\(∀f,RelO (fs.lookup f)<|e f)/\PySem.Within e (fs.map (·.1))
  | .own _=>∃o,h.get? a=some o
  | .xd fs=>∃e,h.Ns1 a e/\∀f,RelO (fs.lookup f)<|e f
  | .rng lo hi=>∃t u v,h.get? a=some { cls:=.type "range", data:=.fields #[.int lo t,.int hi u,.int 1 v] }
  | .frz o u=>h.get? a=some o/\ObjOk H h a u
  | .tbl ps=>h.get? a=some { cls:=.none,data:=.fields #[] }\/∃l c q t i k g s,ps=#[l,c,.str q t]/\h.get? a=some { cls:=.none,data:=.fields #[l,c,.ref i] }/\H i=some (.frz k<|.own i)/\k.data = .fields g/\g[1]?=some (.str q s)
  | .met f x=>h.get? a=some (PySem.W.methodObj (.ref f)<|.ref x)
  | .ext φ=>φ h/\(∃o,h.get? a=some o)/\∀r j:Heap,φ r->(∀o,r.get? a=some o->j.get? a=some o)->φ j
def HOk(H:Hp)(h:Heap):Prop:=∀a o,H a=some o->ObjOk P w H h a o
end
section
variable{P:Program}{w:World}{H H':Hp}{h h':Heap}{a:Addr}{o:HO}
theorem ObjOk.lt(x:ObjOk P w H h a o):a<h.objs.size:=by
 cases o with
 |lst c=>obtain ⟨_,_,_,_,e⟩:=x;exact Heap.lt_size e
 |tup c=>obtain ⟨_,_,_,p⟩:=x;exact p.lt
 |dK b=>obtain ⟨_,_,_,_,o,_,_,e,_⟩:=x;exact Heap.lt_size e
 |dT b=>obtain ⟨_,_,_,_,o,_,_,e,_⟩:=x;exact Heap.lt_size e
 |set S n=>obtain ⟨o,_,_,_,e,_⟩:=x;exact Heap.lt_size e
 |ins C k d=>obtain ⟨_,_,_,e,_⟩:=x;exact Heap.lt_size e
 |own y=>obtain ⟨_,e⟩:=x;exact Heap.lt_size e
 |xd d=>obtain ⟨_,⟨_,_,_,e,_⟩,_⟩:=x;exact Heap.lt_size e
 |rng i l=>obtain ⟨_,_,_,e⟩:=x;exact Heap.lt_size e
 |frz g u=>obtain ⟨e,_⟩:=x;exact Heap.lt_size e
 |tbl j =>
  rcases x with e|⟨_,_,_,_,_,_,_,_,_,e,_⟩
  ·exact Heap.lt_size e
  ·exact Heap.lt_size e
 |met f y=>exact Heap.lt_size (show h.get? a=some _ from x)
 |ext m=>obtain ⟨_,⟨_,e⟩,_⟩:=x;exact Heap.lt_size e
theorem Paired.mapP{α c:Type}{F G:α->c->Prop}:∀ {l₁:List α} {l₂:List c},Paired F l₁ l₂->(∀a b,F a b->G a b)->Paired G l₁ l₂
 |_,_,.nil,_ => .nil
 |_,_,.cons r t,f => .cons (f _ _ r)<|Paired.mapP t f
inductive Im where
 |tup (xs:List V)
 |frz (o:Obj) (u:HO)
def Im.ho:Im->HO
 | .tup xs => .tup xs
 | .frz o u => .frz o u
theorem ObjOk.stay(x:ObjOk P w H h a o)(k:∀b u,(b=a\/H b=some (.own a))->h.get? b=some u->h'.get? b=some u)
    (I:∀b,H b=some (.own a)->H' b=some (.own a)) (F:∀b (x:Im),H b=some x.ho->H' b=some x.ho):ObjOk P w H' h' a o:=by
  induction o with
  | lst A=>obtain ⟨z,m,n,r,e⟩:=x; exact ⟨z,m,n,r,k _ _ (.inl rfl) e⟩
  | tup A=>obtain ⟨z,m,r,g,e,c⟩:=x; exact ⟨z,m,r,g,k _ _ (.inl rfl) e,c⟩
  | dK D=>obtain ⟨z,y,E,r,g,i,j,e,c⟩:=x; exact ⟨z,y,E,r,g,i,j,k _ _ (.inl rfl) e,c⟩
  | dT D =>
    obtain ⟨z,y,A,r,g,i,j,e,c⟩:=x;exact ⟨z,y,A,Paired.mapP r λp q z=>⟨z.1,F _ (.tup _) z.2.1,z.2.2⟩,g,i,j,k _ _ (.inl rfl) e,c⟩
  | set S n=>obtain ⟨g,i,j,t,e,c⟩:=x; exact ⟨g,i,j,t,k _ _ (.inl rfl) e,c⟩
  | ins C O M =>
    obtain ⟨d,z,J,e,s,⟨B,i,j,K,c⟩,r⟩:=x;exact ⟨I _ d,z,J,k _ _ (.inl rfl) e,s,⟨B,i,j,k _ _ (.inr d) K,c⟩,r⟩
  | own y=>obtain ⟨g,e⟩:=x; exact ⟨g,k _ _ (.inl rfl) e⟩
  | xd M=>obtain ⟨s,⟨B,i,j,e,c⟩,r⟩:=x; exact ⟨s,⟨B,i,j,k _ _ (.inl rfl) e,c⟩,r⟩
  | rng N Q=>obtain ⟨t,u,v,e⟩:=x; exact ⟨t,u,v,k _ _ (.inl rfl) e⟩
  | frz g u L=>obtain ⟨e,q⟩:=x; exact ⟨k _ _ (.inl rfl) e,L q⟩
  | tbl R =>
    rcases x with e | ⟨l,c,q,t,c',oc,E,t',e0,e,z,r⟩
    · exact .inl (k a _ (.inl rfl) e)
    · exact .inr ⟨l,c,q,t,c',oc,E,t',e0,k a _ (.inl rfl) e,F _ (.frz oc<|.own c') z,r⟩
  | met f y =>
    have e:h.get? a=some (PySem.W.methodObj (.ref f)<|.ref y):=x;show h'.get? a=some (PySem.W.methodObj (.ref f)<|.ref y);exact k a _ (.inl rfl) e
  | ext T=>obtain ⟨p,⟨o,e⟩,G⟩:=x; exact ⟨G _ _ p λo q=>k _ _ (.inl rfl) q,⟨o,k _ _ (.inl rfl) e⟩,G⟩
theorem HOk.lt(x:HOk P w H h)(e:H a=some o):a<h.objs.size:=(x a o e).lt
theorem HOk.fresh(x:HOk P w H h)(e:h.objs.size<=a):H a=none:=by
 cases q:H a with
 |none=>rfl
 |some u=>exact absurd (Q5 (x.lt q) e)<|Qf _
theorem HOk.kept(x:HOk P w H h)(k:∀b u,h.get? b=some u->h'.get? b=some u):HOk P w H h':=λa o e =>
 (x a o e).stay (λb u _ q=>k b u q) (λ_ q=>q) λ_ _ q=>q
theorem HOk.laid(x:HOk P w H h)(k:∀b u,h.get? b=some u->h'.get? b=some u)(hp:h.objs.size<=a)(d:ObjOk P w (upd H a o) h' a o):HOk P w (upd H a o) h':=λb u e=>by
 have f:=x.fresh hp
 by_cases hb:b=a
 ·subst hb;rw[Zah] at e;cases e;exact d
 ·rw[Zaj hb] at e;exact (x b u e).stay (λc v _ q=>k c v q) (λc q=>by rw[Zaj<|ZaQ q f];exact q) λc g q=>by rw[Zaj<|ZaQ q f];exact q
end
def Rd(H:Hp)(a:Addr)(u:HO):Prop:=H a=some u\/∃o,H a=some (.frz o u)
theorem Rd.ok{P:Program}{w:World}{H:Hp}{h:Heap}{a:Addr}{u:HO}(r:Rd H a u)(x:HOk P w H h):ObjOk P w H h a u:=by
 rcases r with r|⟨o,r⟩
 ·exact x a u r
 ·obtain ⟨_,q⟩:=x a _ r;exact q
def Mut:Option HO->Prop
 |some (.lst _)=>True
 |some (.dK _)=>True
 |some (.dT _)=>True
 |some (.set _ _)=>True
 |some (.ins _ _ _)=>True
 |some (.ext _)=>True
 |_=>False
section
variable{P:Program}{w:World}{H:Hp}{h h':Heap}{x e:Addr}{o':HO}
theorem HOk.write(p:HOk P w H h)(f:Mut (H x))(m:e=x\/H e=some (.own x))(k:∀b u,b≠e->h.get? b=some u->h'.get? b=some u)(j:∃u,h'.get? e=some u)
    (g:ObjOk P w (upd H x o') h' x o'):HOk P w (upd H x o') h':=λb u q=>by
  have a:∀c y,H c=some (.own y)->c≠x:=λc y r z=>by subst z; rw[r] at f; exact f
  have d:∀c (i:Im),H c=some i.ho->c≠x:=λc i r z=>by subst z; rw[r] at f; cases i <;> exact f
  by_cases hb:b=x
  · subst hb; rw[Zah] at q; cases q; exact g
  · rw[Zaj hb] at q
    by_cases hbe:b=e
    · have l:H b=some (.own x):=by
        rcases m with z | z
        · exact absurd (hbe.trans z) hb
        · rw[hbe]; exact z
      rw[q] at l; cases l;obtain ⟨v,n⟩:=j;exact ⟨v,by rw[hbe]; exact n⟩
    · refine (p b u q).stay (λc v hc r=>k c v ?_ r) (λc r=>by rw[Zaj<|a c b r]; exact r) λc o r=>by rw[Zaj<|d c o r]; exact r
      rcases hc with rfl | hc
      · exact hbe
      · rintro rfl
        rcases m with z | z
        · exact a c b hc z
        · rw[hc] at z; cases z; exact hb rfl
end
structure Un (fs ex:ZZla) (H H':Hp) (h h':Heap):Prop where
 keep:∀b o,h.get? b=some o->H b=none->b∉fs->b∉ex->h'.get? b=some o
 slot:∀b o,h.get? b=some o->H b=none->b∈fs->b∉ex->∃sl,h'.get? b=some { o with slots:=sl }
 free:∀b o,h.get? b=some o->H b=none->b∉ex->H' b=none
 there:∀b o,h.get? b=some o->b∉ex->∃o',h'.get? b=some o'
 tups:∀b xs,H b=some (.tup xs)->H' b=some (.tup xs)
 frzs:∀b o u,H b=some (.frz o u)->H' b=some (.frz o u)
 tbls:∀b ps,H b=some (.tbl ps)->∃more,H' b=some (.tbl (ps++more))
section
variable{fs fs' ex ex':ZZla}{H H1 H2:Hp}{h h1 h2 h':Heap}{a x e:Addr}{o:HO}
theorem Un.any(u:Un fs ex H H1 h h1){b:Addr}{c:Obj}(q:h.get? b=some c)(n:H b=none)(d:b∉ex):∃f,h1.get? b=some { c with slots:=f }:=by
 by_cases hb:b∈fs
 ·exact u.slot b c q n hb d
 ·exact ⟨c.slots,u.keep b c q n hb d⟩
theorem Un.kept(k:∀b u,h.get? b=some u->h'.get? b=some u):Un fs ex H H h h' :=
 ⟨λb c q _ _ _=>k b c q,λb c q _ _ _=>⟨c.slots,k b c q⟩,λ_ _ _ n _=>n,λb c q _=>⟨c,k b c q⟩,λ_ _ q=>q,λ_ _ _ q=>q,λ_ d q=>⟨#[],by rw[q];simp⟩⟩
theorem Un.refl:Un fs ex H H h h:=Un.kept λ_ _ q=>q
theorem Un.laid(k:∀b u,h.get? b=some u->h'.get? b=some u)(hp:h.objs.size<=a)(c:H a=none):Un fs ex H (upd H a o) h h' where
 keep:=λb u q _ _ _=>k b u q
 slot:=λb u q _ _ _=>⟨u.slots,k b u q⟩
 free:=λb u q n _=>by rw[Zaj<|Q8<|Q5 (Heap.lt_size q) hp];exact n
 there:=λb u q _=>⟨u,k b u q⟩
 tups:=λb d q=>by rw[Zaj<|ZaQ q c];exact q
 frzs:=λb u d q=>by rw[Zaj<|ZaQ q c];exact q
 tbls:=λb f q=>⟨#[],by rw[Zaj<|ZaQ q c,q];simp⟩
theorem Un.write(c:Mut (H x))(l:e=x\/H e=some (.own x))(k:∀b u,b≠e->h.get? b=some u->h'.get? b=some u)(d:∃u,h'.get? e=some u):Un fs ex H (upd H x o) h h':=by
 have g:∀b,H b=none->b≠x:=λb n z=>by subst z;rw[n] at c;exact c
 have i:∀b,H b=none->b≠e:=λb n z=>by
  subst z;rcases l with r|r
  ·exact g b n r
  ·rw[n] at r;cases r
 have f:∀b u,H b=some u->¬Mut (some u)->b≠x:=λb u q j z=>by subst z;rw[q] at c;exact j c
 refine ⟨λb u q n _ _=>k b u (i b n) q,λb u q n _ _=>⟨u.slots,k b u (i b n) q⟩,λb u q n _=>by rw[Zaj<|g b n];exact n,λb u q _=>?_,
  λb m q=>by rw[Zaj<|f b _ q λz=>z];exact q,λb u m q=>by rw[Zaj<|f b _ q λz=>z];exact q,λb p q=>⟨#[],by rw[Zaj<|f b _ q λz=>z,q];simp⟩⟩
 by_cases hbe:b=e
 ·subst hbe;exact d
 ·exact ⟨u,k b u hbe q⟩
end
def trk(h:Heap)(H:Hp):ZZla:=(List.range h.objs.size).filter λa=>(H a).isSome
def Zmu(h:Heap)(H:Hp):Heap:=PySem.W.hideAll h<|trk h H
theorem Zkr(h:Heap)(H:Hp):(Zmu h H).objs.size=h.objs.size:=PySem.W.hideAll_size _ _
theorem Zmv{h:Heap}{H:Hp}{b:Addr}{o:Obj}(e:h.get? b=some o)(n:H b=none):(Zmu h H).get? b=some o :=
 PySem.W.hideAll_get _ e λa=>by
  have q:(H b).isSome=true:=(Wm.mp a).2;rw[n] at q;simp at q
theorem Zow{h:Heap}{H:Hp}{b:Addr}{o:Obj}(e:(Zmu h H).get? b=some o):h.get? b=some o/\H b=none:=by
 have a:h.get? b=some o:=PySem.W.of_hideAll (trk h H) e;refine ⟨a,?_⟩
 cases q:H b with
 |none=>rfl
 |some x =>
  have c:b∈trk h H:=Wm.mpr ⟨W3.mpr<|Heap.lt_size a,by simp[q]⟩;have z:(Zmu h H).get? b=none:=PySem.W.hideAll_none (trk h H) c;rw[z] at e;cases e
structure Mod (K:ZZfg) (mg:ZZmg) (base:Heap):Prop where
 kin:K.In base
 glob:base.Ns mainGlobals mg
 blt:∃mb,base.Ns builtinsNs mb/\∀x:Str,x ≠"__name__" -> mb x=bootBuiltins x
 nolimit:base.NoLimit
structure Cx where
 prog:Program
 w:World
 K:ZZfg
 mg:Str->Option Value
 base:Heap
 A:Around
 N:List Str
 s₀:Shared
 H₀:Hp
 env:Env
 outer:List Env
 stack:List Env
 ex:ZZla
 fn:Str->Bool
 calm:Bool
 pn:List (Addr×Obj)
 xe:Value->Shared->Prop
def frs(l:List Env):ZZla:=l.filterMap (·.frame)
abbrev Cx.fs(X:Cx):ZZla:=frs X.outer
def Vis(a:Scope)(x:Str):Prop:=a.names.lookup x=some .local\/a.names.lookup x=some .cell\/a.names.lookup x=some .free
def Loc(a:Scope)(x:Str):Prop:=a.names.lookup x=some .local\/a.names.lookup x=some .cell
def ZsR(env:Env)(h:Heap)(m:Str->Option Value)(x:Str)(u:Value):Prop :=
 (env.kindOf x=some .local/\m x=some u)\/((env.kindOf x=some .cell\/env.kindOf x=some .free)/\∃c,env.cells.lookup x=some c/\h.IsCell c (some u))
structure Cx.Ok (X:Cx):Prop where
 mod:Mod X.K X.mg X.base
 kind:X.env.scope.kind = .function
 glob:X.env.globals=mainGlobals
 blt:X.env.builtins=builtinsNs
 above:X.s₀.heap.objs.size<=X.env.locals
 inj:∀x y c,X.env.cells.lookup x=some c->X.env.cells.lookup y=some c->x=y
 has:∀x,(X.env.kindOf x=some .cell\/X.env.kindOf x=some .free)->∃c,X.env.cells.lookup x=some c
 cab:∀x c,X.fn x=true->X.env.cells.lookup x=some c->X.s₀.heap.objs.size<=c
 hd:X.calm=true->X.A.handled=none
 frames:X.A.frames=some X.stack
 stk:X.stack=X.outer\/(X.stack=X.env::X.outer/\X.env.frame=some X.env.locals)
 exf:∀b∈X.ex,b≠X.env.locals/\∀x c,X.env.cells.lookup x=some c->c≠b
 bs:∀b o,X.base.get? b=some o->X.s₀.heap.get? b=some o/\X.H₀ b=none
 bsz:X.base.objs.size<=X.s₀.heap.objs.size
 noex:∀b o,X.base.get? b=some o->b∉X.ex
 exfs:∀b∈X.ex,b∉X.fs
 funs:X.s₀.heap.FunFrames X.base X.outer
 frf:∀b∈X.fs,X.H₀ b=none
structure Inv (X:Cx) (pins:List (Addr×Obj)) (σ:List (Option V)) (H:Hp) (s:Shared):Prop where
 ok:X.Ok
 os:s.os=X.s₀.os
 bare:AllBare s.gens
 base:Un X.fs X.ex X.H₀ H X.s₀.heap s.heap
 loc:∃m,s.heap.Ns X.env.locals m/\∀(i:Nat) (x:Str) (v:V),X.N[i]?=some x->σ[i]?=some (some v)->Vis X.env.scope x->∃u,RelV v u/\ZsR X.env s.heap m x u
 cell:∀x c,X.env.cells.lookup x=some c->∃v,s.heap.IsCell c v
 free:H X.env.locals=none
 freeC:∀x c,X.env.cells.lookup x=some c->H c=none
 pin:∀p∈X.pn++pins,s.heap.get? p.1=some p.2/\H p.1=none/\p.1≠X.env.locals/\p.1∉X.fs/\∀v,p.2.data ≠ .cell v
 hok:HOk X.prog X.w H s.heap
 len:σ.length=X.N.length
section
variable{X:Cx}{pins:List (Addr×Obj)}{σ:List (Option V)}{H H':Hp}{s:Shared}{h':Heap}
theorem Cx.Ok.nofr(c:X.Ok){b:Addr}{o:Obj}(e:X.base.get? b=some o):b∉X.fs:=λa=>by
 have:=(c.funs.mem a).1;rw[e] at this;cases this
theorem Inv.bs(I:Inv X pins σ H s):∀b o,X.base.get? b=some o->s.heap.get? b=some o/\H b=none:=λb o e =>
 ⟨I.base.keep b o (I.ok.bs b o e).1 (I.ok.bs b o e).2 (I.ok.nofr e)<|I.ok.noex b o e,I.base.free b o (I.ok.bs b o e).1 (I.ok.bs b o e).2<|I.ok.noex b o e⟩
theorem Inv.bk(I:Inv X pins σ H s):∀b o,X.base.get? b=some o->s.heap.get? b=some o:=λb o e=>(I.bs b o e).1
theorem Inv.mod(I:Inv X pins σ H s):Mod X.K X.mg X.base:=I.ok.mod
theorem Inv.kIn(I:Inv X pins σ H s):X.K.In s.heap:=I.ok.mod.kin.keeps I.bk
theorem Inv.fr(I:Inv X pins σ H s):∃m,Fr X.base X.env.locals s.heap m :=
 let ⟨m,hn,_⟩:=I.loc
 ⟨m,hn,I.bk,Q1 I.ok.bsz I.ok.above⟩
theorem Inv.lt(I:Inv X pins σ H s):X.env.locals<s.heap.objs.size:=let ⟨_,hn,_⟩:=I.loc;hn.lt
theorem Inv.sz(I:Inv X pins σ H s):X.s₀.heap.objs.size<=s.heap.objs.size:=Q1 I.ok.above<|Qx I.lt
theorem Inv.nofs(I:Inv X pins σ H s){a:Addr}(h:s.heap.objs.size<=a):a∉X.fs:=λb=>by
 obtain ⟨_,o,c,_⟩:=I.ok.funs.mem b;exact absurd (Q5 (Heap.lt_size c)<|Q1 I.sz h)<|Qf _
theorem Inv.cne(I:Inv X pins σ H s):∀x c,X.env.cells.lookup x=some c->c≠X.env.locals:=λx c e z=>by
 obtain ⟨v,o,d,f⟩:=I.cell x c e;obtain ⟨m,⟨g,i,h,b,a,_⟩,_⟩:=I.loc;rw[z,b] at d;cases d;rw[a] at f;cases f
theorem Inv.funs(I:Inv X pins σ H s):s.heap.FunFrames X.base X.outer:=by
 have c:∀(l:List Env),(∀b∈frs l,b∈X.fs)->X.s₀.heap.FunFrames X.base l->s.heap.FunFrames X.base l:=by
  intro l
  induction l with
  |nil=>intro _ _;trivial
  |cons n r m =>
   intro g i;obtain ⟨j,⟨L,o,d,k,h,p⟩,q⟩:=i;have a:L∈X.fs:=g L (by unfold frs;rw[Uw,d];exact Qm);obtain ⟨t,e⟩:=I.base.slot L o h (I.ok.frf L a) a λz=>I.ok.exfs L z a;exact ⟨j,⟨L,_,d,k,e,p⟩,m (λb f=>g b (by unfold frs;rw[Uw,d];exact Qy _ f)) q⟩
 exact c X.outer (λ_ f=>f) I.ok.funs
theorem Inv.stack(I:Inv X pins σ H s):s.heap.FunFrames X.base X.stack:=by
 rcases I.ok.stk with e|⟨e,hf⟩
 ·rw[e];exact I.funs
 ·rw[e];obtain ⟨m,a,_⟩:=I.loc;refine .cons (by rw[I.ok.kind];decide) hf a ?_ I.funs;exact Heap.get?_none_of_le<|Q1 I.ok.bsz I.ok.above
theorem Inv.stkSub(I:Inv X pins σ H s):∀b∈frs X.stack,b∈X.env.locals::X.fs:=λb a=>by
 rcases I.ok.stk with e|⟨e,hf⟩
 ·rw[e] at a;exact Qy _ a
 ·rw[e] at a;unfold frs at a;rw[Uw,hf] at a;exact a
theorem Inv.stkFree(I:Inv X pins σ H s):∀b∈frs X.stack,H b=none:=λb hb=>by
 rcases Qe.mp (I.stkSub b hb) with e|hb
 ·rw[e];exact I.free
 ·obtain ⟨_,o,a,_⟩:=I.ok.funs.mem hb;exact I.base.free b o a (I.ok.frf b hb) λz=>I.ok.exfs b z hb
theorem Inv.step{g':Array GenState}{t':Nat}{d':Drawn}{ch:ZZla}(I:Inv X pins σ H s)
    (j:∀b∈ch,(b∈X.ex\/X.s₀.heap.objs.size<=b)/\b≠X.env.locals/\(∀x c,X.env.cells.lookup x=some c->c≠b)/\∀p∈X.pn++pins,p.1≠b)
    (t:∀b o,b≠X.env.locals->b∉X.fs->b∉ch->s.heap.get? b=some o->H b=none->h'.get? b=some o)
    (A:∀b o,b≠X.env.locals->b∈X.fs->b∉ch->s.heap.get? b=some o->H b=none->∃Q,h'.get? b=some { o with slots:=Q }) (f:∀b o,b∉ch->s.heap.get? b=some o->H b=none->H' b=none)
    (C:∀b o,b∉ch->s.heap.get? b=some o->∃J,h'.get? b=some J)
    (G:∀b xs,H b=some (.tup xs)->H' b=some (.tup xs)) (F:∀b o u,H b=some (.frz o u)->H' b=some (.frz o u)) (L:∀b ps,H b=some (.tbl ps)->∃E,H' b=some (.tbl<|ps++E))
    (U:∀m,s.heap.Ns X.env.locals m->h'.Ns X.env.locals m) (O:HOk X.prog X.w H' h') (hg:AllBare g') :
    Inv X pins σ H' { s with heap:=h',gens:=g',drawn:=d',toks:=t' }:=by
  have K:∀b o,X.s₀.heap.get? b=some o->b≠X.env.locals:=λb o e=>Q8<|Q5 (Heap.lt_size e) I.ok.above;have w:∀b o,X.s₀.heap.get? b=some o->b∉X.ex->b∉ch:=λb o e a B=>by
    rcases (j b B).1 with z | z
    · exact a z
    · exact absurd (Q5 (Heap.lt_size e) z) (Qf _)
  have g:∀x c,X.env.cells.lookup x=some c->∀v,s.heap.IsCell c v->h'.IsCell c v:=λx c e v ⟨o,D,N⟩=>by
    have h:c∉ch:=λz=>(j c z).2.2.1 x c e rfl
    by_cases hc:c∈X.fs
    · obtain ⟨Q,q⟩:=A c o (I.cne x c e) hc h D<|I.freeC x c e
      exact ⟨_,q,N⟩
    · exact ⟨o,t c o (I.cne x c e) hc h D<|I.freeC x c e,N⟩
  refine ⟨I.ok,I.os,hg,⟨λb o e n B a=>?_,λb o e n B a=>?_,λb o e n a=>?_,λb o e a=>?_,λb xs e=>G b xs<|I.base.tups b xs e,λb o xs e=>F b o xs<|I.base.frzs b o xs e,λb ps e=>?_⟩,?_,λx c e=>?_,?_,λx c e=>?_,λp R=>?_,O,I.len⟩
  · exact t b o (K b o e) B (w b o e a) (I.base.keep b o e n B a) (I.base.free b o e n a)
  · obtain ⟨Q,y⟩:=I.base.slot b o e n B a
    obtain ⟨P,M⟩:=A b _ (K b o e) B (w b o e a) y<|I.base.free b o e n a;exact ⟨P,M⟩
  · obtain ⟨J,y⟩:=I.base.there b o e a
    exact f b J (w b o e a) y<|I.base.free b o e n a
  · obtain ⟨J,y⟩:=I.base.there b o e a
    exact C b J (w b o e a) y
  · obtain ⟨Y,y⟩:=I.base.tbls b ps e
    obtain ⟨m2,M⟩:=L b _ y;exact ⟨Y++m2,by rw[M,Array.append_assoc]⟩
  · obtain ⟨m,Z,W⟩:=I.loc
    refine ⟨m,U m Z,λi x v y M e3=>?_⟩;obtain ⟨u,r,l⟩:=W i x v y M e3;refine ⟨u,r,?_⟩;rcases l with l | ⟨k,c,e,z⟩
    · exact .inl l
    · exact .inr ⟨k,c,e,g x c e _ z⟩
  · obtain ⟨v,z⟩:=I.cell x c e
    exact ⟨v,g x c e v z⟩
  · obtain ⟨m,⟨o,_,_,D,_⟩,_⟩:=I.loc
    exact f _ o (λz=>(j _ z).2.1 rfl) D I.free
  · obtain ⟨v,o,D,N⟩:=I.cell x c e
    exact f c o (λz=>(j c z).2.2.1 x c e rfl) D<|I.freeC x c e
  · obtain ⟨e,n,S,T,d⟩:=I.pin p R
    have h:p.1∉ch:=λz=>(j p.1 z).2.2.2 p R rfl;exact ⟨t p.1 p.2 S T h e n,f p.1 p.2 h e n,S,T,d⟩
theorem Inv.un{t':Nat}(I:Inv X pins σ H s)(u:Un X.fs [] H H' s.heap h')(d:HOk X.prog X.w H' h'):Inv X pins σ H' { s with heap:=h',toks:=t' }:=by
 obtain ⟨m,⟨o,t,v,h,r⟩,_⟩:=id I.loc;obtain ⟨q,i⟩:=u.any h I.free (by simp);exact I.step (g':=s.gens) (d':=s.drawn) (ch:=[]) (λ_ z=>nomatch z) (λb o _ f _ e n=>u.keep b o e n f (by simp)) (λb o _ f _ e n=>u.slot b o e n f (by simp)) (λb o _ e n=>u.free b o e n (by simp)) (λb o _ e=>u.there b o e (by simp)) u.tups u.frzs u.tbls (λl j=>by
  obtain ⟨p,g,c,a,k⟩:=j;rw[h] at a;cases a;exact ⟨_,g,c,i,k⟩) d I.bare
theorem Inv.call{g':Array GenState}{t':Nat}{d':Drawn}{ch:ZZla}(I:Inv X pins σ H s)(u:Un (frs X.stack) ch H H' s.heap h')(h:HOk X.prog X.w H' h')(l:AllBare g')
    (f:∀b∈ch,(b∈X.ex\/X.s₀.heap.objs.size<=b)/\b≠X.env.locals/\(∀x c,X.env.cells.lookup x=some c->c≠b)/\∀p∈X.pn++pins,p.1≠b) :
    Inv X pins σ H' { s with heap:=h',gens:=g',drawn:=d',toks:=t' }:=by
  obtain ⟨m,⟨o,C,B,k,r⟩,_⟩:=id I.loc;obtain ⟨A,i⟩:=u.any k I.free λz=>(f _ z).2.1 rfl;exact I.step (ch:=ch) f (λb o i v a e n=>u.keep b o e n (λz=>(Qe.mp<|I.stkSub b z).elim i v) a) (λb o _ _ a e n=>u.any e n a) (λb o a e n=>u.free b o e n a) (λb o a e=>u.there b o e a) u.tups u.frzs u.tbls (λw q=>by
    obtain ⟨y,j,g,d,t⟩:=q;rw[k] at d; cases d;exact ⟨_,j,g,i,t⟩) h l
theorem Inv.turned{t':Nat}{it:Addr}(I:Inv X pins σ H s)(k:∀b o,b≠it->s.heap.get? b=some o->h'.get? b=some o)(i:H it=none)(f:it≠X.env.locals)
    (w:it∈X.ex\/X.s₀.heap.objs.size<=it) (j:∀x c,X.env.cells.lookup x=some c->c≠it) (l:∀p∈X.pn++pins,p.1≠it):Inv X pins σ H { s with heap:=h',toks:=t' }:=by
  have d:∀b u,H b=some u->b≠it:=λb u e z=>by rw[z,i] at e; cases e
  refine I.step (g':=s.gens) (d':=s.drawn) (ch:=[it]) (λb t=>?_) (λb o _ _ a e _=>k b o (λz=>a (by simp[z])) e) (λb o _ _ a e _=>⟨o.slots,k b o (λz=>a (by simp[z])) e⟩) (λ_ _ _ _ n=>n)
    (λb o a e=>⟨o,k b o (λz=>a (by simp[z])) e⟩) (λ_ _ e=>e) (λ_ _ _ e=>e) (λb B e=>⟨#[],by rw[e]; simp⟩) (λm h=>?_) (λb u e=>?_) I.bare
  · have e:b=it:=by simpa using t
    subst e;exact ⟨w,f,j,l⟩
  · obtain ⟨o,A,y,g,r⟩:=h
    exact ⟨o,A,y,k _ o (Ne.symm f) g,r⟩
  · refine (I.hok b u e).stay (λc v a q=>k c v ?_ q) (λ_ q=>q) λ_ _ q=>q
    rcases a with z | z
    · rw[z]; exact d b u e
    · exact d c _ z
theorem Inv.tok(I:Inv X pins σ H s)(t:Nat):Inv X pins σ H { s with toks:=t }:=I.un (h':=s.heap) (t':=t) Un.refl I.hok
theorem Inv.kept{t':Nat}(I:Inv X pins σ H s)(k:∀b u,s.heap.get? b=some u->h'.get? b=some u):Inv X pins σ H { s with heap:=h',toks:=t' }:=I.un (Un.kept k)<|I.hok.kept k
theorem Inv.laid{a:Addr}{o:HO}{t':Nat}(I:Inv X pins σ H s)(k:∀b u,s.heap.get? b=some u->h'.get? b=some u)(hp:s.heap.objs.size<=a)(c:ObjOk X.prog X.w (upd H a o) h' a o) :
    Inv X pins σ (upd H a o) { s with heap:=h',toks:=t' }:=I.un (Un.laid k hp<|I.hok.fresh hp)<|I.hok.laid k hp c
theorem Inv.write{x e:Addr}{o:HO}{t':Nat}(I:Inv X pins σ H s)(d:Mut (H x))(f:e=x\/H e=some (.own x))(k:∀b u,b≠e->s.heap.get? b=some u->h'.get? b=some u)(a:∃u,h'.get? e=some u)
    (c:ObjOk X.prog X.w (upd H x o) h' x o):Inv X pins σ (upd H x o) { s with heap:=h',toks:=t' }:=I.un (Un.write d f k a)<|I.hok.write d f k a c
theorem Inv.weak{a:List (Option V)}(I:Inv X pins σ H s)(e:a.length=σ.length)(w:∀(i:Nat) v,a[i]?=some (some v)->σ[i]?=some (some v)):Inv X pins a H s :=
 ⟨I.ok,I.os,I.bare,I.base,let ⟨m,hn,hl'⟩:=I.loc;⟨m,hn,λi x v d c b=>hl' i x v d (w i v c) b⟩,I.cell,I.free,I.freeC,I.pin,I.hok,e.trans I.len⟩
theorem Inv.pins_of{pins':List (Addr×Obj)}(I:Inv X pins σ H s)(h:∀p∈pins',s.heap.get? p.1=some p.2/\H p.1=none/\p.1≠X.env.locals/\p.1∉X.fs/\∀v,p.2.data ≠ .cell v):Inv X pins' σ H s :=
 ⟨I.ok,I.os,I.bare,I.base,I.loc,I.cell,I.free,I.freeC,λp a=>(W6.mp a).elim (λz=>I.pin p<|Wn _ z)<|h p,I.hok,I.len⟩
theorem ZiT{N:List Str}(c:N.Nodup){i j:Nat}{x:Str}(a:N[i]?=some x)(b:N[j]?=some x):i=j:=by
 obtain ⟨g,d⟩:=Qn.mp a;obtain ⟨f,e⟩:=Qn.mp b;exact (List.getElem_inj c).mp<|d.trans e.symm
theorem Ze2{M:Model}{A:Around}{E:Value->Shared->Prop}{i:Nat}{x:Str}{v:V}{u:Value}{Q:Unit->Shared->Prop}(I:Inv X pins σ H s)(hN:X.N.Nodup)(K:X.N[i]?=some x)(t:Loc X.env.scope x)(r:RelV v u)
    (h:∀T,Inv X pins (σ.set i<|some v) H T->(∃a,Heap.SameBut a s.heap T.heap/\(a=X.env.locals\/X.env.cells.lookup x=some a))->Q () T) (hf:X.fn x=true\/X.env.scope.names.lookup x=some .local:=by first | exact .inl rfl | exact .inr rfl | assumption):wpAny M A (storeName X.env x u) Q E s:=by
  obtain ⟨m,W,hl⟩:=id I.loc;have J:(X.env.scope.kind == .class||(X.env.scope.kind == .module&&X.env.locals != X.env.globals))=false:=by rw[I.ok.kind]; rfl
  have C:i<σ.length:=by rw[I.len]; exact (Qn.mp K).1
  have G:=I.cne;have l:∀ {a:Addr} {h':Heap},(∃o,s.heap.get? a=some o/\H a=none)->Heap.SameBut a s.heap h'->HOk X.prog X.w H h':=fun {a h'} ha f b ob e=>by
    obtain ⟨_,_,w⟩:=ha;refine (I.hok b ob e).stay (λc R hc q=>(f.2 c ?_).trans q) (λ_ q=>q) λ_ _ q=>q;rintro rfl;rcases hc with rfl | hc
    · rw[w] at e; cases e
    · rw[w] at hc; cases hc
  rcases t with hk | hk
  · refine wpAny_storeName_local hk W (λh' a0 f=>?_) J
    obtain ⟨oL,_,_,a1,_⟩:=id W;refine h _ ⟨I.ok,I.os,I.bare,⟨λb o e n D t=>?_,λb o e n D t=>?_,I.base.free,λb o e t=>?_,I.base.tups,I.base.frzs,I.base.tbls⟩,⟨_,a0,λj y v' g B Z=>?_⟩,λy c e=>?_,I.free,I.freeC,λp U=>?_,l ⟨oL,a1,I.free⟩ f,by simpa using I.len⟩ ⟨_,f,.inl rfl⟩
    · exact (f.2 b<|Q8<|Q5 (Heap.lt_size e) I.ok.above).trans (I.base.keep b o e n D t)
    · obtain ⟨sl,g⟩:=I.base.slot b o e n D t
      exact ⟨sl,(f.2 b<|Q8<|Q5 (Heap.lt_size e) I.ok.above).trans g⟩
    · obtain ⟨o',g⟩:=I.base.there b o e t
      exact ⟨o',(f.2 b<|Q8<|Q5 (Heap.lt_size e) I.ok.above).trans g⟩
    · by_cases hj:j=i
      · subst hj
        rw[K] at g; cases g;rw[List.getElem?_set_self C] at B
        cases B
        exact ⟨u,r,.inl ⟨hk,by simp⟩⟩
      · rw[List.getElem?_set_ne<|Ne.symm hj] at B
        obtain ⟨u',Y,q⟩:=hl j y v' g B Z;refine ⟨u',Y,?_⟩;rcases q with ⟨k,e⟩ | ⟨k,c,e,z⟩
        · refine .inl ⟨k,?_⟩
          have:y≠x:=λe=>hj<|ZiT hN g<|e ▸ K
          simp[this,e]
        · exact .inr ⟨k,c,e,z.sameBut f<|G y c e⟩
    · obtain ⟨R,z⟩:=I.cell y c e
      exact ⟨R,z.sameBut f<|G y c e⟩
    · obtain ⟨e,n,P,nf,d⟩:=I.pin p U
      exact ⟨(f.2 p.1 P).trans e,n,P,nf,d⟩
  · have F:X.fn x=true:=by
      rcases hf with z | z
      · exact z
      · rw[z] at hk; cases hk
    obtain ⟨c,hc⟩:=I.ok.has x<|.inl hk;obtain ⟨R,z⟩:=I.cell x c hc;refine wpAny_storeName_cell I.ok.kind hk hc z<|λh' O f=>?_;obtain ⟨oc,N,L⟩:=id z;refine h { s with heap:=h' } ⟨I.ok,I.os,I.bare,⟨λb o e n D t=>?_,λb o e n D t=>?_,I.base.free,λb o e t=>?_,I.base.tups,I.base.frzs,I.base.tbls⟩,⟨m,W.sameBut f<|Ne.symm<|G x c hc,λj y v' g B Z=>?_⟩,λy S e=>?_,I.free,I.freeC,λp U=>?_,l ⟨oc,N,I.freeC x c hc⟩ f,by simpa using I.len⟩ ⟨c,f,.inr hc⟩
    · exact (f.2 b<|Q8<|Q5 (Heap.lt_size e)<|I.ok.cab x c F hc).trans (I.base.keep b o e n D t)
    · obtain ⟨sl,g⟩:=I.base.slot b o e n D t
      exact ⟨sl,(f.2 b<|Q8<|Q5 (Heap.lt_size e)<|I.ok.cab x c F hc).trans g⟩
    · obtain ⟨o',g⟩:=I.base.there b o e t
      exact ⟨o',(f.2 b<|Q8<|Q5 (Heap.lt_size e)<|I.ok.cab x c F hc).trans g⟩
    · by_cases hj:j=i
      · subst hj
        rw[K] at g; cases g;rw[List.getElem?_set_self C] at B
        cases B
        exact ⟨u,r,.inr ⟨.inl hk,c,hc,O⟩⟩
      · rw[List.getElem?_set_ne<|Ne.symm hj] at B
        obtain ⟨u',Y,q⟩:=hl j y v' g B Z;refine ⟨u',Y,?_⟩;rcases q with q | ⟨k,S,e,z'⟩
        · exact .inl q
        · refine .inr ⟨k,S,e,z'.sameBut f ?_⟩
          rintro rfl;exact hj<|ZiT hN g<|I.ok.inj _ _ _ e hc ▸ K
    · by_cases hcc:S=c
      · subst hcc; exact ⟨_,O⟩
      · obtain ⟨w2,z2⟩:=I.cell y S e
        exact ⟨w2,z2.sameBut f hcc⟩
    · obtain ⟨e,n,P,nf,d⟩:=I.pin p U
      refine ⟨(f.2 p.1 ?_).trans e,n,P,nf,d⟩;intro q;rw[q,N] at e;have q':oc=p.2:=Option.some.inj e;exact d R (by rw[<-q']; exact L)
theorem Zds{M:Model}{A:Around}{E:Value->Shared->Prop}{i:Nat}{x:Str}{v:V}{u:Value}{Q:Unit->Shared->Prop}(I:Inv X pins σ H s)(b:X.N.Nodup)(e:X.N[i]?=some x)(d:Loc X.env.scope x)(r:RelV v u)
    (h:∀a,Inv X pins (σ.set i<|some v) H a->Q () a) (f:X.fn x=true\/X.env.scope.names.lookup x=some .local:=by first | exact .inl rfl | exact .inr rfl | assumption):wpAny M A (storeName X.env x u) Q E s :=
  Ze2 I b e d r (λa c _=>h a c) f
theorem Inv.call'{a:Shared}{ch:ZZla}(I:Inv X pins σ H s)(h:a.os=s.os)(u:Un (frs X.stack) ch H H' s.heap a.heap)(d:HOk X.prog X.w H' a.heap)(i:AllBare a.gens)
    (f:∀b∈ch,(b∈X.ex\/X.s₀.heap.objs.size<=b)/\b≠X.env.locals/\(∀x c,X.env.cells.lookup x=some c->c≠b)/\∀p∈X.pn++pins,p.1≠b):Inv X pins σ H' a:=by
  obtain ⟨h',g',d',t',g⟩:=a;have e:g=s.os:=h;subst e;exact I.call (g':=g') (t':=t') (d':=d') u d i f
end
abbrev XK:=Value->Option Addr->Hp->Prop
abbrev St:=List<|Option V
abbrev VK:=V->Hp->Prop
abbrev TE:=St->Hp->VK->Prop
abbrev TT:=St->Hp->(Bool->Hp->Prop)->Prop
abbrev TA:=St->Hp->(List V->Hp->Prop)->Prop
structure Ends where
 nx:St->Hp->Prop
 rt:VK
 bk:St->Hp->Prop:=λ_ _=>False
 ct:St->Hp->Prop:=λ_ _=>False
abbrev TS:=Ends->St->Hp->Prop
def EP(X:Cx)(a:List (Addr×Obj))(d:St)(Q:VK)(u:Value)(c:Shared):Prop:=∃v b,Inv X a d b c/\RelV v u/\Q v b
def TP(X:Cx)(a:List (Addr×Obj))(e:St)(Q:Bool->Hp->Prop)(b:Bool)(d:Shared):Prop:=∃c,Inv X a e c d/\Q b c
def AP(X:Cx)(a:List (Addr×Obj))(e:St)(Q:List V->Hp->Prop)(us:List Value)(d:Shared):Prop:=∃c b,Inv X a e b d/\Vals c us/\Q c b
def SP(X:Cx)(b:List (Addr×Obj))(D:Ends)(f:Flow)(d:Shared):Prop :=
 match f with
 | .next=>∃a c,Inv X b a c d/\D.nx a c
 | .brk=>∃a c,Inv X b a c d/\D.bk a c
 | .cont=>∃a c,Inv X b a c d/\D.ct a c
 | .ret u=>∃v a c,Inv X b a c d/\RelV v u/\D.rt v c
def PE(X:Cx)(e:Expr)(t:TE):Prop :=
 ∀(a:List (Addr×Obj)) (s:Shared) (b:St) (H:Hp) (Q:VK),Inv X a b H s->t b H Q->wpAny (model X.prog X.w) X.A (eval e X.env) (EP X a b Q) X.xe s
def PT(X:Cx)(e:Expr)(t:TT):Prop :=
 ∀(a:List (Addr×Obj)) (s:Shared) (b:St) (H:Hp) (Q:Bool->Hp->Prop),Inv X a b H s->t b H Q->wpAny (model X.prog X.w) X.A (isTrue e X.env<|eval e X.env) (TP X a b Q) X.xe s
def PW(X:Cx)(e:Expr)(t:TT):Prop :=
 ∀(b:Sem Value) (a:List (Addr×Obj)) (s:Shared) (c:St) (H:Hp) (Q:Bool->Hp->Prop),Inv X a c H s->t c H Q->wpAny (model X.prog X.w) X.A (isTrue e X.env b) (TP X a c Q) X.xe s
theorem PW.pt{X:Cx}{e:Expr}{t:TT}(h:PW X e t):PT X e t:=h _
def PA(X:Cx)(d:List Expr)(t:TA):Prop :=
 ∀(c:Pos) (a:List (Addr×Obj)) (s:Shared) (b:St) (H:Hp) (Q:List V->Hp->Prop),Inv X a b H s->t b H Q->wpAny (model X.prog X.w) X.A (spliced<|backTo c<|starEach d X.env) (AP X a b Q) X.xe s
def PS(X:Cx)(c:Stmt)(t:TS):Prop :=
 ∀(a:List (Addr×Obj)) (s:Shared) (b:St) (H:Hp) (D:Ends),Inv X a b H s->t D b H->wpAny (model X.prog X.w) X.A (exec c X.env) (SP X a D) X.xe s
def PSs(X:Cx)(c:List Stmt)(t:TS):Prop :=
 ∀(a:List (Addr×Obj)) (s:Shared) (b:St) (H:Hp) (D:Ends),Inv X a b H s->t D b H->wpAny (model X.prog X.w) X.A (execs c X.env) (SP X a D) X.xe s
theorem thn{α:Type}{t:Sem α}{Q Q':α->Shared->Prop}{M:Model}{A:Around}{E:Value->Shared->Prop}{s:Shared}(h:wpAny M A t Q E s)(b:∀a s,Q a s->Q' a s):wpAny M A t Q' E s:=wpAny_mono h b λ_ _ x=>x
section
variable{X:Cx}
theorem bin{a b:Expr}{l m:TE}(n:PE X a l)(A:PE X b m){c:List (Addr×Obj)}{s:Shared}{e:St}{H:Hp}{R:V->V->Hp->Prop}(I:Inv X c e H s)(h:l e H λx k=>m e k λy d=>R x y d)
    {α:Type} {Q:α->Shared->Prop} {f:Value->Value->Sem α}
    (B:∀v u j x y d,Inv X c e d j->RelV x v->RelV y u->R x y d->wpAny (model X.prog X.w) X.A (f v u) Q X.xe j) :
    wpAny (model X.prog X.w) X.A (eval a X.env) (λv i=>wpAny (model X.prog X.w) X.A (eval b X.env) (λu g=>wpAny (model X.prog X.w) X.A (f v u) Q X.xe g) X.xe i) X.xe s:=by
  refine thn (n c s e H _ I h) λv t ⟨x,k,o,r,p⟩=>?_;refine thn (A c t e k _ o p) λu j ⟨y,d,z,q,w⟩=>?_;exact B v u j x y d z r q w
inductive ZpU (i:Nat) (σ:St) (H:Hp) (Q:VK):Prop
 |mk (v:V) (_:σ[i]?=some (some v)) (_:Q v H):ZpU i σ H Q
def tC(v:V):TE:=λ_ H Q=>Q v H
theorem ZiU{i:Nat}{x:Str}{f:Pos}(k:X.N[i]?=some x)(j:Vis X.env.scope x)(d:(x==("__debug__":Str))=false:=by decide) (g:(x==("__classdict__":Str))=false:=by decide):PE X (.Name x f) (ZpU i):=by
 intro b s p H Q I h;obtain ⟨v,e,h⟩:=h;obtain ⟨m,o,n⟩:=I.loc;obtain ⟨u,r,l⟩:=n i x v k e j;have a:EP X b p Q u s:=⟨v,H,I,r,h⟩;rcases l with ⟨hk,hm⟩|⟨hk,c,hc,hcell⟩
 ·exact wpAny_Name (wpAny_loadName_local I.ok.kind hk o hm a) d
 ·rcases hk with hk|hk
  ·exact wpAny_Name (wpAny_loadName_cell I.ok.kind hk hc hcell a) d
  ·exact wpAny_Name (wpAny_loadName_free I.ok.kind hk hc hcell a g) d
theorem Zac{i j pos}:PE X (.Constant (.int i) j pos) (tC<|.int i):=λ_ _ _ H _ I h=>wpAny_Constant_int ⟨.int i,H,I.tok _,⟨_,rfl⟩,h⟩
theorem Zc5{b j pos}:PE X (.Constant (.bool b) j pos) (tC<|.bl b):=λ_ _ _ H _ I h=>Constant_bool ⟨.bl b,H,I,rfl,h⟩
theorem Zp5{j pos}:PE X (.Constant .none j pos) (tC .non):=λ_ _ _ H _ I h=>Constant_none ⟨.non,H,I,rfl,h⟩
theorem ZcZ{x j pos}:PE X (.Constant (.str x) j pos) (tC<|.str x):=λ_ _ _ H _ I h=>Calls.Constant_str ⟨.str x,H,I.tok _,⟨_,rfl⟩,h⟩
def Gl(X:Cx)(x:Str):Prop:=X.env.kindOf x=some .globalImplicit
theorem ZdH{E:Value->Shared->Prop}{a:List (Addr×Obj)}{s:Shared}{d:St}{H:Hp}{x:Str}{u:Value}{b:Pos}{Q:Value->Shared->Prop}(I:Inv X a d H s)(c:Gl X x)(e:X.mg x=some u)(h:Q u s)
    (f:(x==("__debug__" : Str))=false:=by decide):wpAny (model X.prog X.w) X.A (eval (.Name x b) X.env) Q E s :=
  Calls.Name_function_global I.ok.kind c (Calls.loadGlobal_global (by rw[I.ok.glob]; exact I.mod.glob.keeps I.bk) e h) f
theorem ZdE{E:Value->Shared->Prop}{a:List (Addr×Obj)}{s:Shared}{j:St}{H:Hp}{x:Str}{u:Value}{b:Pos}{Q:Value->Shared->Prop}(I:Inv X a j H s)(d:Gl X x)(f:X.mg x=none)(c:bootBuiltins x=some u)(h:Q u s)
    (g:x ≠ "__name__" := by decide) (e:(x==("__debug__" : Str))=false:=by decide):wpAny (model X.prog X.w) X.A (eval (.Name x b) X.env) Q E s:=by
  obtain ⟨l,k,i⟩:=I.mod.blt;exact Calls.Name_function_global I.ok.kind d (Calls.loadGlobal_builtin (by rw[I.ok.glob]; exact I.mod.glob.keeps I.bk) f (by rw[I.ok.blt]; exact k.keeps I.bk) ((i x g).trans c) h) e
theorem Zct{x:Str}{v:V}{u:Value}{a:Pos}(b:Gl X x)(c:X.mg x=some u)(r:RelV v u)(d:(x==("__debug__":Str))=false:=by decide):PE X (.Name x a) (tC v) :=
 λ_ _ _ H _ I h=>ZdH I b c ⟨v,H,I,r,h⟩ d
theorem Zox{x:Str}{v:V}{u:Value}{a:Pos}(d:Gl X x)(e:X.mg x=none)(c:bootBuiltins x=some u)(r:RelV v u)(b:x ≠"__name__":= by decide) (f:(x==("__debug__":Str))=false:=by decide):PE X (.Name x a) (tC v) :=
 λ_ _ _ H _ I h=>ZdE I d e c ⟨v,H,I,r,h⟩ b f
variable{a b:Expr}{ta tb:TE}{pos:Pos}
def PC(X:Cx)(g:CmpOp)(a b:Expr)(t:TE):Prop :=
 ∀(c:List (Addr×Obj)) (s:Shared) (f:St) (H:Hp) (Q:VK),Inv X c f H s->t f H Q →
  wpAny (model X.prog X.w) X.A (eval a X.env) (λv d=>wpAny (model X.prog X.w) X.A (eval b X.env) (λu e=>wpAny (model X.prog X.w) X.A (compareOp g v u) (EP X c f Q) X.xe e) X.xe d) X.xe s
inductive tB_ (x:V) (Q:Bool->Hp->Prop) (H1:Hp):Prop
 |mk (c:Bool) (_:x = .bl c) (_:Q c H1):tB_ x Q H1
def tB(t:TE):TT:=λc H Q=>t c H λx d=>tB_ x Q d
theorem ZsS{f:CmpOp}{t:TE}(h:PC X f a b t)(g:behindInMarks f b=false:=by first|exact nobehind _ ∅ ∅ |rfl):PT X (.Compare a [f] [b] pos) (tB t):=by
 intro e s o H Q I m;refine wpAny_isTrue_Compare1 (thn (h e s o H _ I m) λv p g=>thn g λu r k=>thn k λc w ⟨x,n,i,l,j⟩=>?_) g;obtain ⟨d,rfl,q⟩:=j
 cases l
 exact wpAny_truthy_bool ⟨n,i,q⟩
theorem Zbv{e:Expr}{t:TE}(h:PE X e t)(i:∀c,isTrue e X.env c=(do let v ← c;standAt e.pos;holding [v] (truthy v)):=by intro _;rfl):PT X e (tB t):=by
 intro f s n H Q I l;refine isTrue_plain (thn (h f s n H _ I l) λv o ⟨x,m,g,k,j⟩=>?_)<|i _;obtain ⟨d,rfl,q⟩:=j
 cases k
 exact wpAny_truthy_bool ⟨m,g,q⟩
variable{tA tB':TT}{rest:List Expr}
def Ztb(t u:TT):TT:=λd H Q=>t d H λc e=>if c=true then u d e Q else Q false e
def tOr(t u:TT):TT:=λd H Q=>t d H λc e=>if c=true then Q true e else u d e Q
def Ztc(t:TT):TT:=λd H Q=>t d H λc e=>Q (!c) e
theorem Zks(f:PT X a tA):PW X (.BoolOp .And [a] pos) tA:=by
 intro j d s g H Q I h;refine isTrue_and<|thn (f d s g H Q I h) λc i e=>?_
 cases c with
 |true=>exact isTrue_and_nil e
 |false=>exact e
theorem ZdF(f:PT X a tA):PW X (.BoolOp .Or [a] pos) tA:=by
 intro j d s g H Q I h;refine isTrue_or<|thn (f d s g H Q I h) λc i e=>?_
 cases c with
 |false=>exact isTrue_or_nil e
 |true=>exact e
theorem ZnG(l:PT X a tA)(m:PW X (.BoolOp .And (b::rest) pos) tB'):PW X (.BoolOp .And (a::b::rest) pos) (Ztb tA tB'):=by
 intro k d s i H Q I h;refine isTrue_and<|thn (l d s i H _ I h) λc j ⟨e,f,g⟩=>?_
 cases c with
 |true=>exact m k d j i e Q f g
 |false=>exact ⟨e,f,g⟩
theorem ZdD(l:PT X a tA)(m:PW X (.BoolOp .Or (b::rest) pos) tB'):PW X (.BoolOp .Or (a::b::rest) pos) (tOr tA tB'):=by
 intro k d s i H Q I h;refine isTrue_or<|thn (l d s i H _ I h) λc j ⟨e,f,g⟩=>?_
 cases c with
 |true=>exact ⟨e,f,g⟩
 |false=>exact m k d j i e Q f g
theorem ZcB(f:PT X a tA):PT X (.UnaryOp .Not a pos) (Ztc tA):=by
 intro d s g H Q I h;exact isTrue_not<|f d s g H (λc e=>Q (!c) e) I h
def ZrN(ta tb:TE):TE:=λd H Q=>ta d H λx e=>∃c,x = .bl c/\if c=true then tb d e Q else Q (.bl false) e
def Ztd(ta tb:TE):TE:=λd H Q=>ta d H λx e=>∃c,x = .bl c/\if c=true then Q (.bl true) e else tb d e Q
def ZrO(ta:TE):TE:=λd H Q=>ta d H λx e=>∃c,x = .bl c/\Q (.bl<|!c) e
theorem ZdX{op}{t:TE}(h:PE X a t):PE X (.BoolOp op [a] pos) t:=λc s e H Q I d=>BoolOp_one<|h c s e H Q I d
theorem ZeD(l:PE X a ta)(m:PE X (.BoolOp .And (b::rest) pos) tb):PE X (.BoolOp .And (a::b::rest) pos) (ZrN ta tb):=by
 intro d s i H Q I h;refine BoolOp_and<|thn (l d s i H _ I h) λv k ⟨x,f,g,j,e⟩=>?_;obtain ⟨c,rfl,e⟩:=e
 cases j
 refine wpAny_truthy_bool ?_
 cases c with
 |true=>exact m d k i f Q g e
 |false=>exact ⟨.bl false,f,g,rfl,e⟩
theorem Zp6(l:PE X a ta)(m:PE X (.BoolOp .Or (b::rest) pos) tb):PE X (.BoolOp .Or (a::b::rest) pos) (Ztd ta tb):=by
 intro d s i H Q I h;refine BoolOp_or<|thn (l d s i H _ I h) λv k ⟨x,f,g,j,e⟩=>?_;obtain ⟨c,rfl,e⟩:=e
 cases j
 refine wpAny_truthy_bool ?_
 cases c with
 |false=>exact m d k i f Q g e
 |true=>exact ⟨.bl true,f,g,rfl,e⟩
theorem Zkt(i:PE X a ta):PE X (.UnaryOp .Not a pos) (ZrO ta):=by
 intro d s k H Q I h;refine UnaryOp_<|thn (i d s k H _ I h) λv l ⟨x,g,j,f,e⟩=>?_;obtain ⟨c,rfl,e⟩:=e
 cases f
 exact not_of<|wpAny_truthy_bool ⟨.bl<|!c,g,j,rfl,e⟩
def tIf(t:TT)(ta tb:TE):TE:=λd H Q=>t d H λc e=>if c=true then ta d e Q else tb d e Q
theorem ZiV{c:Expr}(n:PT X c tA)(l:PE X a ta)(m:PE X b tb):PE X (.IfExp c a b pos) (tIf tA ta tb):=by
 intro e s f H Q I h;refine wpAny_IfExp<|thn (n e s f H _ I h) λd g ⟨i,j,k⟩=>?_
 cases d with
 |true=>exact l e g f i Q j k
 |false=>exact m e g f i Q j k
end
def SqL(K:ZZfg)(H:Hp)(a:Addr)(xs:List V):Prop :=
 Rd H a (.lst xs) ∨
  ∃(o:Obj) (b:Array Value) (n:Nat),K.lookup a=some o/\o.cls = .type "list" /\ o.dict=none/\o.data = .seq b n/\b.size<=sizeLine/\Vals xs b.toList
def SqT(K:ZZfg)(H:Hp)(a:Addr)(xs:List V):Prop :=
 Rd H a (.tup xs) ∨
  ∃(o:Obj) (b:Array Value) (n:Nat),K.lookup a=some o/\o.cls = .type "tuple" /\ o.data = .seq b n/\b.size<=sizeLine/\Vals xs b.toList
def Zte:Value->Option V
 | .none=>some .non
 | .bool b=>some<|.bl b
 | .int i _=>some<|.int i
 | .str x _=>some<|.str x
 | .bytes b _=>some<|.byt b
 | .float b _=>some<|.flt b
 | .ref a=>some<|.ref a
 | .type n=>some<|.ty n
 |_=>none
theorem RelV.abs{x:V}{u:Value}(r:RelV x u):Zte u=some x:=by
 cases x with
 |non=>cases r;rfl
 |bl _=>cases r;rfl
 |int _=>obtain ⟨t,rfl⟩:=r;rfl
 |str _=>obtain ⟨t,rfl⟩:=r;rfl
 |byt _=>obtain ⟨t,rfl⟩:=r;rfl
 |flt _=>obtain ⟨t,rfl⟩:=r;rfl
 |ref _=>cases r;rfl
 |ty _=>cases r;rfl
theorem RelV.inj{x y:V}{u:Value}(r:RelV x u)(q:RelV y u):x=y:=Option.some.inj<|r.abs.symm.trans q.abs
theorem Vals.inj:∀ {xs ys:List V} {us:List Value},Vals xs us->Vals ys us->xs=ys
 |_,_,_,.nil,.nil=>rfl
 |_,_,_,.cons r t,.cons r' t'=>by rw[r.inj r',Vals.inj t t']
section
variable{X:Cx}{pins:List (Addr×Obj)}{σ:St}{H:Hp}{s:Shared}{a:Addr}{xs ys:List V}
theorem SqL.of{K:ZZfg}(h:H a=some (.lst xs)):SqL K H a xs:=.inl<|.inl h
theorem SqT.of{K:ZZfg}(h:H a=some (.tup xs)):SqT K H a xs:=.inl<|.inl h
theorem Inv.list(I:Inv X pins σ H s)(h:SqL X.K H a xs):∃its:List Value,Vals xs its/\PlainL s.heap a its.toArray/\xs.length<=sizeLine:=by
 rcases h with h|⟨o,its,n,hk,hc,hd,hs,hz,r⟩
 ·obtain ⟨z,its,n,r,e⟩:=h.ok I.hok;exact ⟨its,r,⟨_,n,e,rfl,rfl,rfl⟩,z⟩
 ·refine ⟨its.toList,r,⟨o,n,I.kIn a o hk,hc,hd,by simpa using hs⟩,?_⟩;have e:=r.length
  simp only[Ux] at e
  omega
theorem Inv.tuple(I:Inv X pins σ H s)(h:SqT X.K H a xs):∃its:List Value,Vals xs its/\IsTup s.heap a its.toArray/\xs.length<=sizeLine:=by
 rcases h with h|⟨o,its,n,hk,hc,hs,hz,r⟩
 ·obtain ⟨z,its,r,p⟩:=h.ok I.hok;exact ⟨its,r,p,z⟩
 ·refine ⟨its.toList,r,⟨o,I.kIn a o hk,hc,n,by simpa using hs⟩,?_⟩;have e:=r.length
  simp only[Ux] at e
  omega
theorem Inv.list_inj(I:Inv X pins σ H s)(h:SqL X.K H a xs)(h':SqL X.K H a ys):xs=ys:=by
 obtain ⟨c,r,⟨o,n,e,_,_,d⟩,_⟩:=I.list h;obtain ⟨b,i,⟨k,j,g,_,_,f⟩,_⟩:=I.list h';rw[e] at g;cases g;rw[d] at f
 injection f with d1 _
 have:c=b:=by simpa using congrArg Array.toList d1
 subst this;exact r.inj i
theorem Inv.tuple_inj(I:Inv X pins σ H s)(h:SqT X.K H a xs)(h':SqT X.K H a ys):xs=ys:=by
 obtain ⟨c,r,⟨o,e,_,n,d⟩,_⟩:=I.tuple h;obtain ⟨b,i,⟨k,g,_,j,f⟩,_⟩:=I.tuple h';rw[e] at g;cases g;rw[d] at f
 injection f with d1 _
 have:c=b:=by simpa using congrArg Array.toList d1
 subst this;exact r.inj i
end
abbrev Cx.wish(X:Cx)(E:Value->Shared->Prop):Cx:={ X with xe:=E }
abbrev Cx.nox(X:Cx):Cx:=X.wish λ_ _=>False
theorem Cx.Ok.wish{X:Cx}(a:X.Ok)(E:Value->Shared->Prop):(X.wish E).Ok :=
 ⟨a.mod,a.kind,a.glob,a.blt,a.above,a.inj,a.has,a.cab,a.hd,a.frames,a.stk,a.exf,a.bs,a.bsz,a.noex,a.exfs,a.funs,a.frf⟩
theorem Cx.Ok.unwish{X:Cx}{E:Value->Shared->Prop}(a:(X.wish E).Ok):X.Ok :=
 ⟨a.mod,a.kind,a.glob,a.blt,a.above,a.inj,a.has,a.cab,a.hd,a.frames,a.stk,a.exf,a.bs,a.bsz,a.noex,a.exfs,a.funs,a.frf⟩
section
variable{X:Cx}{pins:List (Addr×Obj)}{σ:St}{H:Hp}{s:Shared}{E:Value->Shared->Prop}
theorem Inv.wish(I:Inv X pins σ H s)(E:Value->Shared->Prop):Inv (X.wish E) pins σ H s:=⟨I.ok.wish E,I.os,I.bare,I.base,I.loc,I.cell,I.free,I.freeC,I.pin,I.hok,I.len⟩
theorem Inv.unwish(I:Inv (X.wish E) pins σ H s):Inv X pins σ H s:=⟨I.ok.unwish,I.os,I.bare,I.base,I.loc,I.cell,I.free,I.freeC,I.pin,I.hok,I.len⟩
theorem SP.unwish{D:Ends}{f:Flow}{c:Shared}(h:SP (X.wish E) pins D f c):SP X pins D f c:=by
 cases f with
 |next=>obtain ⟨a,b,I,q⟩:=h;exact ⟨a,b,I.unwish,q⟩
 |brk=>obtain ⟨a,b,I,q⟩:=h;exact ⟨a,b,I.unwish,q⟩
 |cont=>obtain ⟨a,b,I,q⟩:=h;exact ⟨a,b,I.unwish,q⟩
 |ret u=>obtain ⟨v,a,b,I,r,q⟩:=h;exact ⟨v,a,b,I.unwish,r,q⟩
theorem PSs.nox{a:List Stmt}{t:TS}(h:PSs X.nox a t):PSs X a t:=λpins s σ H D I b =>
 wpAny_mono (h pins s σ H D (I.wish _) b) (λ_ _ q=>q.unwish) λ_ _ z=>False.elim z
end
section
variable{X:Cx}{st:Stmt}{rest:List Stmt}{t u:TS}{e:Expr}{te:TE}{pos:Pos}
def ZrP:TS:=λD a H=>D.nx a H
def Ztf(t u:TS):TS:=λD a H=>t { D with nx:=u D } a H
theorem ZaB:PSs X [] ZrP:=λ_ _ a H _ I h=>wpAny_execs_nil ⟨a,H,I,h⟩
theorem Zad(j:PS X st t)(c:PSs X rest u):PSs X (st::rest) (Ztf t u):=by
 intro a s k H D I h;refine wpAny_execs_cons<|thn (j a s k H { D with nx:=u D } I h) λf g q=>?_
 cases f with
 |next =>
  obtain ⟨b,d,i,q⟩:=q;exact c a g b d D i q
 |ret v=>exact q
 |brk=>exact q
 |cont=>exact q
theorem Zag(b:PS X st t):PSs X [st] t:=by
 intro a s c H D I h;refine wpAny_execs_cons<|thn (b a s c H D I h) λf d q=>?_
 cases f with
 |next=>exact wpAny_execs_nil q
 |ret v=>exact q
 |brk=>exact q
 |cont=>exact q
theorem Inv.quiet{a:List (Addr×Obj)}{b:St}{H:Hp}{s:Shared}(I:Inv X a b H s):interactive X.env=false:=by simp[interactive,I.ok.kind]
def ZrQ(te:TE):TS:=λD a H=>te a H λ_ b=>D.nx a b
theorem Zcc(g:PE X e te)(c:swapsWith e none pos.line X.env=pure false:=by rfl):PS X (.Expr e pos) (ZrQ te):=by
 intro a s b H D I h;exact wpAny_Expr_any (thn (g a s b H _ I h) λv k ⟨x,d,f,j,i⟩=>⟨b,d,f,i⟩) I.quiet c
def Ztg(te:TE):TS:=λD a H=>te a H D.rt
theorem Zar(g:PE X e te):PS X (.Return (some e) pos) (Ztg te):=by
 intro a s b H D I h;exact wpAny_Return_some<|thn (g a s b H _ I h) λv j ⟨x,d,f,c,i⟩=>⟨x,b,d,f,c,i⟩
def Zth(c:TT)(t u:TS):TS:=λD a H=>c a H λb d=>if b=true then t D a d else u D a d
theorem Za1{c:Expr}{a b:List Stmt}{i:TT}(p:PT X c i)(n:PSs X a t)(o:PSs X b u):PS X (.If c a b pos) (Zth i t u):=by
 intro f s g H D I h;refine wpAny_If<|thn (p f s g H _ I h) λd l ⟨m,j,k⟩=>?_
 cases d with
 |true=>exact n f l g m D j k
 |false=>exact o f l g m D j k
def Zp7:TS:=λ_ _ _=>False
theorem Zmw:PS X st Zp7:=λ_ _ _ _ _ _ h=>h.elim
end
abbrev TG:=V->St->Hp->(St->Hp->Prop)->Prop
abbrev TGs:=List V->St->Hp->(St->Hp->Prop)->Prop
def PG(X:Cx)(a:Expr)(t:TG):Prop :=
 ∀(b:List (Addr×Obj)) (s:Shared) (e:St) (H:Hp) (v:V) (u:Value) (Q:St->Hp->Prop),Inv X b e H s->RelV v u->t v e H Q →
  wpAny (model X.prog X.w) X.A (assign a X.env u) (λ_ f=>∃c d,Inv X b c d f/\Q c d) X.xe s
def PGs(X:Cx)(h:List Expr)(t:TGs):Prop :=
 ∀(a:List (Addr×Obj)) (s:Shared) (d:St) (H:Hp) (e:List V) (f:List Value) (Q:St->Hp->Prop),Inv X a d H s->Vals e f->t e d H Q →
  wpAny (model X.prog X.w) X.A (assignInOrder ((assignEach h X.env).map (·.2)) f) (λ_ g=>∃b c,Inv X a b c g/\Q b c) X.xe s
abbrev ZrR:=V->V->V->Hp->(Hp->Prop)->Prop
def ZsT(X:Cx)(t:ZrR):Prop :=
 ∀(a:List (Addr×Obj)) (s:Shared) (e:St) (H:Hp) (o i v:V) (d b u:Value) (Q:Hp->Prop),Inv X a e H s->RelV o d->RelV i b->RelV v u->t o i v H Q →
  wpAny (model X.prog X.w) X.A (setItem d b u) (λ_ f=>∃c,Inv X a e c f/\Q c) X.xe s
abbrev TIp:=V->V->Hp->VK->Prop
def PIp(X:Cx)(c:Operator)(t:TIp):Prop :=
 ∀(a:List (Addr×Obj)) (s:Shared) (b:St) (H:Hp) (x y:V) (v u:Value) (Q:VK),Inv X a b H s->RelV x v->RelV y u->t x y H Q →
  wpAny (model X.prog X.w) X.A (inplaceOp c v u) (EP X a b Q) X.xe s
section
variable{X:Cx}{pos:Pos}
def Zcm(i:Nat):TG:=λv a H Q=>Q (a.set i<|some v) H
theorem ZaL{i:Nat}{x:Str}(b:X.N.Nodup)(e:X.N[i]?=some x)(d:Loc X.env.scope x)(f:X.fn x=true\/X.env.scope.names.lookup x=some .local:=by first|exact .inl rfl|exact .inr rfl|assumption):PG X (.Name x pos) (Zcm i):=by
 intro a s j H v u Q I r h;exact wpAny_assign_Name<|Zds I b e d r (λg c=>⟨_,H,c,h⟩) f
def ZpV:TGs:=λa b H Q=>a=[]/\Q b H
inductive ZeM (t:TG) (u:TGs) (vs:List V) (σ:St) (H:Hp) (Q:St->Hp->Prop):Prop
 |mk (v:V) (r:List V) (_:vs=v::r) (_:t v σ H λσ' H'=>u r σ' H' Q):ZeM t u vs σ H Q
theorem Zej:PGs X [] ZpV:=by
 intro a s b H c d Q I r h;obtain ⟨e,h⟩:=h;subst e
 cases r
 exact assignInOrder_nil ⟨b,H,I,h⟩
theorem Zbp{e:Expr}{b:List Expr}{t:TG}{u:TGs}(n:PG X e t)(j:PGs X b u)
    (l:(assignEach (e::b) X.env).map (·.2)=assign e X.env::(assignEach b X.env).map (·.2):=by rfl):PGs X (e::b) (ZeM t u):=by
  intro a s o H p w Q I r h;obtain ⟨v,q,f,h⟩:=h;subst f
  cases r with
  | cons r d =>
    rw[l];refine assignInOrder_cons<|thn (n a s o H _ _ _ I r h) λ_ k ⟨c,m,g,i⟩=>?_;exact j a k c m _ _ Q g d i
inductive ZnH (K:ZZfg) (n:Nat) (t:TGs) (v:V) (σ:St) (H:Hp) (Q:St->Hp->Prop):Prop
 |mk (a:Addr) (xs:List V) (_:v = .ref a) (_:SqT K H a xs) (_:xs.length=n) (_:t xs σ H Q):ZnH K n t v σ H Q
theorem ZfT{d:List Expr}{k:Nat}{t:TGs}{n:Nat}(C:X.calm=true)(h:PGs X d t)
    (y:(assignEach d X.env).length=n:=by rfl) (g:(assignEach d X.env).findIdx? (·.1)=none:=by rfl):PG X (.Tuple d k pos) (ZnH X.K n t):=by
  intro c s j H v u Q I r f;obtain ⟨a,B,l,A,p,f⟩:=f;subst l
  cases r
  obtain ⟨m,i,x,D⟩:=I.tuple A;refine assign_Tuple_tuple (I.ok.hd C) x (by simp[y,<-p,i.length]) g λz q=>?_;have w:Inv X c j H { s with heap:=z }:=I.kept (t':=s.toks) λb o e=>q b o (Q8<|Heap.lt_size e) e;exact h c _ j H B _ Q w (by simpa using i) f
def Zti(b e:TE)(t:ZrR):TG:=λv a H Q=>b a H λo c=>e a c λi d=>t o i v d λf=>Q a f
theorem Zku{o i:Expr}{e f:TE}{t:ZrR}(g:PE X o e)(m:PE X i f)(D:ZsT X t)
    (j:∀v,assign (.Subscript o i pos) X.env v=(do
      let b ← holding [v] (eval o X.env)
      let c ← holding [v,b] (eval i X.env)
      standAt pos
      holding [v,b,c] (setItem b c v)
      release [v,b,c] []):=by intro _; rfl):PG X (.Subscript o i pos) (Zti e f t):=by
  intro a s d H v u Q I r h;rw[j];refine wpAny_bind<|wpAny_holding<|thn (g a s d H _ I h) λb n ⟨x,q,z,C,A⟩=>?_;refine wpAny_bind<|wpAny_holding<|thn (m a n d q _ z A) λc F ⟨y,k,G,B,p⟩=>?_;refine wpAny_bind<|wpAny_standAt<|wpAny_bind<|wpAny_holding<|thn (D a F d k x y v b c u _ G C B r p) λ_ J ⟨w,E,l⟩=>?_;exact wpAny_release ⟨d,w,E,l⟩
def ZrH(c:TE)(g:TG):TS:=λD a H=>c a H λx b=>g x a b D.nx
theorem Zkv{b e:Expr}{c:TE}{g:TG}(j:PE X e c)(f:PG X b g)(n:swapsWithSole [b] e pos.line X.env=pure false:=by rfl)(hw:swappedStores [b] e X.env=pure none:=by rfl)
    (p:(assignEach [b] X.env).map (·.2)=[assign b X.env]:=by rfl):PS X (.Assign [b] e pos) (ZrH c g):=by
  intro a s d H D I h;refine wpAny_Assign_stores (thn (j a s d H _ I h) λv m ⟨x,o,i,l,k⟩=>?_) n hw;rw[p];exact thn (f a m d o x v _ i l k) λ_ r q=>q
theorem ZaG{i:Nat}{x:Str}{e:Expr}{c:TE}{a:Pos}(d:X.N.Nodup)(l:X.N[i]?=some x)(f:Loc X.env.scope x)(g:PE X e c)(n:swapsWith e (some<|.Name x a) pos.line X.env=pure false:=by rfl)(q:X.fn x=true\/X.env.scope.names.lookup x=some .local:=by first | exact .inl rfl | exact .inr rfl | assumption) :
    PS X (.Assign [.Name x a] e pos) (ZrH c<|Zcm i):=by
  intro b s r H D I h;refine wpAny_Assign_Name (thn (g b s r H _ I h) λv t ⟨y,p,j,m,k⟩=>?_) n;exact Zds j d l f m (λu o=>⟨_,p,o,k⟩) q
def Ztj(i j:Nat)(b:TA):TS:=λD a H=>b a H λd c=>∃v w,d=[v,w]/\D.nx ((a.set i<|some v).set j<|some w) c
theorem Zp8{i j:Nat}{x y:Str}{a b:Expr}{z:TA}{l n g:Pos}{kt k2 pt2}(U:X.calm=true)(B:X.N.Nodup)(K:X.N[i]?=some x)(J:X.N[j]?=some y)(k:i≠j)
    (u:X.env.scope.names.lookup x=some .local) (t:X.env.scope.names.lookup y=some .local) (G:PA X [a,b] z)
    (hw:swappedStores [.Tuple [.Name x l,.Name y n] kt g] (.Tuple [a,b] k2 pt2) X.env=pure (some [x,y]))
    (R:swapsWithSole [.Tuple [.Name x l,.Name y n] kt g] (.Tuple [a,b] k2 pt2) pos.line X.env=pure false:=by rfl) :
    PS X (.Assign [.Tuple [.Name x l,.Name y n] kt g] (.Tuple [a,b] k2 pt2) pos) (Ztj i j z):=by
  intro c s E H D I h;rw[exec_Assign_arm];refine wpAny_bind<|wpAny_standAt ?_;rw[R];refine wpAny_bind<|wpAny_pure ?_;rw[if_neg ∅];refine wpAny_bind<|Tuple_<|thn (G _ c s E H _ I h) λM d ⟨W,A,O,Q,m⟩=>?_;obtain ⟨v,w,N,m⟩:=m;subst N;obtain ⟨u1,f,rfl,rv,rw'⟩:∃u1 f,M=[u1,f]/\RelV v u1/\RelV w f:=by
    cases Q with
    | cons p q =>
      cases q with
      | cons L F =>
        cases F
        exact ⟨_,_,rfl,p,L⟩
  refine wpAny_newObj_type ?_ (by show 2<=sizeLine; decide);have T:Inv X c E A { d with heap:=d.heap.push { cls:=.type "tuple", data:=.seq [u1,f].toArray } }:=O.kept (t':=d.toks) λb o e=>Heap.get?_push_of_some _ e;rw[hw];refine wpAny_bind<|wpAny_pure ?_;show wpAny (model X.prog X.w) X.A (do rule "assign.swapped-stores"; let items ← unpackItems (.ref d.heap.objs.size) 2 none; assignInOrder [λv=>bindName X.env y v,λv=>bindName X.env x v] items.reverse; pure Flow.next) _ _ _;refine wpAny_bind<|wpAny_rule<|wpAny_bind<|unpackItems_tuple (items:=#[u1,f]) (I.ok.hd U) (IsTup.new d.heap _) λh' r=>?_;have S:=T.kept (h':=h') (t':=d.toks) λb o e=>r b o (Q8<|Heap.lt_size e) e;show wpAny _ _ (assignInOrder [λv=>bindName X.env y v,λv=>bindName X.env x v] [f,u1] >>= λ_=>pure Flow.next) _ _ _;refine wpAny_bind<|assignInOrder_cons<|wpAny_bindName<|Zds S B J (.inl t) rw' (λY P=>?_)<|.inr t;refine assignInOrder_cons<|wpAny_bindName<|Zds P B K (.inl u) rv (λZ C=>assignInOrder_nil<|wpAny_pure ?_)<|.inr u;rw[List.set_comm _ _<|Ne.symm k] at C;exact ⟨_,A,C,m⟩
def Ztk(i:Nat)(d:TE)(b:TIp):TS:=λD a H=>∃x,a[i]?=some (some x)/\d a H λy c=>b x y c λz e=>D.nx (a.set i<|some z) e
theorem ZiW{i:Nat}{x:Str}{e:Expr}{o:TE}{n:Operator}{p:TIp}{b:Pos}(N:X.N.Nodup)(q:X.N[i]?=some x)(g:Loc X.env.scope x)(F:PE X e o)(B:PIp X n p)(M:X.fn x=true\/X.env.scope.names.lookup x=some .local:=by first | exact .inl rfl | exact .inr rfl | assumption) :
    PS X (.AugAssign (.Name x b) n e pos) (Ztk i o p):=by
  intro a s A H D I h;obtain ⟨v,O,h⟩:=h;obtain ⟨m,G,C⟩:=I.loc;have j:Vis X.env.scope x:=by rcases g with k | k; exact .inl k; exact .inr<|.inl k
  obtain ⟨u,r,l⟩:=C i x v q O j;refine wpAny_AugAssign_Name ?_;have t:wpAny (model X.prog X.w) X.A (eval e X.env) (λw d=>wpAny (model X.prog X.w) X.A (inplaceOp n u w) (λr f=>wpAny (model X.prog X.w) X.A (storeName X.env x r) (λ_=>SP X a D .next) X.xe f) X.xe d) X.xe s:=by
    refine thn (F a s A H _ I h) λw J ⟨y,L,P,S,Q⟩=>?_;refine thn (B a J A L v y u w _ P r S Q) λz Y ⟨W,E,U,R,K⟩=>?_;exact Zds U N q g R (λZ T=>⟨_,E,T,K⟩) M
  rcases l with ⟨hk,hm⟩ | ⟨hk,c,hc,hcell⟩
  · exact wpAny_loadName_local I.ok.kind hk G hm t
  · rcases hk with hk | hk
    · exact wpAny_loadName_cell I.ok.kind hk hc hcell t
    · rcases g with k | k
      · have:X.env.scope.names.lookup x=some .free:=hk
        rw[k] at this; cases this
      · have:X.env.scope.names.lookup x=some .free:=hk
        rw[k] at this; cases this
def ipI(f:Int->Int->Int):TIp:=λx y H Q=>∃i j,x = .int i/\y = .int j/\Q (.int<|f i j) H
theorem ZnI:PIp X .Add (ipI λi j=>i+j):=by
 intro a s g H x y v u Q I d c h;obtain ⟨i,j,b,e,q⟩:=h;subst b;subst e;obtain ⟨t,rfl⟩:=d;obtain ⟨f,rfl⟩:=c;exact iadd_int ⟨.int _,H,I.tok _,⟨_,rfl⟩,q⟩
theorem Zp9:PIp X .Sub (ipI λi j=>i-j):=by
 intro a s g H x y v u Q I d c h;obtain ⟨i,j,b,e,q⟩:=h;subst b;subst e;obtain ⟨t,rfl⟩:=d;obtain ⟨f,rfl⟩:=c;exact isub_int ⟨.int _,H,I.tok _,⟨_,rfl⟩,q⟩
def Zqa(c:TT)(h:TS):TS:=λD a H=>∃W:Nat->St->Hp->Prop,(∃m,W m a H)/\∀m a H,W m a H →
 c a H λb g=>if b=true then ∃N:St->Hp->Prop,(∀d f,N d f->∃e,e<m/\W e d f)/\h { D with nx:=N,ct:=N,bk:=D.nx } a g else D.nx a g
theorem Zcn{c:Expr}{body:List Stmt}{t:TT}{z:TS}(hp:PassesOwn (model X.prog X.w) X.A X.env X.xe)(O:PT X c t)(G:PSs X body z):PS X (.While c body [] pos) (Zqa t z):=by
 intro a s M H D I h;obtain ⟨W,⟨J,F⟩,g⟩:=h;refine wpAny_While<|codeAny_whileLoop (λn B=>∃j w,Inv X a j w B/\W n j w) ?_ J ⟨M,H,I,F⟩;rintro n C ⟨e,x,K,E⟩;refine wpAny_passesOwn hp<|thn (O a C e x _ K<|g n e x E) λb L ⟨u,A,l⟩=>?_
 cases b with
 |true =>
  obtain ⟨N,y,l⟩:=l;rw[if_pos rfl];refine wpAny_passesOwn hp<|thn (G a L e u _ A l) λf P k=>?_
  cases f with
  |next =>
   obtain ⟨d,i,q,p⟩:=k;obtain ⟨m,o,r⟩:=y d i p;exact ⟨m,o,d,i,q,r⟩
  |cont =>
   obtain ⟨d,i,q,p⟩:=k;obtain ⟨m,o,r⟩:=y d i p;exact ⟨m,o,d,i,q,r⟩
  |brk=>exact k
  |ret v=>exact k
 |false =>
  rw[if_neg Qg];exact wpAny_execs_nil ⟨e,u,A,l⟩
end
structure It where
 go:Nat->Hp->Prop
 yld:Nat->Hp->V->Hp->Prop
 stop:Nat->Hp->Prop
def ZhP(X:Cx)(a:List (Addr×Obj))(H:Hp)(b:Addr):Prop :=
 H b=none/\b≠X.env.locals/\b∉X.fs/\(b∈X.ex\/X.s₀.heap.objs.size<=b)/\(∀x c,X.env.cells.lookup x=some c->c≠b)/\∀p∈X.pn++a,p.1≠b
theorem Inv.fpOk{X:Cx}{a:List (Addr×Obj)}{i:St}{H f:Hp}{s:Shared}{b:Addr}(I:Inv X a i H s)(d:s.heap.objs.size<=b)(g:f b=none):ZhP X a f b:=by
 refine ⟨g,Wi<|Q5 I.lt d,I.nofs d,.inr<|Q1 I.sz d,λx c e z=>?_,λp h z=>?_⟩
 ·obtain ⟨v,q⟩:=I.cell x c e;exact absurd (Q5 q.lt (by rw[z];exact d))<|Qf _
 ·exact absurd (Q5 (Heap.lt_size (I.pin p h).1) (by rw[z];exact d)) (Qf _)
structure Turn (P:Program) (w:World) (K:ZZfg) (tg:Expr) (J:It) (fp:ZZla) (it:Addr) (tn:Nat->Heap->Prop):Prop where
 mem:it∈fp
 obj:∀i h,tn i h->∀b∈fp,∃o,h.get? b=some o/\∀v,o.data ≠ .cell v
 keep:∀i h h',tn i h->(∀b∈fp,∀o,h.get? b=some o->h'.get? b=some o)->tn i h'
 item:∀(X:Cx),X.prog=P->X.w=w->X.K=K->X.calm=true->∀(i:Nat) (pins:List (Addr×Obj)) (s:Shared) (σ:St) (H:Hp) (E:Value->Shared->Prop),Inv X pins σ H s->(∀b∈fp,ZhP X pins H b)->tn i s.heap->J.go i H →
  wpAny (model P w) X.A (pyNext (.ref it)) (λr s1=>∃u,r=some u ∧
   wpAny (model P w) X.A (letOwnedTupleGo tg (.ref it) u) (λ_ s2=>∃x H',Inv X pins σ H' s2/\RelV x u/\J.yld i H x H'/\tn (i+1) s2.heap/\∀b∈fp,H' b=none) E s1) E s
 done:∀(X:Cx),X.prog=P->X.w=w->X.K=K->X.calm=true->∀(i:Nat) (pins:List (Addr×Obj)) (s:Shared) (σ:St) (H:Hp) (E:Value->Shared->Prop),Inv X pins σ H s->(∀b∈fp,ZhP X pins H b)->tn i s.heap->J.stop i H →
  wpAny (model P w) X.A (pyNext (.ref it)) (λr s1=>r=none/\Inv X pins σ H s1) E s
 self:∀(A:Around) (i:Nat) (s:Shared) (Q:Value->Shared->Prop) (E:Value->Shared->Prop),tn i s.heap->Q (.ref it) s->wpAny (model P w) A (pyIter (.ref it)) Q E s
abbrev TI:=St->Hp->(It->Hp->Prop)->Prop
def PIE(X:Cx)(a:List (Addr×Obj))(j:St)(i:Expr)(R:It->Hp->Prop)(d:Value)(f:Shared):Prop :=
 ∃(g:Addr) (e:ZZla) (h:Nat->Heap->Prop) (J:It) (c:Hp),d = .ref g/\Inv X a j c f/\Turn X.prog X.w X.K i J e g h/\h 0 f.heap/\(∀b∈e,ZhP X a c b)/\R J c
def PI(X:Cx)(d b:Expr)(f:TI):Prop :=
 ∀(a:List (Addr×Obj)) (s:Shared) (c:St) (H:Hp) (R:It->Hp->Prop),Inv X a c H s->f c H R →
  wpAny (model X.prog X.w) X.A (eval b X.env) (λv e=>wpAny (model X.prog X.w) X.A (pyIter v) (PIE X a c d R) X.xe e) X.xe s
theorem Zkw{M:Model}{A:Around}{E:Value->Shared->Prop}{s:Shared}{b:Expr}{it:Addr}{u:Value}{o:Obj}{n:String}{vs:Array Value}{Q:Unit->Shared->Prop}(c:s.heap.get? it=some o)(f:o.cls = .type n)(e:o.data = .fields vs)
    (d:["enumerate", "zip", "dict_itemiterator", "dict_reverseitemiterator", "odict_iterator", "itertools.zip_longest", "itertools.pairwise"].contains n=false) (a:Q () s):wpAny M A (letOwnedTupleGo b (.ref it) u) Q E s:=by
  unfold letOwnedTupleGo
  cases b <;> first
    | exact wpAny_pure a
    | (cases u <;> first
        | exact wpAny_pure a
        | (refine wpAny_bind<|wpAny_load c ?_
           rw[f,e];show wpAny M A (if (["enumerate", "zip", "dict_itemiterator", "dict_reverseitemiterator", "odict_iterator", "itertools.zip_longest", "itertools.pairwise"].contains n&&vs[0]?==some (rawInt _))=true then _ else _) Q E s;rw[if_neg (by intro h; rw[d,Bool.false_and] at h; cases h)];exact wpAny_pure a))
def Itl(K:ZZfg)(a:Addr):It :=
 ⟨λi H=>∃b x,SqL K H a b/\b[i]?=some x,λi H x c=>c=H/\∀b,SqL K H a b->b[i]?=some x,λi H=>∃b,SqL K H a b/\b.length<=i⟩
def Itt(K:ZZfg)(a:Addr):It :=
 ⟨λi H=>∃b x,SqT K H a b/\b[i]?=some x,λi H x c=>c=H/\∀b,SqT K H a b->b[i]?=some x,λi H=>∃b,SqT K H a b/\b.length<=i⟩
def Itr(lo:Int)(n:Nat):It:=⟨λi _=>i<n,λi H x a=>a=H/\x = .int (lo+i),λi _=>n<=i⟩
theorem Zkx{P:Program}{w:World}{K:ZZfg}{Q:Expr}(a it:Addr):Turn P w K Q (Itl K a) [it] it (λi h=>h.IsListIter it a i) where
 mem:=by simp
 obj:=λi h f b j=>by
  have e:b=it:=by simpa using j
  subst e;obtain ⟨o,e,c,d⟩:=f;exact ⟨o,e,λv z=>by rw[d] at z;cases z⟩
 keep:=λi h n f k=>f.at λo e=>k it (by simp) o e
 item:=by
  intro X A C L O i g s N H E I m f G;subst A C L;obtain ⟨W,x,q,t⟩:=G;obtain ⟨F,r,p,hz⟩:=I.list q;obtain ⟨u,U,S⟩:=r.get t;obtain ⟨B,J,T,M,y,D⟩:=m it (by simp);refine wpAny_pyNext_list_item f p.isList (x:=u) (by simpa using U) λn l sb=>?_;have Z:Inv X g N H { s with heap:=n }:=I.turned (t':=s.toks) (λb o j e=>(sb.2 b j).trans e) B J M y D;obtain ⟨o,e,c,d⟩:=id l;exact ⟨u,rfl,Zkw (s:={ s with heap:=n }) e c d ∅ ⟨x,H,Z,S,⟨rfl,λys R=>by rw[I.list_inj R q];exact t⟩,l,λb j=>(m b j).1⟩⟩
 done:=by
  intro X A C L O i g s N H E I m f G;subst A C L;obtain ⟨W,q,t⟩:=G;obtain ⟨F,r,p,hz⟩:=I.list q;obtain ⟨B,J,T,M,y,D⟩:=m it (by simp);have hl:=r.length;exact wpAny_pyNext_list_end (I.ok.hd O) f p.isList (by simp;omega) λn Y=>⟨rfl,I.turned (t':=s.toks) (λb o j e=>Y b o j e) B J M y D⟩
 self:=λ_ _ _ _ _ f h=>wpAny_pyIter_listiter f h
theorem ZjI{P:Program}{w:World}{K:ZZfg}{Q:Expr}(a it:Addr):Turn P w K Q (Itt K a) [it] it (λi h=>h.IsTupleIter it a i) where
 mem:=by simp
 obj:=λi h f b j=>by
  have e:b=it:=by simpa using j
  subst e;obtain ⟨o,e,c,d⟩:=f;exact ⟨o,e,λv z=>by rw[d] at z;cases z⟩
 keep:=λi h q f k=>f.at λo e=>k it (by simp) o e
 item:=by
  intro X B D L O i g s N H E I n f G;subst B D L;obtain ⟨W,x,r,y⟩:=G;obtain ⟨l,t,p,hz⟩:=I.tuple r;obtain ⟨u,U,S⟩:=t.get y;obtain ⟨C,J,T,M,A,F⟩:=n it (by simp);refine wpAny_pyNext_tuple_item f (show s.heap.IsTuple a l.toArray from p) (x:=u) (by simpa using U) λq m sb=>?_;have Z:Inv X g N H { s with heap:=q }:=I.turned (t':=s.toks) (λb o j e=>(sb.2 b j).trans e) C J M A F;obtain ⟨o,e,c,d⟩:=id m;exact ⟨u,rfl,Zkw (s:={ s with heap:=q }) e c d ∅ ⟨x,H,Z,S,⟨rfl,λys R=>by rw[I.tuple_inj R r];exact y⟩,m,λb j=>(n b j).1⟩⟩
 done:=by
  intro X B D L O i g s N H E I n f G;subst B D L;obtain ⟨W,r,y⟩:=G;obtain ⟨l,t,p,hz⟩:=I.tuple r;obtain ⟨C,J,T,M,A,F⟩:=n it (by simp);have hl:=t.length;exact wpAny_pyNext_tuple_end (I.ok.hd O) f (show s.heap.IsTuple a l.toArray from p) (by simp;omega) λq Y=>⟨rfl,I.turned (t':=s.toks) (λb o j e=>Y b o j e) C J M A F⟩
 self:=λ_ _ _ _ _ f h=>wpAny_pyIter_tupleiter f h
theorem ZjJ{P:Program}{w:World}{K:ZZfg}{F:Expr}(it:Addr)(lo:Int)(n:Nat):Turn P w K F (Itr lo n) [it] it (λi h=>IsRangeIter h it (lo+(i:Nat)*1) ((n:Int)-(i:Nat)) 1) where
 mem:=by simp
 obj:=λi h a b d=>by
  have e:b=it:=by simpa using d
  subst e;exact ⟨_,a,λv z=>by
   have J:Data.fields _=Data.cell v:=z
   cases J⟩
 keep:=λi h j a k=>k it (by simp) _ a
 item:=by
  intro X m q y B i c s D H E I g a u;subst m q y;obtain ⟨p,x,L,A,l,r⟩:=g it (by simp);have W:=Walks.range (prog:=X.prog) (w:=X.w) (I.ok.hd B) it lo 1 n;refine W.item i s _ _ u a λv j C G f M=>?_;obtain ⟨t,rfl⟩:=G;have O:Inv X c D H { s with heap:=j,toks:=C }:=I.turned (λb o d e=>M b o (by simpa using d) e) p x A l r;refine ⟨_,rfl,Zkw (s:={ s with heap:=j,toks:=C }) (n :="range_iterator") f rfl rfl ∅ ⟨.int<|lo+i,H,O,⟨t,?_⟩,⟨rfl,rfl⟩,f,λb d=>(g b d).1⟩⟩;rw[Wo]
 done:=by
  intro X m q y B i c s D H E I g a u;subst m q y;obtain ⟨p,x,L,A,l,r⟩:=g it (by simp);exact wpAny_pyNext_range_end (I.ok.hd B) a (by have:n<=i:=u;omega) λj N=>⟨rfl,I.turned (t':=s.toks) (λb o d e=>N b o d e) p x A l r⟩
 self:=λ_ _ _ _ _ a h=>wpAny_pyIter_rangeiter a h
section
variable{X:Cx}{tg:Expr}
inductive ZnJ (K:ZZfg) (x:V) (H1:Hp) (R:It->Hp->Prop):Prop
 |mk (a:Addr) (_:x = .ref a) (_:(∃xs,SqL K H1 a xs)) (_:R (Itl K a) H1):ZnJ K x H1 R
def ZrS(K:ZZfg)(a:TE):TI:=λb H R=>a b H λx c=>ZnJ K x c R
def Ztl(K:ZZfg)(c:TE):TI:=λe H R=>c e H λx b=>∃a,x = .ref a/\(∃d,SqT K b a d)/\R (Itt K a) b
theorem Zf8{l:Expr}{g:TE}(j:PE X l g):PI X tg l (ZrS X.K g):=by
 intro c s u H R I h;refine thn (j c s u H _ I h) λv f ⟨x,r,d,m,k⟩=>?_;obtain ⟨a,e,⟨z,n⟩,q⟩:=k;subst e
 cases m
 obtain ⟨i,w,p,y⟩:=d.list n;refine wpAny_pyIter_list p.isList ?_;refine ⟨f.heap.objs.size,[f.heap.objs.size],_,_,r,rfl,d.kept (t':=f.toks) λb o e=>Heap.get?_push_of_some _ e,Zkx a _,⟨_,Heap.get?_push_size _ rfl,rfl,rfl⟩,λb t=>?_,q⟩;have e:b=f.heap.objs.size:=by simpa using t
 subst e;exact d.fpOk (Q2 _)<|d.hok.fresh<|Q2 _
theorem Zqb{l:Expr}{i:TE}(j:PE X l i):PI X tg l (Ztl X.K i):=by
 intro d s u H R I h;refine thn (j d s u H _ I h) λv c ⟨x,r,f,m,k⟩=>?_;obtain ⟨a,e,⟨z,n⟩,q⟩:=k;subst e
 cases m
 obtain ⟨g,w,p,y⟩:=f.tuple n;refine wpAny_pyIter_tuple (show c.heap.IsTuple a g.toArray from p) ?_;refine ⟨c.heap.objs.size,[c.heap.objs.size],_,_,r,rfl,f.kept (t':=c.toks) λb o e=>Heap.get?_push_of_some _ e,ZjI a _,⟨_,Heap.get?_push_size _ rfl,rfl,rfl⟩,λb t=>?_,q⟩;have e:b=c.heap.objs.size:=by simpa using t
 subst e;exact f.fpOk (Q2 _)<|f.hok.fresh<|Q2 _
theorem ZiX{c:List (Addr×Obj)}{g:St}{H:Hp}{s:Shared}{R:It->Hp->Prop}{E:Value->Shared->Prop}{lo a:Int}{t u v:Tok}{d:Nat}(I:Inv X c g H s)(m:-(2^62)<=lo)(i:lo<2^62)(l:-(2^62)<=a)(k:a<2^62)
    (q:R (Itr lo (a-lo).toNat) H):wpAny (model X.prog X.w) X.A (pyIter<|.ref s.heap.objs.size) (PIE X c g tg R) E { s with heap:=s.heap.push { cls:=.type "range", data:=.fields #[.int lo t,.int a u,.int 1 v] },toks:=d }:=by
  refine wpAny_pyIter_range (IsRange.new ..) (small_one m i l k) ?_;have f:Inv X c g H { s with heap:=s.heap.push { cls:=.type "range", data:=.fields #[.int lo t,.int a u,.int 1 v] },toks:=d }:=I.kept λb o e=>Heap.get?_push_of_some _ e;refine ⟨(s.heap.push { cls:=.type "range", data:=.fields #[.int lo t,.int a u,.int 1 v] }).objs.size,[(s.heap.push { cls:=.type "range", data:=.fields #[.int lo t,.int a u,.int 1 v] }).objs.size],_,_,H,rfl,
    f.kept (t':=d) λb o e=>Heap.get?_push_of_some _ e,ZjJ _ lo (a-lo).toNat,?_,λb n=>?_,q⟩
  · have h:lo+((0:Nat):Int)*1=lo:=by simp
    have j:(((a-lo).toNat:Nat):Int)-((0:Nat):Int)=Builtin.Range.rangeSize lo a 1:=by rw[rangeSize_one]; split <;> omega
    show IsRangeIter _ _ (lo+((0:Nat):Int)*1) ((((a-lo).toNat:Nat):Int)-((0:Nat):Int)) 1;rw[h,j];exact Heap.get?_push_size _ rfl
  · have e:b=(s.heap.push { cls:=.type "range", data:=.fields #[.int lo t,.int a u,.int 1 v] }).objs.size:=by simpa using n
    subst e;exact f.fpOk (Q2 _)<|f.hok.fresh<|Q2 _
inductive ZnK (vs:List V) (H1:Hp) (R:It->Hp->Prop):Prop
 |mk (j:Int) (_:vs=[.int j]) (_:-(2^62)<=j) (_:j<2^62) (_:R (Itr 0 j.toNat) H1):ZnK vs H1 R
def ZrT(b:TA):TI:=λa H R=>b a H λd c=>ZnK d c R
inductive ZnL (vs:List V) (H1:Hp) (R:It->Hp->Prop):Prop
 |mk (i j:Int) (_:vs=[.int i,.int j]) (_:(-(2^62)<=i/\i<2^62 /\ -(2^62)<=j/\j<2^62)) (_:R (Itr i (j-i).toNat) H1):ZnL vs H1 R
def ZrU(b:TA):TI:=λa H R=>b a H λd c=>ZnL d c R
theorem Zc9{a:Expr}{f:TA}{p b:Pos}(i:Gl X "range") (m:X.mg "range"=none) (k:PA X [a] f) (o:starEach [a] X.env=[(false,eval a X.env)]:=by rfl):PI X tg (.Call (.Name "range" p) [a] [] b) (ZrT f):=by
 intro c s v H R I h;refine Call_<|ZdE I i m boot_range<|PyProof.Rows.callWith_type1 (thn (k b c s v H _ I h) λz x ⟨w,y,l,n,d⟩=>?_) o rfl;obtain ⟨j,e,d,u,q⟩:=d;subst e
 cases n with
 |cons r g =>
  cases g
  obtain ⟨t,rfl⟩:=r;exact call_range_1<|ZiX l ⋯ ⋯ d u (by simpa using q)
theorem Zky{a b:Expr}{l:TA}{p c:Pos}(w:Gl X "range") (y:X.mg "range" = none) (m:PA X [a,b] l) (A:starEach [a,b] X.env=[(false,eval a X.env),(false,eval b X.env)]:=by rfl) (d:starEach [b] X.env=[(false,eval b X.env)]:=by rfl) :
    PI X tg (.Call (.Name "range" p) [a,b] [] c) (ZrU l):=by
  intro f s B H R I h;refine Call_<|ZdE I w y boot_range<|PyProof.Rows.callWith_type1 (thn (m c f s B H _ I h) λE C ⟨G,D,x,z,k⟩=>?_) (by rw[A,d]) (by rw[d]; rfl);obtain ⟨i,j,e,⟨k,v,n,o⟩,q⟩:=k;subst e
  cases z with
  | cons r g =>
    cases g with
    | cons u g =>
      cases g
      obtain ⟨t,rfl⟩:=r;obtain ⟨F,rfl⟩:=u;exact call_range_2<|ZiX x k v n o q
def Ztm(k:TI)(g:TG)(f:TS):TS:=λD a H=>k a H λJ h=>∃W:Nat->Nat->St->Hp->Prop,(∃m,W 0 m a h)/\∀i m a H,W i m a H →
 (J.stop i H/\D.nx a H)\/(J.go i H/\∃N:St->Hp->Prop,(∀c b,N c b->∃e,e<m/\W (i+1) e c b)/\∀x b,J.yld i H x b->g x a b λd j=>f { D with nx:=N,ct:=N,bk:=D.nx } d j)
def ZiY(a:ZZla)(h:Heap):List (Addr×Obj):=a.filterMap λb=>(h.get? b).map λo=>(b,o)
theorem Za7{a:ZZla}{h:Heap}{b:Addr}{o:Obj}(c:b∈a)(e:h.get? b=some o):(b,o)∈ZiY a h:=Uy.mpr ⟨b,c,by rw[e];rfl⟩
theorem Zkz{a:ZZla}{h:Heap}{p:Addr×Obj}(hp:p∈ZiY a h):p.1∈a/\h.get? p.1=some p.2:=by
 obtain ⟨b,d,e⟩:=Uy.mp hp
 cases q:h.get? b with
 |none=>rw[q] at e;cases e
 |some o =>
  rw[q] at e;have c:(b,o)=p:=Option.some.inj e;subst c;exact ⟨d,q⟩
theorem Inv.pinned{a:List (Addr×Obj)}{f:St}{H:Hp}{s:Shared}{c:ZZla}(I:Inv X a f H s)(n:∀b∈c,ZhP X a H b)(i:∀b∈c,∃o,s.heap.get? b=some o/\∀v,o.data ≠ .cell v):Inv X (a++ZiY c s.heap) f H s :=
 I.pins_of λp j=>(W6.mp j).elim (λz=>I.pin p<|Qb _ z) λz=>by
  obtain ⟨g,e⟩:=Zkz z;obtain ⟨l,m,k,_⟩:=n p.1 g;obtain ⟨o,h,d⟩:=i p.1 g;rw[e] at h;cases h;exact ⟨e,l,m,k,d⟩
theorem Inv.unpinned{a pl:List (Addr×Obj)}{b:St}{H:Hp}{s:Shared}(I:Inv X (a++pl) b H s):Inv X a b H s:=I.pins_of λp c=>I.pin p<|Qb _<|Wn _ c
theorem ZdY{p:Expr}{body:List Stmt}{wi:TI}{g:TG}{tb:TS}{S:Pos}(hp:PassesOwn (model X.prog X.w) X.A X.env X.xe)(hc:X.calm=true)(hi:PI X tg p wi)(hg:PG X tg g)(t:PSs X body tb)
    (hs:∀x,foldedSetIterable p X.env x=pure x:=by intro _; rfl):PS X (.For tg p body [] S) (Ztm wi g tb):=by
  intro a s σ H D I h;refine wpAny_For (thn (hi a s σ H _ I h) λv s1 h1=>thn h1 λa0 s2 h2=>?_) hs;obtain ⟨it,C,Y,J,H2,e,I2,T,M,f2,W,⟨m0,w0⟩,F⟩:=h2;subst e;have q:∀ {z:Hp},(∀b∈C,z b=none)->∀b∈C,ZhP X a z b:=λhn b t=>⟨hn b t,(f2 b t).2⟩;refine codeAny_forLoop_any (λn s'=>∃i w z,Inv X a w z s'/\Y i s'.heap/\(∀b∈C,z b=none)/\W i n w z) ?_ m0 ⟨0,σ,H2,I2,M,λb t=>(f2 b t).1,w0⟩;rintro n s3 ⟨i,y,L,I3,K,E,w3⟩;rcases F i n y L w3 with ⟨stop,qn⟩ | ⟨go,N,hN,step⟩
  · refine wpAny_passesOwn hp (thn (T.done X rfl rfl rfl hc i a s3 y L X.xe I3 (q E) K stop) λr s4 ⟨R,I4⟩=>?_)
    subst R;exact wpAny_execs_nil ⟨y,L,I4,qn⟩
  · refine wpAny_passesOwn hp (thn (T.item X rfl rfl rfl hc i a s3 y L X.xe I3 (q E) K go) λr s4 ⟨u,R,h4⟩=>?_)
    subst R;refine wpAny_passesOwn hp<|thn h4 λ_ s5 ⟨x,Z,I5,r5,y5,B,O⟩=>?_;have U:=I5.pinned (q O)<|T.obj _ _ B;refine wpAny_passesOwn hp<|thn (hg _ s5 y Z x u _ U r5<|step x Z y5) λ_ s6 ⟨Q,H6,I6,q6⟩=>?_;refine wpAny_passesOwn hp<|thn (t _ s6 Q H6 _ I6 q6) λf P A=>?_;have j:∀ {c:St} {k:Hp},Inv X (a++ZiY C s5.heap) c k P->N c k->∃m,m<n/\∃i w z,Inv X a w z P/\Y i P.heap/\(∀b∈C,z b=none)/\W i m w z:=fun {c k} l G=>by
      obtain ⟨m',hm,w7⟩:=hN c k G;refine ⟨m',hm,i+1,c,k,l.unpinned,T.keep _ _ _ B λb t o e=>(l.pin (b,o)<|Qb _<|Qb _<|Za7 t e).1,λb t=>?_,w7⟩;obtain ⟨o,e,d⟩:=T.obj _ _ B b t;exact (l.pin (b,o)<|Qb _<|Qb _<|Za7 t e).2.1
    cases f with
    | next=>obtain ⟨c,k,l,G⟩:=A; exact j l G
    | cont=>obtain ⟨c,k,l,G⟩:=A; exact j l G
    | brk=>obtain ⟨c,k,l,A⟩:=A; exact ⟨c,k,l.unpinned,A⟩
    | ret v=>obtain ⟨x7,c,k,l,r7,A⟩:=A; exact ⟨x7,c,k,l.unpinned,r7,A⟩
end
theorem ZiZ{K:ZZfg}{a:Addr}{xs:List V}{g:TG}{l:TS}{D:Ends}{b:St}{H:Hp}(c:Nat->St->Hp->Prop)(u:c 0 b H)(n:∀i b H,i<=xs.length->c i b H->SqL K H a xs)
    (r:∀i x b H,xs[i]?=some x->c i b H->g x b H λd j=>l { D with nx:=c<|i+1,ct:=c<|i+1,bk:=D.nx } d j) (t:∀b H,c xs.length b H->D.nx b H) :
    ∃W:Nat->Nat->St->Hp->Prop,(∃m,W 0 m b H)/\∀i m b H,W i m b H →
      ((Itl K a).stop i H/\D.nx b H)\/((Itl K a).go i H/\∃N:St->Hp->Prop,(∀f h,N f h->∃k,k<m/\W (i+1) k f h)/\∀x h,(Itl K a).yld i H x h->g x b h λd j=>l { D with nx:=N,ct:=N,bk:=D.nx } d j):=by
  refine ⟨λi m b H=>m=xs.length-i/\i<=xs.length/\c i b H,⟨xs.length,by simp,Q6 _,u⟩,?_⟩;rintro i m b H ⟨rfl,o,p⟩;have q:=n i b H o p
  by_cases hlt:i<xs.length
  · refine .inr ⟨⟨xs,xs[i],q,by simp[hlt]⟩,c<|i+1,λf h s=>⟨xs.length-(i+1),⋯,rfl,hlt,s⟩,λx h y=>?_⟩
    obtain ⟨e,y⟩:=y;subst e;exact r i x b _ (y xs q) p
  · have e:i=xs.length:=⋯
    subst e;exact .inl ⟨⟨xs,q,Q2 _⟩,t b H p⟩
theorem Ze3{lo:Int}{n:Nat}{g:TG}{k:TS}{D:Ends}{a:St}{H:Hp}(f:Nat->St->Hp->Prop)(r:f 0 a H)
    (l:∀i a H,i<n->f i a H->g (.int<|lo+i) a H λb h=>k { D with nx:=f<|i+1,ct:=f<|i+1,bk:=D.nx } b h) (q:∀a H,f n a H->D.nx a H) :
    ∃W:Nat->Nat->St->Hp->Prop,(∃m,W 0 m a H)/\∀i m a H,W i m a H →
      ((Itr lo n).stop i H/\D.nx a H)\/((Itr lo n).go i H/\∃N:St->Hp->Prop,(∀c d,N c d->∃j,j<m/\W (i+1) j c d)/\∀x d,(Itr lo n).yld i H x d->g x a d λb h=>k { D with nx:=N,ct:=N,bk:=D.nx } b h):=by
  refine ⟨λi m a H=>m=n-i/\i<=n/\f i a H,⟨n,by simp,Q6 _,r⟩,?_⟩;rintro i m a H ⟨rfl,s,p⟩
  by_cases hlt:i<n
  · refine .inr ⟨hlt,f<|i+1,λc d o=>⟨n-(i+1),⋯,rfl,hlt,o⟩,λx d y=>?_⟩
    obtain ⟨e,y⟩:=y;subst e y;exact l i a _ hlt p
  · have e:i=n:=⋯
    subst e;exact .inl ⟨Q2 _,q a H p⟩
abbrev R2:=V->V->Hp->VK->Prop
def OpR(X:Cx)(f:Value->Value->Sem Value)(r:R2):Prop :=
 ∀(a:List (Addr×Obj)) (s:Shared) (b:St) (H:Hp) (x y:V) (v u:Value) (Q:VK),Inv X a b H s->RelV x v->RelV y u->r x y H Q →
  wpAny (model X.prog X.w) X.A (f v u) (EP X a b Q) X.xe s
def UnR(X:Cx)(f:Value->Sem Value)(r:V->Hp->VK->Prop):Prop :=
 ∀(a:List (Addr×Obj)) (s:Shared) (b:St) (H:Hp) (x:V) (v:Value) (Q:VK),Inv X a b H s->RelV x v->r x H Q →
  wpAny (model X.prog X.w) X.A (f v) (EP X a b Q) X.xe s
def ZdZ(X:Cx)(f:Value)(r:List V->Hp->VK->Prop):Prop :=
 ∀(a:List (Addr×Obj)) (s:Shared) (c:St) (H:Hp) (b:List V) (d:List Value) (Q:VK),Inv X a c H s->Vals b d->r b H Q →
  wpAny (model X.prog X.w) X.A (call f d) (EP X a c Q) X.xe s
def tOp(r:R2)(b c:TE):TE:=λa H Q=>b a H λx d=>c a d λy e=>r x y e Q
def tUn(r:V->Hp->VK->Prop)(b:TE):TE:=λa H Q=>b a H λx c=>r x c Q
inductive rI (C:Int->Int->Prop) (g:Int->Int->V) (x y:V) (H:Hp) (Q:VK):Prop
 |mk (i j:Int) (_:x = .int i) (_:y = .int j) (_:C i j) (_:Q (g i j) H):rI C g x y H Q
inductive rI0 (g:Int->Int->V) (x y:V) (H:Hp) (Q:VK):Prop
 |mk (i j:Int) (_:x = .int i) (_:y = .int j) (_:Q (g i j) H):rI0 g x y H Q
inductive rU (g:Int->V) (x:V) (H:Hp) (Q:VK):Prop
 |mk (i:Int) (_:x = .int i) (_:Q (g i) H):rU g x H Q
section
variable{X:Cx}{a b c:Expr}{ta tb tc:TE}{pos:Pos}
theorem ZrV(m:PE X a ta)(A:PE X b tb){d:List (Addr×Obj)}{s:Shared}{g:St}{H:Hp}{R:V->V->Hp->Prop}(I:Inv X d g H s)
    (h:ta g H λx l=>tb g l λy e=>R x y e) {Q:Value->Shared->Prop} {f:Value->Value->Sem Value}
    (z:∀v u k x y e,Inv X d g e k->RelV x v->RelV y u->R x y e->wpAny (model X.prog X.w) X.A (f v u) Q X.xe k) :
    wpAny (model X.prog X.w) X.A (eval a X.env) (λv j=>wpAny (model X.prog X.w) X.A (eval b X.env) (λu i=>wpAny (model X.prog X.w) X.A (f v u) Q X.xe i) X.xe j) X.xe s:=by
  refine thn (m d s g H _ I h) λv r ⟨x,l,n,q,o⟩=>?_;refine thn (A d r g l _ n o) λu k ⟨y,e,w,p,t⟩=>?_;exact z v u k x y e w q p t
theorem Zam{e:Operator}{r:R2}(f:OpR X (binaryOp e) r)(k:PE X a ta)(n:PE X b tb):PE X (.BinOp a e b pos) (tOp r ta tb):=by
 intro d s o H Q I h;exact wpAny_BinOp<|ZrV k n I h λv u l x y j m g i q=>f d l o j x y v u Q m g i q
theorem ZkA{e:UnaryOp}{r:V->Hp->VK->Prop}(j:UnR X (unaryOp e) r)(l:PE X a ta):PE X (.UnaryOp e a pos) (tUn r ta):=by
 intro d s f H Q I h;exact UnaryOp_<|thn (l d s f H _ I h) λv i ⟨x,k,m,g,n⟩=>j d i f k x v Q m g n
theorem opI{f:Value->Value->Sem Value}{C:Int->Int->Prop}{g:Int->Int->Int}
    (d:∀(i j:Int) (t u:Tok) (s:Shared) (Q:Value->Shared->Prop) (E:Value->Shared->Prop),C i j->Q (.int (g i j) s.toks) { s with toks:=s.toks+1 }->wpAny (model X.prog X.w) X.A (f (.int i t)<|.int j u) Q E s) :
    OpR X f (rI C λi j => .int<|g i j):=by
  intro e s o H x y v u Q I l m h;obtain ⟨i,j,rfl,rfl,n,q⟩:=h;obtain ⟨t,rfl⟩:=l;obtain ⟨k,rfl⟩:=m;exact d i j t k s _ _ n ⟨.int<|g i j,H,I.tok _,⟨_,rfl⟩,q⟩
theorem ZsU{f:Value->Value->Sem Value}{g:Int->Int->Int}
    (d:∀(i j:Int) (t u:Tok) (s:Shared) (Q:Value->Shared->Prop) (E:Value->Shared->Prop),Q (.int (g i j) s.toks) { s with toks:=s.toks+1 }->wpAny (model X.prog X.w) X.A (f (.int i t)<|.int j u) Q E s) :
    OpR X f (rI0 λi j => .int<|g i j):=by
  intro e s n H x y v u Q I l m h;obtain ⟨i,j,rfl,rfl,q⟩:=h;obtain ⟨t,rfl⟩:=l;obtain ⟨k,rfl⟩:=m;exact d i j t k s _ _ ⟨.int<|g i j,H,I.tok _,⟨_,rfl⟩,q⟩
theorem ZrI{f:Value->Value->Sem Value}{g:Int->Int->Bool}
    (d:∀(i j:Int) (t u:Tok) (s:Shared) (Q:Value->Shared->Prop) (E:Value->Shared->Prop),Q (.bool<|g i j) s->wpAny (model X.prog X.w) X.A (f (.int i t)<|.int j u) Q E s) :
    OpR X f (rI0 λi j => .bl<|g i j):=by
  intro e s n H x y v u Q I l m h;obtain ⟨i,j,rfl,rfl,q⟩:=h;obtain ⟨t,rfl⟩:=l;obtain ⟨k,rfl⟩:=m;exact d i j t k s _ _ ⟨.bl<|g i j,H,I,rfl,q⟩
def Ztn(i j:Int):Prop:=0<j/\j<1073741824
def CMul(i j:Int):Prop:=(-(2^64)<i/\i<2^64)\/(-(2^64)<j/\j<2^64)
theorem CMul.ok{i j:Int}(h:CMul i j):IntMulOk i j:=by
 rcases h with ⟨h1,h2⟩|⟨h1,h2⟩
 ·exact .of_left (intBits_le_64 h1 h2)
 ·exact .of_right (intBits_le_64 h1 h2)
theorem ZaO:OpR X (binaryOp .Add) (rI0 λi j => .int<|i+j):=ZsU λ_ _ _ _ _ _ _ q=>add_int q
theorem ZbQ:OpR X (binaryOp .Sub) (rI0 λi j => .int<|i-j):=ZsU λ_ _ _ _ _ _ _ q=>sub_int q
theorem Zg7:OpR X (binaryOp .Mult) (rI CMul λi j => .int<|i*j):=opI λ_ _ _ _ _ _ _ d q=>mul_int q d.ok
theorem Zcu:OpR X (binaryOp .FloorDiv) (rI Ztn λi j => .int<|i/j):=opI λi j _ _ _ _ _ d q=>by
 have f:(0:Int)<j:=d.1;have e:j<1073741824:=d.2;exact floordiv_int ⋯ (by rw[Uz i ⋯];exact q)<|.inl<|PyProof.noPylong_small ⋯
theorem Zbb:OpR X (binaryOp .Mod) (rI (λ_ j=>0<j) λi j => .int<|i%j):=opI λi j _ _ _ _ _ d q=>by
 have e:(0:Int)<j:=d;exact mod_int' ⋯ (by rw[W8 i ⋯];exact q)
theorem Zbr:OpR X (binaryOp .Mod) (rI (λ_ j=>j≠0) λi j => .int<|i.fmod j):=opI λ_ _ _ _ _ _ _ d q=>mod_int' d q
theorem unI{f:Value->Sem Value}{g:Int->Int}
    (d:∀(i:Int) (t:Tok) (s:Shared) (Q:Value->Shared->Prop) (E:Value->Shared->Prop),Q (.int (g i) s.toks) { s with toks:=s.toks+1 }->wpAny (model X.prog X.w) X.A (f<|.int i t) Q E s) :
    UnR X f (rU λi => .int<|g i):=by
  intro e s k H x v Q I j h;obtain ⟨i,rfl,q⟩:=h;obtain ⟨t,rfl⟩:=j;exact d i t s _ _ ⟨.int<|g i,H,I.tok _,⟨_,rfl⟩,q⟩
theorem Zg8:UnR X (unaryOp .USub) (rU λi => .int<|-i):=unI λ_ _ _ _ _ q=>neg_int q
end
def ZrW:V->V->Bool
 | .non,.non=>true| .non,.int _=>true| .int _,.non=>true| .non,.bl _=>true| .bl _,.non=>true| .non,.str _=>true| .str _,.non=>true
 | .int _,.int _=>true| .bl _,.bl _=>true| .str _,.str _=>true| .byt _,.byt _=>true
 | .int _,.str _=>true| .str _,.int _=>true| .bl _,.str _=>true| .str _,.bl _=>true
 |_,_=>false
def rEq:R2:=λx y H Q=>ZrW x y=true/\Q (.bl<|decide<|x=y) H
def rNe:R2:=λx y H Q=>ZrW x y=true/\Q (.bl<|!decide (x=y)) H
theorem Zf9{i j:Int}:decide (V.int i=V.int j)=(i==j):=by
 rw[U8]
 simp
theorem ZnM{i j:Bool}:decide (V.bl i=V.bl j)=(i==j):=by
 rw[U8]
 simp
theorem ZkB{i j:Str}:decide (V.str i=V.str j)=(i==j):=by
 rw[U8]
 simp
theorem ZkC{i j:Array UInt8}:decide (V.byt i=V.byt j)=(i.toList==j.toList):=by
 rw[U8]
 cases i
 cases j
 simp
section
variable{X:Cx}{a b c:Expr}{ta tb tc:TE}{pos:Pos}
theorem ZaU{d:List (Addr×Obj)}{f:St}{H:Hp}{s:Shared}{Q:VK}{k g:Bool}(I:Inv X d f H s)(q:Q (.bl k) H)(e:k=g):EP X d f Q (.bool g) s:=by
 subst e;exact ⟨.bl k,H,I,rfl,q⟩
theorem Za6:OpR X (compareOp .Eq) rEq:=by
 intro k s l H x y v u Q I g d h;obtain ⟨f,q⟩:=h
 cases x with
 |non =>
  cases g
  cases y with
  |non=>cases d;exact PySem.EqNone.eq_none_none<|ZaU I q (by simp)
  |bl j=>cases d;exact PySem.EqNone.eq_none_bool<|ZaU I q (by simp)
  |int j=>obtain ⟨e,rfl⟩:=d;exact PySem.EqNone.eq_none_int<|ZaU I q (by simp)
  |str j=>obtain ⟨e,rfl⟩:=d;exact PySem.EqNone.eq_none_str<|ZaU I q (by simp)
  |_=>exact absurd (show false=true from f) Qg
 |bl i =>
  cases g
  cases y with
  |non=>cases d;exact PySem.EqNone.eq_bool_none<|ZaU I q (by simp)
  |bl j=>cases d;exact eq_bool<|ZaU I q ZnM
  |str j=>obtain ⟨e,rfl⟩:=d;exact PySem.EqMixed.eq_bool_str<|ZaU I q (by simp)
  |_=>exact absurd (show false=true from f) Qg
 |int i =>
  obtain ⟨t,rfl⟩:=g
  cases y with
  |non=>cases d;exact PySem.EqNone.eq_int_none<|ZaU I q (by simp)
  |int j=>obtain ⟨e,rfl⟩:=d;exact eq_int<|ZaU I q Zf9
  |str j=>obtain ⟨e,rfl⟩:=d;exact PySem.EqMixed.eq_int_str<|ZaU I q (by simp)
  |_=>exact absurd (show false=true from f) Qg
 |str i =>
  obtain ⟨t,rfl⟩:=g
  cases y with
  |non=>cases d;exact PySem.EqNone.eq_str_none<|ZaU I q (by simp)
  |bl j=>cases d;exact PySem.EqMixed.eq_str_bool<|ZaU I q (by simp)
  |int j=>obtain ⟨e,rfl⟩:=d;exact PySem.EqMixed.eq_str_int<|ZaU I q (by simp)
  |str j=>obtain ⟨e,rfl⟩:=d;exact eq_str<|ZaU I q ZkB
  |_=>exact absurd (show false=true from f) Qg
 |byt i =>
  obtain ⟨t,rfl⟩:=g
  cases y with
  |byt j=>obtain ⟨e,rfl⟩:=d;exact PySem.W.eq_bytes<|ZaU I q ZkC
  |_=>exact absurd (show false=true from f) Qg
 |_=>cases y <;> exact absurd (show false=true from f) Qg
theorem Zda:OpR X (compareOp .NotEq) rNe:=by
 intro k s l H x y v u Q I g d h;obtain ⟨f,q⟩:=h
 cases x with
 |non =>
  cases g
  cases y with
  |non=>cases d;exact PySem.EqNone.ne_none_none<|ZaU I q (by simp)
  |bl j=>cases d;exact PySem.EqNone.ne_none_bool<|ZaU I q (by simp)
  |int j=>obtain ⟨e,rfl⟩:=d;exact PySem.EqNone.ne_none_int<|ZaU I q (by simp)
  |str j=>obtain ⟨e,rfl⟩:=d;exact PySem.EqNone.ne_none_str<|ZaU I q (by simp)
  |_=>exact absurd (show false=true from f) Qg
 |bl i =>
  cases g
  cases y with
  |non=>cases d;exact PySem.EqNone.ne_bool_none<|ZaU I q (by simp)
  |bl j=>cases d;exact ne_bool<|ZaU I q<|congrArg not ZnM
  |str j=>obtain ⟨e,rfl⟩:=d;exact PySem.EqMixed.ne_bool_str<|ZaU I q (by simp)
  |_=>exact absurd (show false=true from f) Qg
 |int i =>
  obtain ⟨t,rfl⟩:=g
  cases y with
  |non=>cases d;exact PySem.EqNone.ne_int_none<|ZaU I q (by simp)
  |int j=>obtain ⟨e,rfl⟩:=d;exact ne_int<|ZaU I q<|congrArg not Zf9
  |str j=>obtain ⟨e,rfl⟩:=d;exact PySem.EqMixed.ne_int_str<|ZaU I q (by simp)
  |_=>exact absurd (show false=true from f) Qg
 |str i =>
  obtain ⟨t,rfl⟩:=g
  cases y with
  |non=>cases d;exact PySem.EqNone.ne_str_none<|ZaU I q (by simp)
  |bl j=>cases d;exact PySem.EqMixed.ne_str_bool<|ZaU I q (by simp)
  |int j=>obtain ⟨e,rfl⟩:=d;exact PySem.EqMixed.ne_str_int<|ZaU I q (by simp)
  |str j=>obtain ⟨e,rfl⟩:=d;exact ne_str<|ZaU I q<|congrArg not ZkB
  |_=>exact absurd (show false=true from f) Qg
 |byt i =>
  obtain ⟨t,rfl⟩:=g
  cases y with
  |byt j=>obtain ⟨e,rfl⟩:=d;exact PySem.W.ne_bytes<|ZaU I q<|congrArg not ZkC
  |_=>exact absurd (show false=true from f) Qg
 |_=>cases y <;> exact absurd (show false=true from f) Qg
theorem Zg9:OpR X (compareOp .Lt) (rI0 λi j => .bl<|decide<|i<j):=ZrI λ_ _ _ _ _ _ _ q=>lt_int q
theorem ZjK:OpR X (compareOp .LtE) (rI0 λi j => .bl<|decide<|i<=j):=ZrI λ_ _ _ _ _ _ _ q=>le_int q
theorem ZfI:OpR X (compareOp .Gt) (rI0 λi j => .bl<|decide<|j<i):=ZrI λ_ _ _ _ _ _ _ q=>gt_int q
theorem Zmx:OpR X (compareOp .GtE) (rI0 λi j => .bl<|decide<|j<=i):=ZrI λ_ _ _ _ _ _ _ q=>ge_int q
theorem Zay(b:Expr){d:CmpOp}(h:d ≠ .In:=by decide)(e:d ≠ .NotIn:=by decide):behindInMarks d b=false:=by
 have g:(d==CmpOp.In)=false:=by cases d <;> first|rfl|exact absurd rfl h
 have f:(d==CmpOp.NotIn)=false:=by cases d <;> first|rfl|exact absurd rfl e
 cases b <;> simp[behindInMarks,g,f]
theorem ZbD{e:CmpOp}{r:R2}(f:OpR X (compareOp e) r)(k:PE X a ta)(o:PE X b tb)(l:behindInMarks e b=false):PE X (.Compare a [e] [b] pos) (tOp r ta tb):=by
 intro d s p H Q I h;exact wpAny_Compare1 (ZrV k o I h λv u m x y j n g i q=>f d m p j x y v u Q n g i q) l
inductive ZnN (x:V) (Q:Bool->Hp->Prop) (H':Hp):Prop
 |mk (k:Bool) (_:x = .bl k) (_:Q k H'):ZnN x Q H'
def ZrX(t:TE):TT:=λe H Q=>t e H λx d=>ZnN x Q d
theorem Zav{f:CmpOp}{r:R2}(j:OpR X (compareOp f) r)(m:PE X a ta)(G:PE X b tb)(p:behindInMarks f b=false):PT X (.Compare a [f] [b] pos) (ZrX<|tOp r ta tb):=by
 intro d s g H Q I h;refine wpAny_isTrue_Compare1 (thn (m d s g H _ I h) λv A ⟨x,F,o,w,q⟩=>thn (G d A g F _ o q) λu B ⟨y,l,E,t,D⟩ =>
  thn (j d B g l x y v u _ E w t D) λc K ⟨z,J,C,i,k,e,n⟩=>?_) p
 subst e
 cases i
 exact wpAny_truthy_bool ⟨J,C,n⟩
def Zqc(r g:R2)(ta tb tc:TE):TE:=λd H Q=>ta d H λx h=>tb d h λy i=>r x y i λz e=>∃k,z = .bl k ∧
 (if k=true then tc d e λf j=>g y f j Q else Q (.bl false) e)
theorem Zga{l g:CmpOp}{r n:R2}(t:OpR X (compareOp l) r)(j:OpR X (compareOp g) n)(B:PE X a ta)(J:PE X b tb)(Z:PE X c tc)
    (O:lastMarks [l,g] [b,c]=false:=by with_unfolding_all rfl):PE X (.Compare a [l,g] [b,c] pos) (Zqc r n ta tb tc):=by
  intro f s i H Q I h;refine Compare_chain (thn (B f s i H _ I h) λv E ⟨x,G,N,T,P⟩=>chain_link<|thn (J f E i G _ N P) λu U ⟨y,A,Y,p,F⟩ =>
    thn (t f U i A x y v u _ Y T p F) λd W ⟨z,o,q,M,k,e,m⟩=>?_) O
  subst e
  cases M
  refine wpAny_truthy_bool ?_
  cases k with
  | false=>exact ite_ff ⟨.bl false,o,q,rfl,m⟩
  | true=>exact ite_tt<|chain_last<|thn (Z f W i o _ q m) λL S ⟨w,C,R,K,D⟩=>j f S i C y w u L Q R p K D
theorem Zi0:(sizeLine:Nat)<2^63:=by rw[sizeLine_eq];decide
theorem ZfJ{x:V}{us:List Value}(r:Vals [x] us):∃u,us=[u]/\RelV x u:=by
 cases r with
 |cons d e=>cases e;exact ⟨_,rfl,d⟩
theorem ZkD{x y:V}{us:List Value}(r:Vals [x,y] us):∃u d,us=[u,d]/\RelV x u/\RelV y d:=by
 cases r with
 |cons f h =>
  cases h with
  |cons e g=>cases g;exact ⟨_,_,rfl,f,e⟩
theorem Zi1:ZdZ X (.builtin "abs") (λxs H Q=>∃i,xs=[.int i]/\Q (.int (if i<0 then -i else i)) H):=by
 intro d s f H xs g Q I r h;obtain ⟨i,rfl,q⟩:=h;obtain ⟨u,rfl,t,rfl⟩:=ZfJ r;exact call_abs_int λu e=>⟨.int (if i<0 then -i else i),H,I.tok _,⟨_,rfl⟩,q⟩
theorem ZkE(e:X.calm=true):ZdZ X (.builtin "max") (λxs H Q=>∃i j,xs=[.int i,.int j]/\Q (.int (if j>i then j else i)) H):=by
 intro d s n H xs o Q I r h;obtain ⟨i,j,rfl,q⟩:=h;obtain ⟨u,g,rfl,⟨t,rfl⟩,⟨f,rfl⟩⟩:=ZkD r;refine max_two_ints (I.ok.hd e) λm l k=>⟨_,H,I.kept k,?_,q⟩
 by_cases hj:j>i
 ·rw[if_pos hj,if_pos hj];exact ⟨_,rfl⟩
 ·rw[if_neg hj,if_neg hj];exact ⟨_,rfl⟩
theorem ZkF(e:X.calm=true):ZdZ X (.builtin "min") (λxs H Q=>∃i j,xs=[.int i,.int j]/\Q (.int (if j<i then j else i)) H):=by
 intro d s n H xs o Q I r h;obtain ⟨i,j,rfl,q⟩:=h;obtain ⟨u,g,rfl,⟨t,rfl⟩,⟨f,rfl⟩⟩:=ZkD r;refine min_two_ints (I.ok.hd e) λm l k=>⟨_,H,I.kept k,?_,q⟩
 by_cases hj:j<i
 ·rw[if_pos hj,if_pos hj];exact ⟨_,rfl⟩
 ·rw[if_neg hj,if_neg hj];exact ⟨_,rfl⟩
theorem Zha:ZdZ X (.type "int") (λxs H Q=>(∃i,xs=[.int i]/\Q (.int i) H)\/∃k,xs=[.bl k]/\Q (.int (if k then 1 else 0)) H):=by
 intro d s f H xs g Q I r h;rcases h with ⟨i,rfl,q⟩|⟨k,rfl,q⟩
 ·obtain ⟨u,rfl,t,rfl⟩:=ZfJ r;exact call_int_int ⟨.int i,H,I,⟨_,rfl⟩,q⟩
 ·obtain ⟨u,rfl,e⟩:=ZfJ r
  cases e
  exact call_int_bool ⟨.int (if k then 1 else 0),H,I.tok _,⟨_,rfl⟩,q⟩
end
structure ObjM (h:Heap) (x dx C:Addr) (mA:Str->Option Value):Prop where
 obj:h.get? x=some (PySem.W.instObj C dx)
 ns:h.Ns1 dx mA
 ne:dx≠x
theorem ZkG{h:Heap}{c:Addr}{d:Str->Option Value}(n:h.Ns1 c d):∃f,h.get? c=some f/\∀name,PySem.W.lookIn name f=some (d name):=by
 obtain ⟨o,g,r,i,k,l,_,m⟩:=n;refine ⟨o,i,λname=>?_⟩;have e:=m name;unfold nsFind findBy at e;rw[<-Array.find?_toList] at e;unfold PySem.W.lookIn;rw[k]
 dsimp only
 split
 ·rename_i y q
  rw[q] at e;exact congrArg some e
 ·rename_i q
  rw[q] at e;have a:g.toList.any (·.refKey)=false:=by
   rw[List.any_eq_false];intro y j;obtain ⟨z,t,b⟩:=l y<|Array.mem_toList_iff.mp j
   simp[DictEntry.refKey,b]
  have p:¬g.toList.any (·.refKey)=true:=by rw[a];exact Qg
  rw[if_neg p];exact congrArg some e
theorem ObjM.look{h:Heap}{x b C:Addr}{c:Str->Option Value}(I:ObjM h x b C c):∃a,PySem.W.InstAt h x (PySem.W.instObj C b) C (some a)/\∀name,PySem.W.lookIn name a=some (c name) :=
 let ⟨a,ho,hl⟩:=ZkG I.ns
 ⟨a,⟨I.obj,rfl,rfl,ho⟩,hl⟩
section
variable{prog:Program}{w:World}{A:Around}{E:Value->Shared->Prop}{s:Shared}{K:ZZfg}{x dx C f:Addr}{mA:Str->Option Value}{name:Str}{v:Value}
theorem Zoy{a:Bool}{Q:Value->Shared->Prop}(X:K.In s.heap)(I:ObjM s.heap x dx C mA)(d:PySem.W.plainGet K C name=true)(e:PySem.W.hasDictIn K C=true)
    (i:PySem.W.findIn K (.ref C) name=some none) (c:mA name=some v) (b:PySem.W.handedIn v=true) (h:Q v { s with toks:=s.toks+1 }) :
    wpAny (model prog w) A (getAttr (.ref x) name a) Q E s:=by
  obtain ⟨j,J,g⟩:=I.look;exact PySem.W.get_value X J (PySem.W.plainGet_of d).1 (PySem.W.findObj_own e i rfl (by rw[g,c])) b h
theorem Zmy{pl:Sem Bool}{Q:Value×List Value->Shared->Prop}(X:K.In s.heap)(I:ObjM s.heap x dx C mA)(a:PySem.W.plainGet K C name=true)
    (d:PySem.W.findIn K (.ref C) name=some (some<|.ref f)) (e:PySem.W.isFn K (.ref f)=true) (b:mA name=none) (h:Q (.ref f,[.ref x]) s) :
    wpAny (model prog w) A (getMethod (.ref x) name pl) Q E s:=by
  obtain ⟨g,J,c⟩:=I.look;exact PySem.W.method_fn X J (PySem.W.plainGet_of a).1 (PySem.W.plainGet_of a).2 d (beq_iff_eq.mp e) (by show (PySem.W.lookIn name g).map (·.isSome)=some false; rw[c,b]; rfl) h
theorem Zoz{k:List Str}{Q:Unit->Shared->Prop}(X:K.In s.heap)(I:ObjM s.heap x dx C mA)
    (p:PySem.W.findIn K (.ref C) "__setattr__" = some (some<|.builtin "object.__setattr__")) (hp:PySem.W.plainOver K C=true) (n:PySem.W.takerIn K C name=some none) (q:PySem.W.hasDictIn K C=true)
    (hw:PySem.Within mA k) (hsz:k.length<=sizeLine)
    (h:∀h',ObjM h' x dx C (λy=>if y=name then some v else mA y)->Heap.SameBut dx s.heap h'->Q () { s with heap:=h',toks:=s.toks+2 }) :
    wpAny (model prog w) A (setAttr (.ref x) name v) Q E s:=by
  obtain ⟨D,J,z⟩:=I.look;refine PySem.W.set_plain X J p<|PySem.W.osa_open (s:={ s with toks:=s.toks+1 }) (r:=none) X J hp n λb=>?_;obtain ⟨B,t,g⟩:=PySem.W.any_some q;have o:s.heap.get? x=some ⟨.ref C,some dx,.plain,#[]⟩:=I.obj;refine wpAny_bind<|wpAny_pure<|wpAny_bind<|wpAny_bind<|wpAny_loadPart o<|wpAny_bind<|PySem.W.Looks.here (s:={ s with toks:=s.toks+1 }) (PySem.W.looks_clsIn X t) ?_;rw[g];refine wpAny_pure (a:=some dx)<|wpAny_bind<|wpAny_pure<|wpAny_bind ?_;refine wpAny_nsSet1 (s:={ s with toks:=s.toks+1 }) I.ns λh' d c=>?_;obtain ⟨u,l,m,j,i,e⟩:=d.count<|PySem.Within.cons name v hw;refine wpAny_bind<|wpAny_lookBehind j (by rw[i]; exact pastItsLine_dict<|Q1 e (by rw[W7]; omega)) ?_;exact wpAny_pure<|h _ ⟨(c.2 _<|Ne.symm I.ne).trans I.obj,d,I.ne⟩ c
theorem Zmz{R:Result->Shared->Prop}{vs:List Value}{b:List (Str×Value)}(X:K.In s.heap)(i:PySem.W.makesIn K C=true)
    (c:PySem.W.findIn K (.ref C) "__init__" = some (some<|.ref f)) (e:PySem.W.typeIn K (.ref f)=some (.type "function"))
    (h:codeAny (model prog w) (A.under<|.builtin "type.__call__" ⟨.ref C::vs,b⟩) (.call (.ref f) ⟨.ref (s.heap.objs.size+1)::vs,b⟩) (PySem.W.InitBack (s.heap.objs.size+1) R)
      { s with heap:=(s.heap.push PySem.W.emptyDict).push (PySem.W.instObj C s.heap.objs.size) }) :
    codeAny (model prog w) A (.call (.ref C) ⟨vs,b⟩) R s:=by
  obtain ⟨j,g,d,t,k⟩:=s;exact PySem.W.make_core (PySem.W.makes_of X i) (PySem.W.looks_findIn X c) (λa=>PySem.W.bind_fn X a e) (.inl rfl) h
theorem ZkH{R:Result->Shared->Prop}(X:K.In s.heap)(c:PySem.W.makesIn K C=true)
    (b:PySem.W.findIn K (.ref C) "__init__" = some (some<|.builtin "object.__init__"))
    (e:∀a,PySem.W.Looks (model prog w) s.heap (bindSpecial (.builtin "object.__init__") a) (.builtin "object.__init__", [a]))
    (h:codeAny (model prog w) (A.under<|.builtin "type.__call__" ⟨[.ref C],[]⟩) (.call (.builtin "object.__init__") ⟨[.ref<|s.heap.objs.size+1],[]⟩) (PySem.W.InitBack (s.heap.objs.size+1) R)
      { s with heap:=(s.heap.push PySem.W.emptyDict).push (PySem.W.instObj C s.heap.objs.size) }) :
    codeAny (model prog w) A (.call (.ref C) ⟨[],[]⟩) R s:=by
  obtain ⟨i,g,d,t,j⟩:=s;exact PySem.W.make_core (PySem.W.makes_of X c) (PySem.W.looks_findIn X b) e (.inr ⟨rfl,rfl⟩) h
end
def Zhb(f:Str)(v:V):List (Str×V)->List (Str×V)
 | []=>[(f,v)]
 |(g,x)::r=>if g=f then (g,v)::r else (g,x)::Zhb f v r
theorem ZcI(f g:Str)(v:V):∀b:List (Str×V),(Zhb f v b).lookup g=if g=f then some v else b.lookup g
 | []=>by
  show List.lookup g [(f,v)]=_
  by_cases h:g=f
  ·have a:(g==f)=true:=beq_iff_eq.mpr h
   simp only[List.lookup,a,if_pos h]
  ·have a:(g==f)=false:=beq_eq_false_iff_ne.mpr h
   simp only[List.lookup,a,if_neg h]
 |(k,x)::r=>by
  have c:=ZcI f g v r;rw[show Zhb f v ((k,x)::r)=(if k=f then (k,v)::r else (k,x)::Zhb f v r) from rfl]
  by_cases hk:k=f
  ·rw[if_pos hk]
   by_cases h:g=k
   ·have a:(g==k)=true:=beq_iff_eq.mpr h
    simp only[List.lookup,a,if_pos<|h.trans hk]
   ·have a:(g==k)=false:=beq_eq_false_iff_ne.mpr h
    simp only[List.lookup,a,if_neg (λe:g=f=>h<|e.trans hk.symm)]
  ·rw[if_neg hk]
   by_cases h:g=k
   ·have a:(g==k)=true:=beq_iff_eq.mpr h
    simp only[List.lookup,a,if_neg (λe:g=f=>hk<|h.symm.trans e)]
   ·have a:(g==k)=false:=beq_eq_false_iff_ne.mpr h
    simp only[List.lookup,a]
    exact c
theorem Ze4(f:Str)(v:V):∀a:List (Str×V),f∈(Zhb f v a).map (·.1)/\∀g,g∈a.map (·.1)->g∈(Zhb f v a).map (·.1)
 | []=>⟨by simp[Zhb],λg h=>by simp at h⟩
 |(k,x)::r=>by
  obtain ⟨c,b⟩:=Ze4 f v r;rw[show Zhb f v ((k,x)::r)=(if k=f then (k,v)::r else (k,x)::Zhb f v r) from rfl]
  by_cases hk:k=f
  ·rw[if_pos hk];subst hk;exact ⟨by simp,λg h=>by simpa using h⟩
  ·rw[if_neg hk];refine ⟨?_,λg h=>?_⟩
   ·rw[W9];exact Qy _ c
   ·rw[W9] at h ⊢;rcases Qe.mp h with e|e
    ·exact Qe.mpr (.inl e)
    ·exact Qy _ (b g e)
theorem Ze5(f:Str)(v:V):∀a:List (Str×V),(Zhb f v a).length<=a.length+1
 | []=>by simp[Zhb]
 |(k,x)::r=>by
  have b:=Ze5 f v r;rw[show Zhb f v ((k,x)::r)=(if k=f then (k,v)::r else (k,x)::Zhb f v r) from rfl]
  by_cases hk:k=f
  ·rw[if_pos hk,W7,W7];omega
  ·rw[if_neg hk,W7,W7];omega
theorem RelO.some_of{v:V}{o:Option Value}(r:RelO (some v) o):∃u,o=some u/\RelV v u:=by
 cases o with
 |none=>exact (show False from r).elim
 |some u=>exact ⟨u,rfl,r⟩
theorem RelO.none_of{o:Option Value}(r:RelO none o):o=none:=by
 cases o with
 |none=>rfl
 |some u=>exact (show False from r).elim
theorem ZkI{v:V}{u:Value}(r:RelV v u):PySem.W.handedIn u=true:=by
 cases v with
 |non=>cases (show u=Value.none from r);rfl
 |bl b=>cases (show u=Value.bool b from r);rfl
 |int i=>obtain ⟨t,e⟩:=(show ∃t,u=Value.int i t from r);cases e;rfl
 |str x=>obtain ⟨t,e⟩:=(show ∃t,u=Value.str x t from r);cases e;rfl
 |byt b=>obtain ⟨t,e⟩:=(show ∃t,u=Value.bytes b t from r);cases e;rfl
 |flt b=>obtain ⟨t,e⟩:=(show ∃t,u=Value.float b t from r);cases e;rfl
 |ref a=>cases (show u=Value.ref a from r);rfl
 |ty n=>cases (show u=Value.type n from r);rfl
section
variable{P:Program}{w:World}{H H':Hp}{h h':Heap}{a C dx:Addr}{fs fs':List (Str×V)}
theorem Ze6(c:HOk P w H h)(e:H a=some (.ins C dx fs)):∃b,ObjM h a dx C b/\(∀f,RelO (fs.lookup f)<|b f)/\PySem.Within b (fs.map (·.1))/\fs.length<=1000/\H dx=some (.own a):=by
 obtain ⟨d,z,g,i,b,n,r,q⟩:=(show ObjOk P w H h a (.ins C dx fs) from c a _ e);exact ⟨b,⟨i,n,g⟩,r,q,z,d⟩
end
structure Cls (K:ZZfg) (C:Addr):Prop where
 pg:PySem.W.plainGet K C Str.empty=true
 hd:PySem.W.hasDictIn K C=true
 po:PySem.W.plainOver K C=true
 sa:PySem.W.findIn K (.ref C) "__setattr__"=some (some (.builtin "object.__setattr__"))
theorem Cls.get{K:ZZfg}{C:Addr}(c:Cls K C)(f:Str):PySem.W.plainGet K C f=true:=c.pg
def NoAttr(K:ZZfg)(C:Addr)(f:Str):Prop:=PySem.W.findIn K (.ref C) f=some none
theorem NoAttr.taker{K:ZZfg}{C:Addr}{f:Str}(n:NoAttr K C f):PySem.W.takerIn K C f=some none:=by
 unfold PySem.W.takerIn;rw[show PySem.W.findIn K (.ref C) f=some none from n]
 rfl
structure Meth (K:ZZfg) (C:Addr) (m:Str) (f:Addr):Prop where
 at_:PySem.W.findIn K (.ref C) m=some (some (.ref f))
 fn:PySem.W.isFn K (.ref f)=true
 kp:PySem.W.keepIn K (.ref f)=true
section
variable{X:Cx}{pins:List (Addr×Obj)}{σ:St}{H:Hp}{s:Shared}{a C dx:Addr}{fs:List (Str×V)}{f:Str}{v:V}{A:Around}{E:Value->Shared->Prop}
theorem ZjL{b:Bool}{Q:Value->Shared->Prop}(I:Inv X pins σ H s)(e:H a=some (.ins C dx fs))(c:Cls X.K C)(n:NoAttr X.K C f)(l:fs.lookup f=some v)
    (h:∀u d,Inv X pins σ H d->RelV v u->Q u d):wpAny (model X.prog X.w) A (getAttr (.ref a) f b) Q E s:=by
  obtain ⟨j,O,r,_,_,_⟩:=Ze6 I.hok e;obtain ⟨u,i,g⟩:=RelO.some_of (v:=v) (o:=j f) (by rw[<-l]; exact r f);exact Zoy I.kIn O (c.get f) c.hd n i (ZkI g)<|h u _ (I.tok _) g
theorem ZfU{m:Str}{g:Addr}{pl:Sem Bool}{Q:Value×List Value->Shared->Prop}(I:Inv X pins σ H s)(e:H a=some (.ins C dx fs))(c:Cls X.K C)(k:Meth X.K C m g)(l:fs.lookup m=none)
    (h:Q (.ref g,[.ref a]) s):wpAny (model X.prog X.w) A (getMethod (.ref a) m pl) Q E s:=by
  obtain ⟨d,O,r,_,_,_⟩:=Ze6 I.hok e;have b:d m=none:=RelO.none_of (by rw[<-l]; exact r m);exact Zmy I.kIn O (c.get m) k.at_ k.fn b h
theorem ZjM{y:V}{u:Value}{Q:Unit->Shared->Prop}(I:Inv X pins σ H s)(e:H a=some (.ins C dx fs))(c:Cls X.K C)(n:NoAttr X.K C f)(G:fs.length<1000)(p:RelV y u)
    (h:∀i,Inv X pins σ (upd H a<|.ins C dx<|Zhb f y fs) i->Q () i):wpAny (model X.prog X.w) A (setAttr (.ref a) f u) Q E s:=by
  obtain ⟨l,O,r,k,_,j⟩:=Ze6 I.hok e;have w:(fs.map (·.1)).length<=sizeLine:=by rw[Q0,sizeLine_eq]; omega
  refine Zoz I.kIn O c.sa c.po n.taker c.hd k w λB d D=>h _ ?_;have t:∃o,B.get? dx=some o:=let ⟨o,_,_,e',_⟩:=d.ns; ⟨o,e'⟩;refine I.write (x:=a) (e:=dx) (by rw[e]; exact True.intro) (.inr j) (λb q F z=>(D.2 b F).trans z) t ?_;refine ⟨by rw[Zaj O.ne]; exact j,?_,O.ne,d.obj,_,d.ns,λg=>?_,λg m=>?_⟩
  · have:=Ze5 f y fs; omega
  · show RelO ((Zhb f y fs).lookup g) (if g=f then some u else l g)
    rw[ZcI]
    by_cases q:g=f
    · rw[if_pos q,if_pos q]; exact p
    · rw[if_neg q,if_neg q]; exact r g
  · by_cases q:g=f
    · rw[q]; exact (Ze4 f y fs).1
    · refine (Ze4 f y fs).2 g (k g λz=>m ?_)
      show (if g=f then some u else l g)=none;rw[if_neg q]; exact z
theorem Inv.made(I:Inv X pins σ H s):Inv X pins σ (upd (upd H s.heap.objs.size<|.own<|s.heap.objs.size+1) (s.heap.objs.size+1)<|.ins C s.heap.objs.size [])
    { s with heap:=(s.heap.push PySem.W.emptyDict).push (PySem.W.instObj C s.heap.objs.size) }:=by
  have d:(s.heap.push PySem.W.emptyDict).get? s.heap.objs.size=some PySem.W.emptyDict:=Heap.get?_push_size s.heap rfl;have h:((s.heap.push PySem.W.emptyDict).push<|PySem.W.instObj C s.heap.objs.size).get? (s.heap.objs.size+1)=some (PySem.W.instObj C s.heap.objs.size):=by
    have:=Heap.get?_push_size (s.heap.push PySem.W.emptyDict) (o:=PySem.W.instObj C s.heap.objs.size) rfl
    rwa [Heap.size_push] at this
  have g:(s.heap.push PySem.W.emptyDict).Ns s.heap.objs.size (λ_=>none):=⟨PySem.W.emptyDict,#[],_,d,rfl,(λe j=>absurd j (by simp)),λ_=>rfl⟩;have k:=I.laid (a:=s.heap.objs.size) (o:=.own<|s.heap.objs.size+1) (h':=s.heap.push PySem.W.emptyDict) (t':=s.toks) (λb u q=>Heap.get?_push_of_some _ q) (Q2 _) ⟨_,d⟩;refine k.laid (a:=s.heap.objs.size+1) (o:=.ins C s.heap.objs.size []) (t':=s.toks) (λb u q=>Heap.get?_push_of_some _ q) (U0<|Heap.size_push _ _) ?_;have c:s.heap.objs.size≠s.heap.objs.size+1:=Q8<|Wp _;refine ⟨by rw[Zaj c,Zah],Q6 _,c,h,λ_=>none,(Heap.Ns1.of_empty g).at λo q=>Heap.get?_push_of_some _ q,λ_=>True.intro,λy i=>absurd rfl i⟩
theorem ZoA{prog:Program}{w:World}{env:Env}{e:Expr}{f:Str}{c:Pos}{s:Shared}{Q:Value->Shared->Prop}(d:attributeBase e f env (eval e env)=eval e env)
    (h:wpAny (model prog w) A (eval e env) (λo b=>wpAny (model prog w) A (getAttr o f true) Q E b) E s):wpAny (model prog w) A (eval (.Attribute e f c) env) Q E s :=
  Attribute_any_ h (by rw[arm_eval_Attribute,d])
end
inductive Zqd (K:ZZfg) (f:Str) (x:V) (H1:Hp) (Q:VK):Prop
 |mk (a C:Addr) (dx:_) (fs:_) (v:V) (_:x = .ref a) (_:H1 a=some (.ins C dx fs)) (_:Cls K C) (_:NoAttr K C f) (_:fs.lookup f=some v) (_:Q v H1):Zqd K f x H1 Q
def Zto(K:ZZfg)(c:TE)(f:Str):TE:=λb H Q=>c b H λx a=>Zqd K f x a Q
def Ztp(K:ZZfg)(g i:TE)(f:Str):TS:=λD c H=>i c H λy h=>g c h λx e=>∃a C d b,x = .ref a/\e a=some (.ins C d b)/\Cls K C/\NoAttr K C f/\b.length<1000 ∧
 D.nx c (upd e a<|.ins C d<|Zhb f y b)
section
variable{X:Cx}{o e value:Expr}{f:Str}{pos pos' tpos:Pos}{ta tv:TE}
theorem Zd0(i:PE X e ta)(r:attributeBase e f X.env (eval e X.env)=eval e X.env):PE X (.Attribute e f pos) (Zto X.K ta f):=by
 intro b s t H Q I h;refine ZoA r<|thn (i b s t H _ I h) λu z ⟨x,p,g,d,a,C,y,D,v,k,w,c,n,l,q⟩=>?_;subst k;obtain rfl:u=Value.ref a:=d;exact ZjL g w c n l λB A m j=>⟨v,p,m,j,q⟩
theorem ZnO(m:PE X o ta)(g:PE X value tv)(t:swapsWith value (some<|.Attribute o f pos') pos.line X.env=pure false):PS X (.Assign [.Attribute o f pos'] value pos) (Ztp X.K ta tv f):=by
 intro b s d H D I h;refine plainObj_wpAny_Assign_Attribute (thn (g b s d H _ I h) λu r ⟨y,B,p,k,q⟩=>thn (m b r d B _ p q) λi J ⟨x,F,A,j,a,C,G,L,v,E,c,n,l,w⟩=>?_) t;subst v;obtain rfl:i=Value.ref a:=j;exact ZjM A E c n l k λK z=>⟨d,_,z,w⟩
end
section
variable{X:Cx}{pins:List (Addr×Obj)}{σ:St}{H:Hp}{s:Shared}{A:Around}{E:Value->Shared->Prop}{Q:Value->Shared->Prop}{c:Value}{b:Bool}
inductive Zi2 (K:ZZfg) (H:Hp):V->Value->Prop where
  | non:Zi2 K H .non (.type "NoneType")
  | bl (x:Bool):Zi2 K H (.bl x) (.type "bool")
  | int (i:Int):Zi2 K H (.int i) (.type "int")
  | str (x:Str):Zi2 K H (.str x) (.type "str")
  | flt (x:UInt64):Zi2 K H (.flt x) (.type "float")
  | lst {a:Addr} {xs:List V} (e:H a=some (.lst xs)):Zi2 K H (.ref a) (.type "list")
  | frz {a:Addr} {o:Obj} {xs:List V} (e:H a=some (.frz o (.lst xs))):Zi2 K H (.ref a) (.type "list")
  | tup {a:Addr} {xs:List V} (e:H a=some (.tup xs)):Zi2 K H (.ref a) (.type "tuple")
  | dK {a:Addr} {kvs:List (Key×V)} (e:H a=some (.dK kvs)):Zi2 K H (.ref a) (.type "dict")
  | dT {a:Addr} {kvs:List (List Key×V)} (e:H a=some (.dT kvs)):Zi2 K H (.ref a) (.type "dict")
  | ins {a C dx:Addr} {fs:List (Str×V)} (e:H a=some (.ins C dx fs)) (cl:Cls K C) (ha:PySem.W.findIn K (.ref C) "__class__" = some (some (.builtin "object.__class__")))
      (hn:PySem.W.specialIn K (.builtin "object.__class__") "__get__" = some (some (.builtin "getset_descriptor.__get__"))) (htk:PySem.W.takesIn K (.builtin "object.__class__")=some true)
      (hm:PySem.W.mroIn K C (.type "object")=some true):Zi2 K H (.ref a) (.ref C)
theorem ZkJ{x:V}{u t:Value}(I:Inv X pins σ H s)(d:RelV x u)(l:Zi2 X.K H x t)(e:PySem.W.kitOne X.K t c=some b)(h:∀k,Q (.bool b) { s with toks:=k }) :
    wpAny (model X.prog X.w) A (call (.builtin "isinstance") [u,c]) Q E s:=by
  cases l with
  | non=>cases (show u=Value.none from d); exact PySem.W.kia_one PySem.W.kitx_none I.kIn True.intro e (λz=>nomatch z) h
  | bl y=>cases (show u=Value.bool y from d); exact PySem.W.kia_one PySem.W.kitx_bool I.kIn True.intro e (λz=>nomatch z) h
  | int i=>obtain ⟨t,q⟩:=(show ∃t,u=Value.int i t from d); cases q; exact PySem.W.kia_one PySem.W.kitx_int I.kIn True.intro e (λz=>nomatch z) h
  | str y=>obtain ⟨t,q⟩:=(show ∃t,u=Value.str y t from d); cases q; exact PySem.W.kia_one PySem.W.kitx_str I.kIn True.intro e (λz=>nomatch z) h
  | flt y=>obtain ⟨t,q⟩:=(show ∃t,u=Value.float y t from d); cases q; exact PySem.W.kia_one PySem.W.kitx_float I.kIn True.intro e (λz=>nomatch z) h
  | @lst a g ea =>
    cases (show u=Value.ref a from d)
    obtain ⟨_,_,n,_,f⟩:=(show ObjOk X.prog X.w H s.heap a (.lst g) from I.hok a _ ea);exact PySem.W.kia_one PySem.W.kitx_list I.kIn ⟨_,f,rfl⟩ e (λz=>nomatch z) h
  | @frz a ob g ea =>
    cases (show u=Value.ref a from d)
    obtain ⟨_,_,_,n,_,f⟩:=(show ObjOk X.prog X.w H s.heap a (.frz ob<|.lst g) from I.hok a _ ea);exact PySem.W.kia_one PySem.W.kitx_list I.kIn ⟨_,f,rfl⟩ e (λz=>nomatch z) h
  | @tup a g ea =>
    cases (show u=Value.ref a from d)
    obtain ⟨_,_,_,p⟩:=(show ObjOk X.prog X.w H s.heap a (.tup g) from I.hok a _ ea);obtain ⟨o,f,j,_⟩:=p;exact PySem.W.kia_one PySem.W.kitx_tuple I.kIn ⟨o,f,j⟩ e (λz=>nomatch z) h
  | @dK a kvs ea =>
    cases (show u=Value.ref a from d)
    obtain ⟨_,_,v,_,p⟩:=(show ObjOk X.prog X.w H s.heap a (.dK kvs) from I.hok a _ ea);obtain ⟨o,r,m,f,j,_⟩:=p;exact PySem.W.kia_one PySem.W.kitx_dict I.kIn ⟨o,f,j.1⟩ e (λz=>nomatch z) h
  | @dT a kvs ea =>
    cases (show u=Value.ref a from d)
    obtain ⟨_,_,g,_,o,r,m,f,j,_⟩:=(show ObjOk X.prog X.w H s.heap a (.dT kvs) from I.hok a _ ea);exact PySem.W.kia_one PySem.W.kitx_dict I.kIn ⟨o,f,j.1⟩ e (λz=>nomatch z) h
  | @ins a C dx fs ea cl ha hn htk hm =>
    cases (show u=Value.ref a from d)
    obtain ⟨w,O,_⟩:=Ze6 I.hok ea;obtain ⟨B,J,_⟩:=O.look;exact PySem.W.kia_one (PySem.W.kitx_own (cl.get _) cl.hd ha hn htk hm) I.kIn J e (λz=>nomatch z) h
end
structure Room (k:Nat) (A:Around):Prop where
 hd:A.handled=none
 dp:A.depth+3*k+5<recursionLimit
 un:A.units+16*k+200<cLine
theorem Room.mono{j k:Nat}{A:Around}(r:Room k A)(h:j<=k):Room j A:=⟨r.hd,by have:=r.dp;omega,by have:=r.un;omega⟩
theorem Room.deeper{k:Nat}{A:Around}(r:Room (k+1) A)(env:Env):Room k (A.deeper env) :=
 ⟨r.hd,by have:=r.dp;show A.depth+1+3*k+5<_;omega,by have:=r.un;show A.units+3+16*k+200<_;omega⟩
theorem ZjN{A:Around}{C:Addr}{us:List Value}{a:List (Str×Value)}:(A.under<|.builtin "type.__call__" ⟨.ref C::us,a⟩).depth=A.depth+1:=by
 first|rfl|simp[Around.under,Code.weight,Code.isCreation,Code.isGuard,Code.isCaller,Code.frames,Code.isFrame,guardIds]
theorem ZjO{A:Around}{C:Addr}{us:List Value}{a:List (Str×Value)}:(A.under<|.builtin "type.__call__" ⟨.ref C::us,a⟩).units=A.units+1:=by
 first|rfl|simp[Around.under,Code.cUnits,Code.frames,Code.isFrame]
theorem Room.make{k:Nat}{A:Around}(r:Room (k+1) A)(C:Addr)(us:List Value)(a:List (Str×Value)):Room k (A.under<|.builtin "type.__call__" ⟨.ref C::us,a⟩) :=
 ⟨r.hd,by have:=r.dp;rw[ZjN];omega,by have:=r.un;rw[ZjO];omega⟩
theorem Room.depth{k:Nat}{A:Around}(r:Room k A):A.depth<recursionLimit:=by have:=r.dp;omega
theorem Room.units{k:Nat}{A:Around}(r:Room k A):A.units+64<cLine:=by have:=r.un;omega
def ZsV:TA:=λ_ H Q=>Q [] H
def Zqe(c:TE)(b:TA):TA:=λa H Q=>c a H λx d=>b a d λf e=>Q (x::f) e
section
variable{X:Cx}{e:Expr}{es:List Expr}{te:TE}{t:TA}{pos:Pos}
theorem Zae:PA X [] ZsV:=λ_ _ _ _ H Q I h=>Calls.spliced_nil ⟨[],H,I,.nil,h⟩
theorem Zaa(d:PE X e te)(q:PA X es t)(l:starEach (e::es) X.env=(false,eval e X.env)::starEach es X.env:=by rfl):PA X (e::es) (Zqe te t):=by
 intro pos a s b H Q I h;rw[l];show wpAny _ _ (spliced ((false,eval e X.env)::backTo pos (starEach es X.env))) _ _ s;refine Calls.spliced_cons<|thn (d a s b H _ I h) λu k ⟨x,o,f,j,g⟩=>?_;exact thn (q pos a k b o _ f g) λv r ⟨p,c,n,i,m⟩=>⟨x::p,c,n,.cons j i,m⟩
def Ztq(t:TA):TE:=λc H Q=>t c H λa b=>a.length<=sizeLine/\∀p,b p=none->Q (.ref p) (upd b p<|.tup a)
def Ztr(t:TA):TE:=λc H Q=>t c H λa b=>a.length<=sizeLine/\∀p,b p=none->Q (.ref p) (upd b p<|.lst a)
theorem Zcd{x1}(h:PA X es t):PE X (.Tuple es x1 pos) (Ztq t):=by
 intro a s k H Q I g;refine wpAny_Tuple_spliced<|thn (h pos a s k H _ I g) λl c ⟨j,f,d,r,z,q⟩=>⟨by rw[<-r.length];exact z,?_⟩;have i:f c.heap.objs.size=none:=d.hok.fresh<|Q2 _;refine ⟨.ref c.heap.objs.size,upd f c.heap.objs.size<|.tup j,d.laid (t':=c.toks) (λb u e=>Heap.get?_push_of_some _ e) (Q2 _) ?_,rfl,q _ i⟩;exact ⟨z,l,r,⟨_,Heap.get?_push_size _ rfl,rfl,_,rfl⟩⟩
theorem Zhc(h:PA X es t):PE X (.List es pos) (Ztr t):=by
 intro a s k H Q I g;refine wpAny_List_spliced<|thn (h pos a s k H _ I g) λl c ⟨j,f,d,r,z,q⟩=>⟨by rw[<-r.length];exact z,?_⟩;have i:f c.heap.objs.size=none:=d.hok.fresh<|Q2 _;refine ⟨.ref c.heap.objs.size,upd f c.heap.objs.size<|.lst j,d.laid (t':=c.toks) (λb u e=>Heap.get?_push_of_some _ e) (Q2 _) ?_,rfl,q _ i⟩;exact ⟨z,l,0,r,Heap.get?_push_size _ rfl⟩
end
abbrev Sp:=List V->Hp->VK->XK->Prop
abbrev CXT:=List Env->Hp->Shared->XK->Value->Shared->Prop
structure Env0 (P:Program) (w:World) (K:ZZfg) (mg:ZZmg) (base:Heap) (A:Around) (outer:List Env) (s:Shared) (H:Hp):Prop where
 frames:A.frames=some outer
 mod:Mod K mg base
 bs:∀b o,base.get? b=some o->s.heap.get? b=some o/\H b=none
 bsz:base.objs.size<=s.heap.objs.size
 funs:s.heap.FunFrames base outer
 frf:∀b∈frs outer,H b=none
 hok:HOk P w H s.heap
 bare:AllBare s.gens
def CE(a:List Env)(P:Program)(w:World)(H:Hp)(s:Shared)(Q:VK)(u:Value)(b:Shared):Prop :=
 ∃v c,b.os=s.os/\AllBare b.gens/\Un (frs a) [] H c s.heap b.heap/\HOk P w c b.heap/\RelV v u/\Q v c
def CR(CX:CXT)(a:List Env)(P:Program)(w:World)(H:Hp)(s:Shared)(Q:VK)(E:XK)(r:Result)(b:Shared):Prop :=
 match r with
 | .ok (.ret u)=>CE a P w H s Q u b
 | .ok _=>False
 | .error e=>CX a H s E e b
structure FnOk (P:Program) (w:World) (K:ZZfg) (mg:ZZmg) (base:Heap) (CX:CXT) (k:Nat) (f:Addr) (fd:FuncData) (ps:List Str) (sp:Sp):Prop where
 len:∀vs H Q E,sp vs H Q E->vs.length=ps.length
 run:∀(A:Around) (outer:List Env) (s:Shared) (H:Hp) (args:Args) (us:List Value) (vs:List V) (Q:VK) (E:XK),Room k A->Env0 P w K mg base A outer s H->BindsTo s fd args (ps.zip us)->Vals vs us->sp vs H Q E →
  codeAny (model P w) A (.call (.ref f) args) (CR CX outer P w H s Q E) s
theorem FnOk.mono{P:Program}{w:World}{K:ZZfg}{c:ZZmg}{base:Heap}{CX:CXT}{j k:Nat}{f:Addr}{d:FuncData}{ps:List Str}{sp:Sp}(F:FnOk P w K c base CX j f d ps sp)(h:j<=k) :
    FnOk P w K c base CX k f d ps sp:=⟨F.len,λA a s H b i e Q E g=>F.run A a s H b i e Q E<|g.mono h⟩
theorem FnOk.imp{P:Program}{w:World}{K:ZZfg}{d:ZZmg}{base:Heap}{CX:CXT}{k:Nat}{f:Addr}{e:FuncData}{ps:List Str}{sp b:Sp}(F:FnOk P w K d base CX k f e ps sp)
    (h:∀vs H Q E,b vs H Q E->sp vs H Q E):FnOk P w K d base CX k f e ps b :=
  ⟨λvs H Q E q=>F.len vs H Q E<|h _ _ _ _ q,λA a s H c n vs Q E m i l g j=>F.run A a s H c n vs Q E m i l g<|h _ _ _ _ j⟩
theorem Env0.make{P:Program}{w:World}{K:ZZfg}{b:ZZmg}{base:Heap}{A:Around}{a:List Env}{s:Shared}{H:Hp}(e:Env0 P w K b base A a s H)(C:Addr)(us:List Value)(c:List (Str×Value)) :
    Env0 P w K b base (A.under<|.builtin "type.__call__" ⟨.ref C::us,c⟩) a s H:=⟨by first | exact e.frames | (simpa [Around.under,Code.envs,Code.isFrame,pushEnvs] using e.frames),e.mod,e.bs,e.bsz,e.funs,e.frf,e.hok,e.bare⟩
section
variable{X:Cx}{pins:List (Addr×Obj)}{σ:St}{H:Hp}{s s':Shared}
theorem Inv.env0(I:Inv X pins σ H s):Env0 X.prog X.w X.K X.mg X.base X.A X.stack s H :=
 ⟨I.ok.frames,I.ok.mod,I.bs,Q1 I.ok.bsz I.sz,I.stack,I.stkFree,I.hok,I.bare⟩
theorem Inv.after{Q:VK}{u:Value}(I:Inv X pins σ H s)(h:CE X.stack X.prog X.w H s Q u s'):EP X pins σ Q u s':=by
 obtain ⟨v,i,k,a,f,c,r,q⟩:=h;obtain ⟨j,g,d,t,e⟩:=s';obtain rfl:e=s.os:=k;exact ⟨v,i,I.call (h':=j) (g':=g) (d':=d) (t':=t) (ch:=[]) f c a<|λb z=>absurd z (by simp),r,q⟩
end
def Zqf(sp:Sp)(dvs:List V)(E:XK)(t:TA):TE:=λb H Q=>t b H λc a=>sp (c++dvs) a Q E
def Zqg(C:Addr)(sp:Sp)(dvs:List V)(E:XK)(t:TA):TE:=λd H Q=>t d H λe b=>∀x a,b x=none->b a=none->a≠x →
 sp (.ref x::(e++dvs)) (upd (upd b a<|.own x) x<|.ins C a []) (λv c=>v = .non/\Q (.ref x) c) E
def Binds(K:ZZfg)(b:FuncData)(ps:List Str)(ds:List Value):Prop :=
 ∀(s:Shared) (a:List Value),K.In s.heap->(a++ds).length=ps.length->BindsTo s b ⟨a,[]⟩ (ps.zip<|a++ds)
theorem Binds.all{K:ZZfg}{b:FuncData}{ps:List Str}(h:∀us:List Value,us.length=ps.length->bindArgs b ⟨us,[]⟩=pure (ps.zip us)):Binds K b ps []:=λs us _ a=>by
 rw[Wq] at a ⊢;exact .of_eq<|h us a
def Zhd(CX:CXT)(X:Cx)(E:XK):Prop:=∀(a:List (Addr×Obj)) (c:St) (H:Hp) (s:Shared) (e:Value) (b:Shared),Inv X a c H s->CX X.stack H s E e b->X.xe e b
section
variable{X:Cx}{CX:CXT}{k:Nat}{f C:Addr}{fd:FuncData}{ps:List Str}{sp:Sp}{dvs:List V}{ds:List Value}{E:XK}{x m:Str}{p pos apos:Pos}{e o:Expr}{es:List Expr}{ta:TE}{t:TA}
theorem ZnP{a:List (Addr×Obj)}{c:St}{H:Hp}{s:Shared}{Q:VK}{us:List Value}{vs:List V}(F:FnOk X.prog X.w X.K X.mg X.base CX k f fd ps sp)(v:Room k X.A)(l:Binds X.K fd ps ds)(n:Vals dvs ds)(j:Zhd CX X E)
    (I:Inv X a c H s) (r:Vals vs us) (h:sp (vs++dvs) H Q E):wpAny (model X.prog X.w) X.A (call (.ref f) us) (EP X a c Q) X.xe s:=by
  have d:Vals (vs++dvs) (us++ds):=r.append n;have i:(us++ds).length=ps.length:=by rw[<-d.length]; exact F.len _ _ _ _ h
  refine wpAny_call<|codeAny_mono (F.run X.A X.stack s H ⟨us,[]⟩ (us++ds) (vs++dvs) Q E v I.env0 (l s us I.kIn i) d h) λr g b=>?_
  cases r with
  | error e=>exact j a c H s e g I b
  | ok q =>
    cases q with
    | ret u=>exact I.after b
    | next=>exact False.elim b
    | brk=>exact False.elim b
    | cont=>exact False.elim b
theorem ZoB(F:FnOk X.prog X.w X.K X.mg X.base CX k f fd ps sp)(z:Room k X.A)(g:Gl X x)(l:X.mg x=some (.ref f))(n:PySem.W.keepIn X.K (.ref f)=true)(v:Binds X.K fd ps ds)(y:Vals dvs ds)(j:Zhd CX X E)
    (i:PA X (e::es) t) (c:(x==("__debug__" : Str))=false:=by decide) (u:starEach (e::es) X.env=(false,eval e X.env)::starEach es X.env:=by rfl) (b:(backTo pos<|starEach es X.env).any (·.1)=false:=by rfl) :
    PE X (.Call (.Name x p) (e::es) [] pos) (Zqf sp dvs E t):=by
  intro a s w H Q I h;refine wpAny_Call_Name_kw<|ZdH I g l ?_ c;refine PySem.W.callWith_K (h₀:=X.base) I.ok.mod.kin n (thn (i pos a s w H _ I h) λG B ⟨A,D,d,r,q⟩=>⟨d.kIn,?_⟩) u b;exact ZnP F z v y j d r q
structure Mk (K:ZZfg) (C f:Addr):Prop where
 makes:PySem.W.makesIn K C=true
 init:PySem.W.findIn K (.ref C) "__init__"=some (some (.ref f))
 fn:PySem.W.isFn K (.ref f)=true
 kp:PySem.W.keepIn K (.ref C)=true
theorem ZmA{b:List (Addr×Obj)}{g:St}{H:Hp}{s:Shared}{Q:VK}{us:List Value}{vs:List V}(M:Mk X.K C f)(F:FnOk X.prog X.w X.K X.mg X.base CX k f fd ps sp)(L:Room (k+1) X.A)(K:Binds X.K fd ps ds)(y:Vals dvs ds)
    (z:Zhd CX X E) (I:Inv X b g H s) (r:Vals vs us)
    (h:∀x c,H x=none->H c=none->c≠x->sp (.ref x::(vs++dvs)) (upd (upd H c<|.own x) x<|.ins C c []) (λv w=>v = .non/\Q (.ref x) w) E) :
    wpAny (model X.prog X.w) X.A (call (.ref C) us) (EP X b g Q) X.xe s:=by
  have j:=h (s.heap.objs.size+1) s.heap.objs.size (I.hok.fresh<|U9 _) (I.hok.fresh<|Q2 _)<|Q8<|Wp _;have d:=Inv.made (C:=C) I;have i:Vals (V.ref (s.heap.objs.size+1)::(vs++dvs)) (Value.ref (s.heap.objs.size+1)::(us++ds)):=.cons rfl<|r.append y;have q:(Value.ref (s.heap.objs.size+1)::us++ds).length=ps.length:=by
    have e:=i.length;rw[F.len _ _ _ _ j] at e;exact e.symm
  refine wpAny_call<|Zmz (f:=f) I.kIn M.makes M.init (beq_iff_eq.mp M.fn)<|codeAny_mono (F.run _ X.stack _ _ ⟨Value.ref (s.heap.objs.size+1)::us,[]⟩ (Value.ref (s.heap.objs.size+1)::(us++ds)) _ _ E (L.make C us [])
    (d.env0.make C us []) (K _ (Value.ref (s.heap.objs.size+1)::us) d.kIn q) i j) λr l a=>?_
  cases r with
  | error e=>exact z b g _ _ e l d a
  | ok G =>
    cases G with
    | ret u =>
      obtain ⟨v,B,D,n,J,A⟩:=d.after a;subst J;exact ⟨n,⟨V.ref<|s.heap.objs.size+1,B,D,rfl,A⟩⟩
    | next=>exact False.elim a
    | brk=>exact False.elim a
    | cont=>exact False.elim a
theorem ZoC(M:Mk X.K C f)(F:FnOk X.prog X.w X.K X.mg X.base CX k f fd ps sp)(y:Room (k+1) X.A)(g:Gl X x)(l:X.mg x=some (.ref C))(u:Binds X.K fd ps ds)(w:Vals dvs ds)(j:Zhd CX X E)
    (i:PA X (e::es) t) (c:(x==("__debug__" : Str))=false:=by decide) (n:starEach (e::es) X.env=(false,eval e X.env)::starEach es X.env:=by rfl) (b:(backTo pos<|starEach es X.env).any (·.1)=false:=by rfl) :
    PE X (.Call (.Name x p) (e::es) [] pos) (Zqg C sp dvs E t):=by
  intro a s v H Q I h;refine wpAny_Call_Name_kw<|ZdH I g l ?_ c;refine PySem.W.callWith_K (h₀:=X.base) I.ok.mod.kin M.kp (thn (i pos a s v H _ I h) λD A ⟨z,B,d,r,q⟩=>⟨d.kIn,?_⟩) n b;exact ZmA M F y u w j d r q
end
structure FnScope (N P:List Str) (sc:Scope):Prop where
 kind:sc.kind = .function
 co:sc.isCoroutine=false
 gen:sc.isGenerator=false
 nd:N.Nodup
 pre:N.take P.length=P
 par:∀x∈P,sc.names.lookup x=some .local\/sc.names.lookup x=some .cell
 nofree:∀y∈sc.names,y.2 ≠ .free
theorem Zhe{b:Str->Option NameKind}{x:Str}:∀ {a:List (Str×Value)} {m:Str->Option Value},(∀v,(x,v)∉a)->bindL b a m x=m x
 | [],_,_=>rfl
 |(n,v)::r,m,h=>by
  unfold bindL;rw[Zhe λw c=>h w<|Qy _ c]
  split
  ·have:x≠n:=by rintro rfl;exact h v Qm
   simp[this]
  ·rfl
theorem Zhf{b:Str->Option NameKind}{x:Str}:∀ {a:List (Str×Value)} {m:Str->Option Value},(∀v,(x,v)∉a)->bindC b a m x=m x
 | [],_,_=>rfl
 |(n,v)::r,m,h=>by
  unfold bindC;rw[Zhf λw c=>h w<|Qy _ c]
  split
  ·rfl
  ·have:x≠n:=by rintro rfl;exact h v Qm
   simp[this]
theorem Zhg{a:Str->Option NameKind}{x:Str}{v:Value}:∀ {P:List Str} {vs:List Value} {i:Nat} {m:Str->Option Value},P.Nodup->P[i]?=some x->vs[i]?=some v->a x=some .local →
    bindL a (P.zip vs) m x=some v
  | [],_,_,_,_,h,_,_=>by simp at h
  | _::_,[],_,_,_,_,h,_=>by simp at h
  | p::P,w::vs,0,m,nd,h1,h2,hk=>by
    simp at h1 h2; subst h1; subst h2
    show bindL a ((p,w)::P.zip vs) m p=_;unfold bindL;rw[Zhe λv b=>(List.nodup_cons.mp nd).1 (List.of_mem_zip b).1,if_pos hk]
    simp
  | p::P,w::vs,i+1,m,nd,h1,h2,hk=>by
    show bindL a ((p,w)::P.zip vs) m x=_;unfold bindL;exact Zhg (i:=i) (List.nodup_cons.mp nd).2 (by simpa using h1) (by simpa using h2) hk
theorem Zhh{a:Str->Option NameKind}{x:Str}{v:Value}:∀ {P:List Str} {vs:List Value} {i:Nat} {m:Str->Option Value},P.Nodup->P[i]?=some x->vs[i]?=some v->a x≠some .local →
    bindC a (P.zip vs) m x=some v
  | [],_,_,_,_,h,_,_=>by simp at h
  | _::_,[],_,_,_,_,h,_=>by simp at h
  | p::P,w::vs,0,m,nd,h1,h2,hk=>by
    simp at h1 h2; subst h1; subst h2
    show bindC a ((p,w)::P.zip vs) m p=_;unfold bindC;rw[Zhf λv b=>(List.nodup_cons.mp nd).1 (List.of_mem_zip b).1,if_neg hk]
    simp
  | p::P,w::vs,i+1,m,nd,h1,h2,hk=>by
    show bindC a ((p,w)::P.zip vs) m x=_;unfold bindC;exact Zhh (i:=i) (List.nodup_cons.mp nd).2 (by simpa using h1) (by simpa using h2) hk
def start(N:List Str)(vs:List V):St:=vs.map some++List.replicate (N.length-vs.length) none
def ZoD(CX:CXT)(P:Program)(w:World)(K:ZZfg)(mg:ZZmg)(base:Heap)(N:List Str)(b:Str)(a:Scope)(f:Addr)(d:Value)(A:Around)(outer:List Env)(s:Shared)(H:Hp)(E:XK):Cx where
 prog:=P
 w:=w
 K:=K
 mg:=mg
 base:=base
 A:=A.deeper<|envOfC b a s.heap.objs.size f d
 N:=N
 s₀:=s
 H₀:=H
 env:=envOfC b a s.heap.objs.size f d
 outer:=outer
 stack:=envOfC b a s.heap.objs.size f d::outer
 ex:=[]
 calm:=true
 fn:=λ_=>true
 pn:=[]
 xe:=λe g=>wpAny (model P w) (A.deeper<|envOfC b a s.heap.objs.size f d) (leaving (envOfC b a s.heap.objs.size f d) e) (λ_ c=>CX outer H s E e c) (λh c=>CX outer H s E h c) g
theorem Zi3{a:Scope}{n:Nat}{x:Str}(h:a.names.lookup x=some .cell):∃c,(cellsFrom n a.names []).lookup x=some c:=by
 have q:=PySem.W.cellsFrom_some a.names n []<|.inl h;exact Uk.mp q
theorem ZkK{CX:CXT}{P:Program}{w:World}{K:ZZfg}{G:ZZmg}{base:Heap}{N ps:List Str}{j:Str}{d:Scope}{f:Addr}{D:Value}{A:Around}{g:List Env}{s J:Shared}{H:Hp}{E:XK}{us:List Value}{vs:List V}
    (S:FnScope N ps d) (R:A.handled=none) (m:Env0 P w K G base A g s H) (U:vs.length=ps.length) (r:Vals vs us)
    (x:InCallC s s.heap.objs.size (bindL (envOfC j d s.heap.objs.size f D).kindOf (ps.zip us) λ_=>none) (cellsFrom (s.heap.objs.size+1) d.names []) (bindC (envOfC j d s.heap.objs.size f D).kindOf (ps.zip us) λ_=>none) J) :
    Inv (ZoD CX P w K G base N j d f D A g s H E) [] (start N vs) H J:=by
  have O:ps.length<=N.length:=by have:=congrArg List.length S.pre; rw[Qi] at this; omega
  obtain ⟨F,T,rfl,I⟩:=x.done;have o:∀b:Addr,b∉(ZoD CX P w K G base N j d f D A g s H E).ex:=λb z=>absurd (show b∈([]:ZZla) from z) (by simp);refine ⟨⟨m.mod,S.kind,rfl,rfl,Q2 _,λy z c F l=>?_,λy hy=>?_,λy c _ h=>?_,λ_=>R,Around.frames_deeper m.frames,.inr ⟨rfl,rfl⟩,λb z=>absurd z<|o b,m.bs,m.bsz,λb _ _=>o b,λb z=>absurd z<|o b,m.funs,m.frf⟩,
    rfl,m.bare,Un.kept I,⟨_,x.toInCall.ns,λi y v F l W=>?_⟩,λy c h=>⟨_,x.cell y c h⟩,m.hok.fresh<|Q2 _,λy c h=>?_,λp t=>absurd (show p∈([]:List (Addr×Obj)) from t) (by simp),m.hok.kept I,?_⟩
  · exact name_of_addr x.apart (PySem.mem_of_lookup F) (PySem.mem_of_lookup l)
  · have hy:d.names.lookup y=some .cell\/d.names.lookup y=some .free:=hy
    rcases hy with hy | hy
    · exact Zi3 hy
    · exact absurd rfl (S.nofree _<|PySem.mem_of_lookup hy)
  · exact Qx (x.above y c<|PySem.mem_of_lookup h)
  · have C:i<vs.length:=by
      unfold start at l
      by_cases C:i<vs.length
      · exact C
      · rw[Wa (by simpa using C)] at l
        rw[List.getElem?_replicate] at l
        split at l <;> cases l
    have Q:vs[i]?=some v:=by
      unfold start at l;rw[Wd (by simpa using C),Q4] at l
      cases e:vs[i]? with
      | none=>rw[e] at l; cases l
      | some a=>rw[e] at l; cases l; rfl
    obtain ⟨u,L,M⟩:=r.get Q;have t:ps[i]?=some y:=by
      rw[<-S.pre,List.getElem?_take_of_lt ⋯]; exact F
    have B:ps.Nodup:=by rw[<-S.pre]; exact S.nd.sublist<|List.take_sublist _ _
    refine ⟨u,M,?_⟩;rcases S.par y (Qp t) with k | k
    · exact .inl ⟨k,Zhg B t L k⟩
    · obtain ⟨c,e⟩:=Zi3 (n:=s.heap.objs.size+1) k
      refine .inr ⟨.inl k,c,e,?_⟩;have q:=x.cell y c e;rw[Zhh B t L (by show d.names.lookup y≠_; rw[k]; decide)] at q;exact q
  · exact m.hok.fresh (Qx<|x.above y c<|PySem.mem_of_lookup h)
  · unfold start
    show _=N.length;rw[Qc,Q0,Wr];omega
theorem ZeN{CX:CXT}{P:Program}{w:World}{K:ZZfg}{G:ZZmg}{base:Heap}{k:Nat}{f:Addr}{name d:Str}{h:Arguments}{body:List Stmt}{a:Scope}{Y kV B W g ct oc:Value}{Z od:Option Addr}
    {R:Array (Option Value)} {N ps:List Str} {sp:Sp} (lk:K.lookup f=some ⟨oc,od,.func<|PySem.W.fnOf name d h body a Y kV B W Z g ct,R⟩) (L:PySem.W.codeIn K g d=true) (S:FnScope N ps a)
    (F:∀vs H Q E,sp vs H Q E->vs.length=ps.length)
    (l:∀(A:Around) (c:List Env) (s:Shared) (H:Hp) (vs:List V) (Q:VK) (E:XK),Room k (A.deeper<|envOfC d a s.heap.objs.size f g)->sp vs H Q E →
      ∃t,PSs (ZoD CX P w K G base N d a f g A c s H E) body t/\t { nx:=λ_ j=>Q .non j,rt:=Q } (start N vs) H) :
    FnOk P w K G base CX (k+1) f (PySem.W.fnOf name d h body a Y kV B W Z g ct) ps sp:=by
  refine ⟨F,λA c s H a0 us vs Q E O D hb r C=>?_⟩;have hl:=F _ _ _ _ C;have KX:K.In s.heap:=D.mod.kin.keeps λb o e=>(D.bs b o e).1;have M:s.heap.NoLimit:=D.mod.nolimit.keeps λb o e=>(D.bs b o e).1;have m:∀y∈ps.zip us,a.names.lookup y.1=some .local\/(a.names.lookup y.1=some .cell/\((cellsFrom (s.heap.objs.size+1) a.names []).lookup y.1).isSome=true):=λ⟨n,v⟩ hy=>by
    rcases S.par n (List.of_mem_zip hy).1 with q | q
    · exact .inl q
    · exact .inr ⟨q,PySem.W.cellsFrom_some _ _ _<|.inl q⟩
  refine codeAny_call_function O.depth (KX _ _ lk) rfl S.co S.gen rfl (PySem.W.codeRec_of KX L)<|hb _ _ _ _ ?_;refine wpAny_newFunctionEnv_cells S.kind m λa1 he X x=>?_;subst he;refine ⟨M.keeps x.toInCall.keep,codeAny_func ?_⟩;obtain ⟨t,ht,hq⟩:=l A c s H vs Q E (O.deeper _) C;have I:Inv (ZoD CX P w K G base N d a f g A c s H E) [] (start N vs) H X:=ZkK S O.hd D hl r x;refine wpAny_mono (ht [] X (start N vs) H _ I hq) (λfl T p=>?_) λe T p=>p;have z:∀ {i:St} {j:Hp} {v:V} {u:Value},Inv (ZoD CX P w K G base N d a f g A c s H E) [] i j T->RelV v u->Q v j->CE c P w H s Q u T :=
    fun {i j v u} J U q=>⟨v,j,J.os,J.bare,J.base,J.hok,U,q⟩
  cases fl with
  | ret u =>
    obtain ⟨v,i,j,J,U,q⟩:=p;exact z J U q
  | next =>
    obtain ⟨i,j,J,q⟩:=p;exact z (v:=V.non) (u:=Value.none) J rfl q
  | brk =>
    obtain ⟨_,_,_,q⟩:=p;exact False.elim q
  | cont =>
    obtain ⟨_,_,_,q⟩:=p;exact False.elim q
section
variable{X:Cx}{x:Str}{p pos:Pos}{e:Expr}{es:List Expr}{t:TA}{id T:String}{r:List V->Hp->VK->Prop}
def tCB(r:List V->Hp->VK->Prop)(t:TA):TE:=λa H Q=>t a H λc b=>r c b Q
theorem Zan(w:ZdZ X (.builtin id) r)(g:Gl X x)(k:X.mg x=none)(f:bootBuiltins x=some (.builtin id))(i:PA X (e::es) t)(o:x ≠ "__name__" := by decide) (c:(x==("__debug__" : Str))=false:=by decide)
    (l:starEach (e::es) X.env=(false,eval e X.env)::starEach es X.env:=by rfl) (b:(backTo pos<|starEach es X.env).any (·.1)=false:=by rfl):PE X (.Call (.Name x p) (e::es) [] pos) (tCB r t):=by
  intro a s d H Q I h;refine wpAny_Call_Name_kw<|ZdE I g k f ?_ o c;exact PyProof.Rows.callWith_builtin1 (thn (i pos a s d H _ I h) λy u ⟨n,v,j,q,m⟩=>w a u d v n y Q j q m) l b
theorem Zd1(w:ZdZ X (.type T) r)(g:Gl X x)(k:X.mg x=none)(f:bootBuiltins x=some (.type T))(i:PA X (e::es) t)(o:x ≠ "__name__" := by decide) (c:(x==("__debug__" : Str))=false:=by decide)
    (l:starEach (e::es) X.env=(false,eval e X.env)::starEach es X.env:=by rfl) (b:(backTo pos<|starEach es X.env).any (·.1)=false:=by rfl):PE X (.Call (.Name x p) (e::es) [] pos) (tCB r t):=by
  intro a s d H Q I h;refine wpAny_Call_Name_kw<|ZdE I g k f ?_ o c;exact PyProof.Rows.callWith_type1 (thn (i pos a s d H _ I h) λy u ⟨n,v,j,q,m⟩=>w a u d v n y Q j q m) l b
end
end L2
namespace HT
open PySem PyProof.Rows
section
variable{prog:Program}{w:World}{A:Around}{E:Value->Shared->Prop}{s:Shared}
theorem cat_tup{t b:Addr}{vs a:List Value}{Q:Value->Shared->Prop}(u:IsTup s.heap t vs.toArray)(x:IsTup s.heap b a.toArray)(l:vs≠[])
    (y:a=[]->Q (.ref t) s) (v:a≠[]->Q (.ref s.heap.objs.size) { s with heap:=s.heap.push { cls:=.type "tuple", data:=.seq (vs++a).toArray } })
    (hsz:vs.length+a.length<=sizeLine):wpAny (model prog w) A (binaryOp .Add (.ref t)<|.ref b) Q E s:=by
  obtain ⟨⟨cls,k,data,p⟩,i,r,n,q⟩:=id u;obtain ⟨⟨o,g,j,f⟩,c,h,m,d⟩:=id x
  simp only at r q h d
  subst r q h d;have e:vs.toArray++a.toArray=(vs++a).toArray:=by simp
  by_cases hw:a=[]
  · exact concat_meets ⟨_,i,rfl⟩ ⟨_,c,rfl⟩ noFill_tuple_add seq_tuple_add PySem.F.slot_tuple_add PySem.F.entry_tuple_add (PySem.F.args_tuple_add_2 _ _)
      (tuple_addW1 t b vs.toArray a.toArray n m k g p f (by simpa using l) (by simp[hw])) ⟨i,c,y hw⟩
  · refine concat_meets ⟨_,i,rfl⟩ ⟨_,c,rfl⟩ noFill_tuple_add seq_tuple_add PySem.F.slot_tuple_add PySem.F.entry_tuple_add (PySem.F.args_tuple_add_2 _ _)
      (tuple_addW2 t b vs.toArray a.toArray n m k g p f (by simpa using l) (by simpa using hw) (by rw[Qd,Qd]; exact hsz)) ⟨i,c,?_⟩
    rw[e];exact v hw
def sIx(n d:Nat):Option Int->Nat
 |none=>d
 |some v=>if v<0 then (v+(n:Int)).toNat else min v.toNat n
theorem sIx_none(n d:Nat):sIx n d none=d:=rfl
theorem sIx_nat(n d k:Nat):sIx n d (some (k:Int))=min k n:=by
 show (if (k:Int)<0 then ((k:Int)+(n:Int)).toNat else min (k:Int).toNat n)=min k n;rw[if_neg ⋯,Qa]
theorem Zqh(n d:Nat)(a:d<=n)(o:Option Int):sIx n d o<=n:=by
 cases o with
 |none=>exact a
 |some v =>
  show (if v<0 then (v+(n:Int)).toNat else min v.toNat n)<=n
  by_cases hv:v<0
  ·rw[if_pos hv];omega
  ·rw[if_neg hv];exact Nat.min_le_right _ _
theorem ZkL(v:Int)(n d:Nat):(if v<0 then max (v+(n:Int)) 0 else min v (n:Int))=((sIx n d (some v):Nat):Int):=by
 show (if v<0 then max (v+(n:Int)) 0 else min v (n:Int))=(((if v<0 then (v+(n:Int)).toNat else min v.toNat n):Nat):Int)
 by_cases hv:v<0
 ·simp only[if_pos hv];omega
 ·simp only[if_neg hv];omega
theorem ZjP(lo a:Option Int)(n:Nat):Builtin.Slice.sliceAdjust lo a 1 (n:Int)=(((sIx n 0 lo:Nat):Int),((sIx n n a:Nat):Int)):=by
 have b:¬((1:Int)<0):=⋯;unfold Builtin.Slice.sliceAdjust
 simp only[b,if_false]
 refine Prod.ext ?_ ?_
 ·cases lo with
  |none=>rfl
  |some v=>exact ZkL v n 0
 ·cases a with
  |none=>rfl
  |some v=>exact ZkL v n n
theorem ZjQ(i j:Nat):Builtin.Slice.slicePlaces (i:Int) (j:Int) 1=j-i:=by
 unfold Builtin.Slice.slicePlaces;have a:(1:Int)>0:=⋯
 simp only[a,if_true,Int.ediv_one]
 split <;> omega
theorem ZfV{v:Value}{o:Option Int}{Q:Option Int->Shared->Prop}(p:IsPart v o)(h:Q o s):wpAny (model prog w) A (Builtin.Slice.slicePartIndex v) Q E s:=by
 cases p with
 |none=>exact slicePart_none h
 |int i t=>exact slicePart_int h
theorem ZeO{f:Addr}{d e:Value}{lo a:Option Int}{n:Nat}{Q:Int×Int×Nat->Shared->Prop}(g:s.heap.IsSliceOf f d e .none)(pl:IsPart d lo)(i:IsPart e a)
    (h:Q (((sIx n 0 lo:Nat):Int),1,sIx n n a-sIx n 0 lo) s):wpAny (model prog w) A (Builtin.Slice.sliceApplied (.ref f)<|pure (n:Int)) Q E s:=by
  obtain ⟨k,b,j,c⟩:=id g;unfold Builtin.Slice.sliceApplied Builtin.Slice.sliceFields;refine wpAny_bind<|wpAny_bind<|wpAny_field b c (x:=d) rfl<|wpAny_bind<|wpAny_field b c (x:=e) rfl<|wpAny_bind<|wpAny_field b c (x:=.none) rfl<|wpAny_pure ?_;refine wpAny_bind<|slicePart_none ?_;show wpAny _ _ (if ((1:Int)==0)=true then _ else _) _ _ s;rw[if_neg ∅];refine wpAny_bind<|ZfV pl<|wpAny_bind<|ZfV i<|wpAny_bind<|wpAny_pure ?_;show wpAny _ _ (match Builtin.Slice.sliceAdjust lo a 1 (n:Int) with | (lo,a)=>pure (lo,(1:Int),Builtin.Slice.slicePlaces lo a 1)) _ _ s;rw[ZjP lo a n];show wpAny _ _ (pure (((sIx n 0 lo:Nat):Int),(1:Int),Builtin.Slice.slicePlaces ((sIx n 0 lo:Nat):Int) ((sIx n n a:Nat):Int) 1)) _ _ s;rw[ZjQ];exact wpAny_pure h
theorem ZmB(xs:Array Value)(i k:Nat):((List.range k).filterMap λ(m:Nat)=>xs[((i:Int)+(m:Int)*1).toNat]?).toArray=((xs.toList.drop i).take k).toArray:=by
 have e:(λ(m:Nat)=>xs[((i:Int)+(m:Int)*1).toNat]?)=λm=>xs[i+m]?:=by
  funext m
  have:((i:Int)+(m:Int)*1).toNat=i+m:=⋯;rw[this]
 rw[e];have:=pick_run xs i k;rw[List.filterMap_map] at this;have a:((λx=>xs[x]?)∘λx=>i+x)=λm=>xs[i+m]?:=rfl;rw[a] at this;rw[this]
theorem getItem_tuple_cut{t i:Addr}{items:Array Value}{j l:Value}{lo b:Option Int}{Q:Value->Shared->Prop}(c:IsTup s.heap t items)(k:s.heap.IsSliceOf i j l .none)(pl:IsPart j lo)(n:IsPart l b)
    (hw:¬(sIx items.size 0 lo=0/\sIx items.size items.size b=items.size))
    (h:Q (.ref s.heap.objs.size) { s with heap:=s.heap.push { cls:=.type "tuple", data:=.seq ((items.toList.drop<|sIx items.size 0 lo).take<|sIx items.size items.size b-sIx items.size 0 lo).toArray } })
    (hsz:items.size<=sizeLine):wpAny (model prog w) A (getItem (.ref t)<|.ref i) Q E s:=by
  have a:sizeOk (.seq ((items.toList.drop<|sIx items.size 0 lo).take<|sIx items.size items.size b-sIx items.size 0 lo).toArray):=by
    show ((items.toList.drop<|sIx items.size 0 lo).take<|sIx items.size items.size b-sIx items.size 0 lo).toArray.size<=sizeLine;rw[Qd,Qi,Qv,Ux];omega
  have r:sIx items.size items.size b<=items.size:=Zqh _ _ (Q2 _) b;obtain ⟨o,f,g,p⟩:=id k;have d:s.TypeIs (.ref i) "slice" := ⟨o,f,g⟩;unfold getItem
  try with_reducible refine wpAny_holding ?_
  first | refine wpAny_bind (wpAny_pure ?_) | skip
  refine wpAny_bind<|wpAny_sequenceKey c.typeIs ∅ ?_;refine wpAny_bind<|wpAny_callSpecial?_slot (name:=Str.ofString "__getitem__") c.typeIs PyProof.Rows.slot_tuple_getitem
    (wpAny_call_entry PyProof.Rows.slot_tuple_getitem c.typeIs entry_tuple_getitem ?_<|args_tuple_getitem _ _)
  show wpAny _ _ (Builtin.Tuple.tupleItemsOf (.ref t) >>= _) _ _ s;refine wpAny_bind<|tupleItemsOf_ c ?_;refine wpAny_bind<|wpAny_typeOf d ?_;rw[if_pos ∅];refine wpAny_bind<|ZeO k pl n ?_;have e:¬((((sIx items.size 0 lo:Nat):Int)==0&&(1:Int)==1&&(sIx items.size items.size b-sIx items.size 0 lo)==items.size)=true):=by
    intro q;rw[Bool.and_eq_true,Bool.and_eq_true] at q;have v:((sIx items.size 0 lo:Nat):Int)=0:=eq_of_beq q.1.1;have u:sIx items.size items.size b-sIx items.size 0 lo=items.size:=eq_of_beq q.2;exact hw ⟨⋯,⋯⟩
  show wpAny _ _ (if (((sIx items.size 0 lo:Nat):Int)==0&&(1:Int)==1&&(sIx items.size items.size b-sIx items.size 0 lo)==items.size)=true then _ else _) _ _ s;rw[if_neg e,ZmB]
  first
    | exact wpAny_bind (m:=Builtin.Tuple.tupleExact _) (wpAny_newObj_type (wpAny_pure ⟨_,rfl,wpAny_pure h⟩) a)
    | exact wpAny_bind (m:=Builtin.Tuple.tupleExact _) (wpAny_newObj_type (wpAny_bind<|wpAny_pure<|wpAny_pure ⟨_,rfl,wpAny_pure h⟩) a)
    | exact wpAny_bind (wpAny_bind (m:=Builtin.Tuple.tupleExact _)<|wpAny_newObj_type (wpAny_pure<|wpAny_pure ⟨_,rfl,wpAny_pure h⟩) a)
    | exact wpAny_bind (wpAny_bind (m:=Builtin.Tuple.tupleExact _)<|wpAny_newObj_type (wpAny_pure ⟨_,rfl,wpAny_pure h⟩) a)
end
end HT
namespace L2
open PySem PySem.Spec PyProof.Rows
abbrev TO:=St->Hp->(Option Int->Hp->Prop)->Prop
def PO(X:Cx)(e:Option Expr)(t:TO):Prop :=
 ∀(a:List (Addr×Obj)) (s:Shared) (b:St) (H:Hp) (Q:Option Int->Hp->Prop),Inv X a b H s->t b H Q →
  wpAny (model X.prog X.w) X.A (evalPart e X.env) (λu d=>∃o c,Inv X a b c d/\IsPart u o/\Q o c) X.xe s
def ZoE:TO:=λ_ H Q=>Q none H
def ZrY(t:TE):TO:=λa H Q=>t a H λx b=>∃i,x = .int i/\Q (some i) b
section
variable{X:Cx}{e:Expr}{te:TE}{lo hi:Option Expr}{tl th:TO}{pos p2:Pos}
theorem ZhV:PO X none ZoE:=by
 intro a s b H Q I h;rw[evalPart_none];exact wpAny_pure ⟨none,H,I,.none,h⟩
theorem ZhW(h:PE X e te):PO X (some e) (ZrY te):=by
 intro a s j H Q I f;rw[evalPart_some];refine thn (h a s j H _ I f) λu k ⟨x,g,b,d,c⟩=>?_;obtain ⟨i,rfl,q⟩:=c;obtain ⟨t,rfl⟩:=d;exact ⟨some i,g,b,.int i t,q⟩
def SlR(X:Cx)(r:V->Option Int->Option Int->Hp->VK->Prop):Prop :=
 ∀(a:List (Addr×Obj)) (s:Shared) (f:St) (H:Hp) (x:V) (v b d:Value) (lo hi:Option Int) (c:Addr) (Q:VK),Inv X a f H s->RelV x v->s.heap.IsSliceOf c b d .none->IsPart b lo->IsPart d hi->r x lo hi H Q →
  ∃T g,typeLookup (.type T) "__getitem__"=pure (some<|.builtin g)/\s.TypeIs v T/\wpAny (model X.prog X.w) X.A (getItem v<|.ref c) (EP X a f Q) X.xe s
def tSl(r:V->Option Int->Option Int->Hp->VK->Prop)(te:TE)(tl th:TO):TE:=λa H Q=>te a H λx c=>tl a c λl d=>th a d λu b=>r x l u b Q
theorem ZeS{r:V->Option Int->Option Int->Hp->VK->Prop}(K:SlR X r)(n:PE X e te)(i:PO X lo tl)(t:PO X hi th):PE X (.Subscript e (.Slice lo hi none p2) pos) (tSl r te tl th):=by
 intro a s d H Q I h;refine Subscript_<|thn (n a s d H _ I h) λv o ⟨x,y,A,D,B⟩=>?_;refine wpAny_Slice<|thn (i a o d y _ A B) λf F ⟨l,j,J,pl,w⟩=>thn (t a F d j _ J w) λvu c ⟨u,g,E,p,k⟩=>?_;rw[evalPart_none];refine wpAny_pure ?_;have C:Inv X a d g { c with heap:=c.heap.push { cls:=.type "slice", data:=.fields #[f,vu,.none] } }:=E.kept (t':=c.toks) λb L q=>Heap.get?_push_of_some _ q;obtain ⟨T,M,G,m,z⟩:=K a { c with heap:=c.heap.push { cls:=.type "slice", data:=.fields #[f,vu,.none] } } d g x v f vu l u c.heap.objs.size Q C D (Heap.IsSliceOf.new ..) pl p k;show wpAny (model X.prog X.w) X.A (subscriptTail e (.Slice lo hi none p2) v<|.ref c.heap.objs.size) (EP X a d Q) X.xe { c with heap:=c.heap.push { cls:=.type "slice", data:=.fields #[f,vu,.none] } };exact tail_any (ops:=[.ref c.heap.objs.size,v]) m G z (by with_unfolding_all rfl)
def Zko(xs:List V)(lo hi:Option Int):List V:=(xs.drop<|HT.sIx xs.length 0 lo).take<|HT.sIx xs.length xs.length hi-HT.sIx xs.length 0 lo
theorem Ze7(xs:List V)(lo hi:Option Int):(Zko xs lo hi).length<=xs.length:=by
 unfold Zko;rw[Qi,Qv];omega
def Zts(K:ZZfg):V->Option Int->Option Int->Hp->VK->Prop:=λx lo hi H Q=>∃a b,x = .ref a/\SqT K H a b ∧
 ¬(HT.sIx b.length 0 lo=0/\HT.sIx b.length b.length hi=b.length)/\∀p,H p=none->Q (.ref p) (upd H p<|.tup<|Zko b lo hi)
theorem Zqi:SlR X (Zts X.K):=by
 intro j s z H x v u y lo hi w Q I k m pl n h;obtain ⟨a,d,rfl,l,p,q⟩:=h
 cases k
 obtain ⟨f,r,g,i⟩:=I.tuple l;have c:f.toArray.size=d.length:=by rw[Qd];exact r.length.symm
 refine ⟨"tuple", _,PyProof.Rows.slot_tuple_getitem.lookup,g.typeIs,?_⟩;refine HT.getItem_tuple_cut g m pl n (by rw[c];exact p) ?_ (by rw[c];exact i);rw[c];refine ⟨.ref s.heap.objs.size,_,I.laid (t':=s.toks) (o:=.tup<|Zko d lo hi) (λb t q=>Heap.get?_push_of_some _ q) (Q2 _) ?_,rfl,q _<|I.hok.fresh<|Q2 _⟩;exact ⟨Q1 (Ze7 d lo hi) i,_,(r.drop<|HT.sIx d.length 0 lo).take<|HT.sIx d.length d.length hi-HT.sIx d.length 0 lo,IsTup.new _ _⟩
def ZrZ(K:ZZfg):R2:=λx y H Q=>∃a b d c,x = .ref a/\y = .ref b/\SqT K H a d/\SqT K H b c/\d≠[]/\d.length+c.length<=sizeLine ∧
 (c=[]->Q (.ref a) H)/\(c≠[]->∀p,H p=none->Q (.ref p) (upd H p<|.tup<|d++c))
theorem Vals.nil_iff{xs:List V}{us:List Value}(r:Vals xs us):us=[]↔xs=[]:=by
 cases r with
 |nil=>simp
 |cons _ _=>simp
theorem ZoF:OpR X (binaryOp .Add) (ZrZ X.K):=by
 intro i s E H x y v u Q I m n h;obtain ⟨a,b,B,k,rfl,rfl,p,C,r,f,t,A⟩:=h
 cases m
 cases n
 obtain ⟨l,d,j,_⟩:=I.tuple p;obtain ⟨g,c,p2,_⟩:=I.tuple C;refine HT.cat_tup j p2 (λz=>r<|d.nil_iff.mp z) (λz=>⟨.ref a,H,I,rfl,t<|c.nil_iff.mp z⟩) (λz=>?_) (by rw[<-d.length,<-c.length];exact f);refine ⟨.ref s.heap.objs.size,_,I.laid (t':=s.toks) (o:=.tup<|B++k) (λb D q=>Heap.get?_push_of_some _ q) (Q2 _) ?_,rfl,A (λw=>z<|c.nil_iff.mpr w) _<|I.hok.fresh<|Q2 _⟩;exact ⟨by rw[Qc];exact f,_,d.append c,IsTup.new _ _⟩
end
def ixN(n:Nat)(i:Int):Option Nat:=if 0<=i then (if i<n then some i.toNat else none) else if -(n:Int)<=i then some (i+n).toNat else none
def atI{α:Type}(xs:List α)(i:Int):Option α:=(ixN xs.length i).bind λj=>xs[j]?
theorem ZkM{n:Nat}{i:Int}{j:Nat}(h:ixN n i=some j):seqIndex? i n=some j/\j<n /\ -(n:Int)<=i/\i<n:=by
 unfold ixN at h
 by_cases h0:0<=i
 ·rw[if_pos h0] at h
  by_cases h1:i<n
  ·rw[if_pos h1] at h;have e:i.toNat=j:=Option.some.inj h;exact ⟨by rw[seqIndex_of h0 h1,e],⋯,⋯,h1⟩
  ·rw[if_neg h1] at h;cases h
 ·rw[if_neg h0] at h
  by_cases h1:-(n:Int)<=i
  ·rw[if_pos h1] at h;have e:(i+n).toNat=j:=Option.some.inj h;exact ⟨by rw[seqIndex_neg ⋯ h1,e],⋯,h1,⋯⟩
  ·rw[if_neg h1] at h;cases h
theorem ZkN{α:Type}{xs:List α}{i:Int}{v:α}(h:atI xs i=some v):∃j,seqIndex? i xs.length=some j/\xs[j]?=some v/\j<xs.length /\ -(xs.length:Int)<=i/\i<xs.length:=by
 unfold atI at h
 cases e:ixN xs.length i with
 |none=>rw[e] at h;cases h
 |some j =>
  rw[e] at h;obtain ⟨d,a,c,b⟩:=ZkM e;exact ⟨j,d,h,a,c,b⟩
theorem Zaq{α:Type}{xs:List α}{j:Nat}{v:α}(h:xs[j]?=some v):atI xs (j:Int)=some v:=by
 have a:j<xs.length:=(Qn.mp h).1;have e:ixN xs.length (j:Int)=some j:=by
  unfold ixN;rw[if_pos ⋯,if_pos ⋯];simp
 unfold atI;rw[e];exact h
def ZkO(b:Expr):Prop:=∀o i,subscripted b false o i=operate [o,i] (getItem o i)
def IxR(X:Cx)(r:R2):Prop :=
 ∀(c a:Expr) (b:List (Addr×Obj)) (s:Shared) (d:St) (H:Hp) (x y:V) (v u:Value) (Q:VK),Inv X b d H s->RelV x v->RelV y u->r x y H Q →
  subscripted a false v u=operate [v,u] (getItem v u)->wpAny (model X.prog X.w) X.A (subscriptTail c a v u) (EP X b d Q) X.xe s
def MtR(X:Cx)(e:String)(r:V->List V->Hp->VK->Prop):Prop :=
 ∀(a:List (Addr×Obj)) (s:Shared) (b:St) (H:Hp) (x:V) (c:List V) (v:Value) (d:List Value) (Q:VK),Inv X a b H s->RelV x v->Vals c d->r x c H Q →
  wpAny (model X.prog X.w) X.A (call (.builtin e) (v::d)) (EP X a b Q) X.xe s
section
variable{X:Cx}{a b:Expr}{ta tb:TE}{pos:Pos}
theorem ZaF{r:R2}(n:IxR X r)(g:PE X a ta)(l:PE X b tb)(i:ZkO b):PE X (.Subscript a b pos) (tOp r ta tb):=by
 intro c s m H Q I h;exact Subscript_<|ZrV g l I h λv u j x y f k d e q=>n a b c j m f x y v u Q k d e q<|i _ _
inductive ZrJ (K:ZZfg) (x y:V) (H:Hp) (Q:VK):Prop
 |mk (p:Addr) (xs:List V) (i:Int) (v:V) (_:x = .ref p) (_:y = .int i) (_:SqL K H p xs) (_:atI xs i=some v) (_:Q v H):ZrJ K x y H Q
inductive Zqj (K:ZZfg) (x y:V) (H:Hp) (Q:VK):Prop
 |mk (p:Addr) (xs:List V) (i:Int) (v:V) (_:x = .ref p) (_:y = .int i) (_:SqT K H p xs) (_:atI xs i=some v) (_:Q v H):Zqj K x y H Q
theorem Za9:IxR X (ZrJ X.K):=by
  intro l g c s A H x y v u Q I E J h n;obtain ⟨p,N,i,z,rfl,rfl,K,F,q⟩:=h
  cases E
  obtain ⟨t,rfl⟩:=J;obtain ⟨k,r,pl,O⟩:=I.list K;obtain ⟨j,e,G,P,L,C⟩:=ZkN F;obtain ⟨w,o,m⟩:=r.get G;have D:=r.length;have M:=Zi0;have d:EP X c A Q w s:=⟨z,H,I,m,q⟩
  by_cases h0:0<=i
  · have f:i.toNat=j:=by
      rw[seqIndex_of h0 C] at e;exact Option.some.inj e
    exact item_listR pl.isList h0 ⋯ (by rw[f]; simpa using o) d n
  · have f:(i+(k.toArray.size:Int)).toNat=j:=by
      rw[seqIndex_neg ⋯ L] at e;rw[Qd,<-D];exact Option.some.inj e
    exact subscriptTail_builtinR (x:=w) pl.isList.typeIs slot_list_getitem.lookup
      (wpAny_getItem_list_neg (Q:=λr B=>r=w/\EP X c A Q r B) pl.isList ⋯ (by rw[Qd] <;> omega) ⋯ (by rw[f]; simpa using o) ⟨rfl,d⟩) n
theorem Zaw:IxR X (Zqj X.K):=by
 intro f e c s k H x y v u Q I n C h D;obtain ⟨p,L,i,z,rfl,rfl,E,o,q⟩:=h
 cases n
 obtain ⟨t,rfl⟩:=C;obtain ⟨B,r,pl,M⟩:=I.tuple E;obtain ⟨j,G,A,O,N,J⟩:=ZkN o;obtain ⟨w,F,g⟩:=r.get A;have m:=r.length;have K:=Zi0;have d:EP X c k Q w s:=⟨z,H,I,g,q⟩;exact subscriptTail_builtinR (x:=w) pl.typeIs slot_tuple_getitem.lookup
  (getItem_tuple (j:=j) (Q:=λr l=>r=w/\EP X c k Q r l) pl ⋯ ⋯ (by rw[Qd,<-m];exact G) (by simpa using F) ⟨rfl,d⟩) D
theorem ZjR(its:List Value)(n j:Nat)(u:Value):Obj.mapSeq (·.setIfInBounds j u) { cls:=.type "list", data:=.seq its.toArray n }={ cls:=.type "list", data:=.seq (its.set j u).toArray n }:=by
 simp[Obj.mapSeq]
theorem Inv.lst{c:List (Addr×Obj)}{d:St}{H:Hp}{s:Shared}{p:Addr}{xs:List V}(I:Inv X c d H s)(h:H p=some (.lst xs)) :
    ∃(its:List Value) (n:Nat),Vals xs its/\s.heap.get? p=some { cls:=.type "list", data:=.seq its.toArray n }/\xs.length<=sizeLine:=by
  obtain ⟨z,its,n,r,e⟩:=I.hok p _ h;exact ⟨its,n,r,e,z⟩
theorem Inv.lstUpd{c:List (Addr×Obj)}{i:St}{H:Hp}{s:Shared}{p:Addr}{xs ys:List V}{its its':List Value}{n d:Nat}{f:Obj->Obj}(I:Inv X c i H s)(h:H p=some (.lst xs))
    (j:s.heap.get? p=some { cls:=.type "list", data:=.seq its.toArray n }) (g:f { cls:=.type "list", data:=.seq its.toArray n }={ cls:=.type "list", data:=.seq its'.toArray d }) (r:Vals ys its') (k:ys.length<=sizeLine) (t:Nat) :
    Inv X c i (upd H p<|.lst ys) { s with heap:=s.heap.update p f,toks:=t }:=by
  have e:(s.heap.update p f).get? p=some { cls:=.type "list", data:=.seq its'.toArray d }:=by
    rw[Heap.get?_update_self f j (by rw[g] <;> rfl),g]
  refine I.write (x:=p) (e:=p) (by rw[h]; trivial) (.inl rfl) (λb u l q=>(Heap.get?_update_other _ _<|Ne.symm l).trans q) ⟨_,e⟩ ?_;exact ⟨k,its',d,r,e⟩
inductive Zqk (o i v:V) (H:Hp) (Q:Hp->Prop):Prop
 |mk (p:Addr) (xs:List V) (k:Int) (j:Nat) (_:o = .ref p) (_:i = .int k) (_:H p=some (.lst xs)) (_:ixN xs.length k=some j) (_:Q (upd H p (.lst (xs.set j v)))):Zqk o i v H Q
theorem Zgb:ZsT X Zqk:=by
  intro c s F H o i v J G u Q I E B z h;obtain ⟨p,C,k,j,rfl,rfl,m,A,q⟩:=h
  cases E
  obtain ⟨t,rfl⟩:=B;obtain ⟨d,n,r,f,D⟩:=I.lst m;obtain ⟨e,L,y,x⟩:=ZkM A;have g:=r.length;have K:=Zi0;have w:Inv X c F (upd H p<|.lst<|C.set j v) { s with heap:=s.heap.update p (Obj.mapSeq (·.setIfInBounds j u)) } :=
    I.lstUpd m f (ZjR d n j u) (r.set z j) (by rw[We]; exact D) s.toks
  by_cases h0:0<=k
  · have l:k.toNat=j:=by
      rw[seqIndex_of h0 x] at e;exact Option.some.inj e
    exact PySem.W.ki_setAt f h0 ⋯ (by rw[Qd,<-g]; exact x) (by rw[l]; exact ⟨_,w,q⟩)
  · have l:(k+(d.toArray.size:Int)).toNat=j:=by
      rw[seqIndex_neg ⋯ y] at e;rw[Qd,<-g];exact Option.some.inj e
    exact PySem.W.ki_setBack f ⋯ (by rw[Qd,<-g]; exact y) ⋯ (by rw[l]; exact ⟨_,w,q⟩)
theorem Zhi(lo c:Option Int)(n:Nat):(sliceBounds lo c none n).1=((HT.sIx n 0 lo:Nat):Int)/\(sliceBounds lo c none n).2.1=((HT.sIx n n c:Nat):Int)/\(sliceBounds lo c none n).2.2=1:=by
 refine ⟨?_,?_,rfl⟩
 ·cases lo with
  |none=>simp[sliceBounds,HT.sIx]
  |some i =>
   simp only[sliceBounds,HT.sIx,Option.getD_none,show (1:Int)>0 by decide,if_true]
   by_cases h:i<0
   ·simp only[h,if_true] <;> omega
   ·simp only[h,if_false] <;> omega
 ·cases c with
  |none=>simp[sliceBounds,HT.sIx]
  |some i =>
   simp only[sliceBounds,HT.sIx,Option.getD_none,show (1:Int)>0 by decide,if_true]
   by_cases h:i<0
   ·simp only[h,if_true] <;> omega
   ·simp only[h,if_false] <;> omega
theorem Zgc(its:List Value)(lo c:Option Int):slicePick its.toArray lo c none=((its.drop<|HT.sIx its.length 0 lo).take<|HT.sIx its.length its.length c-HT.sIx its.length 0 lo).toArray:=by
 obtain ⟨e,d,f⟩:=Zhi lo c its.toArray.size;unfold slicePick;rw[e,d,f]
 simp only[sliceRange_one,pick_run,Qd] <;> rfl
inductive ZsW (K:ZZfg) (x:V) (lo hi:Option Int) (H:Hp) (Q:VK):Prop
 |mk (a:Addr) (xs:List V) (_:x = .ref a) (_:SqL K H a xs) (_:∀p,H p=none->Q (.ref p) (upd H p (.lst (Zko xs lo hi)))):ZsW K x lo hi H Q
theorem ZhX:SlR X (ZsW X.K):=by
 intro i s z H x v u y e f w Q I k n pl p h;obtain ⟨a,c,rfl,l,q⟩:=h
 cases k
 obtain ⟨j,r,g,m⟩:=I.list l;have d:=r.length;refine ⟨"list", _,slot_list_getitem.lookup,g.isList.typeIs,?_⟩;refine wpAny_getItem_list_slice g.isList n pl p .none (by simp) ?_ (by rw[Qd] <;> omega);rw[Zgc,<-d];refine ⟨.ref s.heap.objs.size,_,I.laid (t':=s.toks) (o:=.lst<|Zko c e f) (λb t q=>Heap.get?_push_of_some _ q) (Q2 _) ?_,rfl,q _<|I.hok.fresh<|Q2 _⟩;exact ⟨Q1 (Ze7 c e f) m,_,0,(r.drop<|HT.sIx c.length 0 e).take<|HT.sIx c.length c.length f-HT.sIx c.length 0 e,Heap.get?_push_size _ rfl⟩
theorem Zas:ZdZ X (.builtin "len") (λxs H Q=>∃p ys,xs=[.ref p]/\(SqL X.K H p ys\/SqT X.K H p ys)/\Q (.int ys.length) H):=by
 intro f s k H xs l Q I r h;obtain ⟨p,ys,rfl,hq,q⟩:=h;obtain ⟨u,rfl,g⟩:=ZfJ r
 cases g
 have j:=Zi0;rcases hq with hq|hq
 ·obtain ⟨d,e,pl,i⟩:=I.list hq;have c:=e.length;exact Calls.call_len_list pl.isList (by simp only[Qd] <;> omega) ⟨.int ys.length,H,I.tok _,⟨s.toks+1,by rw[Qd,c]⟩,q⟩
 ·obtain ⟨d,e,pl,i⟩:=I.tuple hq;have c:=e.length;exact len_tuple pl (by simp only[Qd] <;> omega) ⟨.int ys.length,H,I.tok _,⟨s.toks+1,by rw[Qd,c]⟩,q⟩
theorem ZeE:ZdZ X (.type "list") (λxs H Q=>∃p ys,xs=[.ref p]/\(SqL X.K H p ys\/SqT X.K H p ys)/\∀l,H l=none->Q (.ref l) (upd H l<|.lst ys)):=by
  intro j s A H xs B Q I r h;obtain ⟨p,ys,rfl,hq,q⟩:=h;obtain ⟨u,rfl,z⟩:=ZfJ r
  cases z
  have i:∀(c:List Value),Vals ys c->ys.length<=sizeLine->∀(d:Heap) (g:Nat),(∀b y,s.heap.get? b=some y->d.get? b=some y) →
      d.get? s.heap.objs.size=some { cls:=.type "list", dict:=none,data:=.seq c.toArray g,slots:=#[] }->EP X j A Q (.ref s.heap.objs.size) { s with heap:=d }:=λc f m d g k e =>
    ⟨.ref s.heap.objs.size,_,I.laid (t':=s.toks) k (Q2 _) (show ObjOk X.prog X.w _ d _ (.lst ys) from ⟨m,c,g,f,e⟩),rfl,q _<|I.hok.fresh<|Q2 _⟩
  rcases hq with hq | hq
  · obtain ⟨c,f,pl,m⟩:=I.list hq
    have t:=f.length;obtain ⟨o,v,x,n,w⟩:=pl.isList;exact call_list_seq p (.inl rfl) v x w (λd g k e=>i c f m d g k e) (by simp only[Qd] <;> omega)
  · obtain ⟨c,f,pl,m⟩:=I.tuple hq
    have t:=f.length;obtain ⟨o,v,x,n,w⟩:=pl;exact call_list_seq p (.inr rfl) v x w (λd g k e=>i c f m d g k e) (by simp only[Qd] <;> omega)
def tyV(K:ZZfg)(T:String)(x:V)(H:Hp):Prop:=match x with
  | .str _=>T = "str"
  | .int _=>T = "int"
  | .ref p=>(T = "list" /\ ∃d,SqL K H p d)\/(T = "tuple" /\ ∃o,K.lookup p=some o/\o.cls = .type "tuple" /\ o.dict=none) ∨
      (T = "dict" /\ ((∃c,H p=some (.dK c))\/∃c,H p=some (.dT c)))\/(T = "set" /\ ∃S n,H p=some (.set S n))
  | _=>False
theorem Zql{f:List (Addr×Obj)}{m:St}{H:Hp}{s:Shared}{T:String}{x:V}{v:Value}(I:Inv X f m H s)(r:RelV x v)(g:tyV X.K T x H) :
    s.TypeIs v T/\∀a,v = .ref a->∃k,s.heap.get? a=some k/\k.dict=none:=by
  cases x with
  | str z =>
    obtain ⟨t,rfl⟩:=r
    cases (show T = "str" from g)
    exact ⟨typeIs_str s z t,λ_ e=>nomatch e⟩
  | int i =>
    obtain ⟨t,rfl⟩:=r
    cases (show T = "int" from g)
    exact ⟨typeIs_int s i t,λ_ e=>nomatch e⟩
  | ref p =>
    cases r
    rcases g with ⟨rfl,xs,hq⟩ | ⟨rfl,o,hk,hc,j⟩ | ⟨rfl,hk⟩ | ⟨rfl,S,n,hk⟩
    · obtain ⟨l,_,pl,_⟩:=I.list hq
      refine ⟨pl.isList.typeIs,λa e=>?_⟩
      cases e
      obtain ⟨o,n,e,c,j,_⟩:=pl;exact ⟨o,e,j⟩
    · refine ⟨⟨o,I.kIn p o hk,hc⟩,λa e=>?_⟩
      cases e
      exact ⟨o,I.kIn _ o hk,j⟩
    · have z:∃o,s.heap.get? p=some o/\o.ExactDict:=by
        rcases hk with ⟨kvs,hk⟩ | ⟨kvs,hk⟩
        · obtain ⟨_,_,_,_,o,_,_,e,d,_⟩:=I.hok p _ hk
          exact ⟨o,e,d⟩
        · obtain ⟨_,_,_,_,o,_,_,e,d,_⟩:=I.hok p _ hk
          exact ⟨o,e,d⟩
      obtain ⟨o,e,d⟩:=z;refine ⟨⟨o,e,d.1⟩,λa h=>?_⟩
      cases h
      exact ⟨o,e,d.2.1⟩
    · obtain ⟨o,_,_,_,e,d,_⟩:=I.hok p _ hk
      refine ⟨⟨o,e,d.1⟩,λa h=>?_⟩
      cases h
      exact ⟨o,e,d.2.1⟩
  | _=>exact False.elim g
def tBM(K:ZZfg)(T:String)(r:V->List V->Hp->VK->Prop)(e:TE)(t:TA):TE:=λd H Q=>e d H λx c=>tyV K T x c/\t d c λg f=>r x g f Q
variable{o e:Expr}{es:List Expr}{to:TE}{t:TA}{name:Str}{apos cpos:Pos}{T id:String}{r:V->List V->Hp->VK->Prop}
theorem Zqm(L:PlainAttrs T)(i:Slot T name id)(k:typeOf (.builtin id)=pure (.type "method_descriptor")) (y:MtR X id r) (q:PE X o to) (w:PA X (e::es) t)
    (f:attributeBase o name X.env (eval o X.env)=eval o X.env:=by rfl)
    (j:((backTo cpos<|starEach (e::es) X.env).all (λx=>!x.1)&&(backToKw cpos<|keywordEach [] X.env).all (λx=>x.1.isSome)
      && decide ((e::es).length+([]:List Keyword).length+(if ([]:List Keyword).isEmpty then 0 else 1)<30))=true:=by rfl)
    (g:(apos.endLine==cpos.line)=true:=by rfl) (E:starEach (e::es) X.env=(false,eval e X.env)::starEach es X.env:=by rfl) (d:(backTo cpos<|starEach es X.env).any (·.1)=false:=by rfl) :
    PE X (.Call (.Attribute o name apos) (e::es) [] cpos) (tBM X.K T r to t):=by
  intro c s l H Q I h;refine wpAny_Call_method_late f j g rfl<|thn (q c s l H _ I h) λv D ⟨x,M,m,n,F,z⟩=>?_;obtain ⟨N,C⟩:=Zql m n F;refine ⟨T,id,L,i,k,N,C,?_⟩;have p:=w cpos c D l M _ m z;rw[E] at p ⊢;refine Calls.callWith_builtin (by show (false||(backTo cpos<|starEach es X.env).any (·.1))=false; rw[d] <;> rfl)<|Calls.evalArgs_plain ?_;exact thn p λO G ⟨B,u,K,A,J⟩=>y c G l u x B v O Q K n A J
/- xs.append(e),list.index on a module's tuple .. are MtR facts of 06m -/
end
def MtM(X:Cx)(e:String)(r:V->List V->Hp->VK->Prop):Prop :=
 ∀(a:List (Addr×Obj)) (s:Shared) (b:St) (H:Hp) (x:V) (c:List V) (v:Value) (d:List Value) (Q:VK),Inv X a b H s->RelV x v->Vals c d->r x c H Q →
  wpAny (model X.prog X.w) X.A (call (.builtin e) (v::d)) (EP X a b Q) X.xe s
theorem Vals.one:∀ {x:V} {us:List Value},Vals [x] us->∃u,us=[u]/\RelV x u
 |_,_,.cons r .nil=>⟨_,rfl,r⟩
section
variable{X:Cx}{pins:List (Addr×Obj)}{σ:St}{H:Hp}{s:Shared}{l b:Addr}{xs ys zs:List V}
theorem Inv.lset{its its':List Value}{n:Nat}{f:Array Value->Array Value}{t':Nat}(I:Inv X pins σ H s)(c:H l=some (.lst xs))
    (e:s.heap.get? l=some { cls:=.type "list", data:=.seq its.toArray n }) (g:f its.toArray=its'.toArray) (a:Vals ys its') (i:ys.length<=sizeLine) :
    Inv X pins σ (upd H l<|.lst ys) { s with heap:=s.heap.update l<|Obj.mapSeq f,toks:=t' }:=by
  have q:=PySem.IsL.update e f;rw[g] at q;refine I.write (x:=l) (e:=l) (by rw[c]; exact trivial) (.inl rfl) (λj u h d=>(Heap.get?_update_other s.heap (Obj.mapSeq f)<|Ne.symm h).trans d) ⟨_,q⟩ ?_;exact ⟨i,its',_,a,q⟩
theorem Inv.lnew{its:List Value}{t':Nat}(I:Inv X pins σ H s)(a:Vals ys its)(c:ys.length<=sizeLine) :
    Inv X pins σ (upd H s.heap.objs.size<|.lst ys) { s with heap:=s.heap.push { cls:=.type "list", data:=.seq its.toArray },toks:=t' } :=
  I.laid (λ_ _ q=>Heap.get?_push_of_some _ q) (Q2 _) ⟨c,its,0,a,Heap.get?_push_size _ rfl⟩
theorem Inv.fresh(I:Inv X pins σ H s):H s.heap.objs.size=none:=I.hok.fresh<|Q2 _
theorem Inv.lstM(I:Inv X pins σ H s)(a:H l=some (.lst xs)):xs.length<=sizeLine/\∃(its:List Value) (n:Nat),Vals xs its/\xs.length=its.length/\s.heap.get? l=some { cls:=.type "list", data:=.seq its.toArray n }:=by
 obtain ⟨z,its,n,r,e⟩:=I.hok l _ a;exact ⟨z,its,n,r,r.length,e⟩
theorem ZmC{n:Nat}(h:n<=sizeLine):Builtin.List.listTooLong n=false:=by
 unfold Builtin.List.listTooLong;exact decide_eq_false ⋯
end
section
variable{X:Cx}
inductive ZkP (x:V) (vs:List V) (H:Hp) (Q:VK):Prop
 |mk (l:Addr) (xs:List V) (y:V) (_:x = .ref l) (_:vs=[y]) (_:H l=some (.lst xs)) (_:xs.length<sizeLine) (_:Q .non (upd H l (.lst (xs++[y])))):ZkP x vs H Q
theorem ZkQ:MtM X "list.append" ZkP:=by
 intro c s o H x j v p Q I f d h;obtain ⟨l,m,y,rfl,rfl,b,k,q⟩:=h
 cases f
 obtain ⟨u,rfl,g⟩:=d.one;obtain ⟨z,a,n,r,i,e⟩:=I.lstM b;refine call_meets F.slot_list_append ⟨_,e,rfl⟩ F.entry_list_append (F.args_list_append_2 _ _) (PySem.list_append l a.toArray n u (by rw[Qd];omega)) ⟨e,?_⟩;refine ⟨.non,_,I.lset (its':=a++[u]) b e (by simp) (r.append<|.cons g .nil) ?_,rfl,q⟩;rw[Qc,List.length_singleton];omega
inductive ZkR (x:V) (vs:List V) (H:Hp) (Q:VK):Prop
 |mk (l b:Addr) (xs zs:List V) (_:x = .ref l) (_:vs=[.ref b]) (_:H l=some (.lst xs)) (_:H b=some (.lst zs)) (_:xs.length+zs.length<=sizeLine) (_:Q .non (upd H l (.lst (xs++zs)))):ZkR x vs H Q
theorem ZkS:MtM X "list.extend" ZkR:=by
 intro g s K H x G v E Q I k j h;obtain ⟨l,b,D,A,rfl,rfl,i,p,J,q⟩:=h
 cases k
 obtain ⟨u,rfl,o⟩:=j.one
 cases o
 obtain ⟨z,c,n,r,B,e⟩:=I.lstM i;obtain ⟨C,a,m,w,t,y⟩:=I.lstM p;have f:c.toArray.size+a.toArray.size<=sizeLine:=by rw[Qd,Qd];omega
 have d:¬(!c.toArray.isEmpty&&Builtin.List.listTooLong (c.toArray.size+a.toArray.size))=true:=by
  rw[ZmC f,Bool.and_false];exact Qg
 refine call_meets F.slot_list_extend ⟨_,e,rfl⟩ F.entry_list_extend (F.args_list_extend_2 _ _)
  (AutoSeq1.list_extend_list_list_0 l c.toArray n b a.toArray m d (by rw[Qd];omega) ⋯) ⟨e,y,?_⟩
 refine ⟨.non,_,I.lset (its':=c++a) i e (by simp) (r.append w) ?_,rfl,q⟩;rw[Qc];omega
inductive ZsX (x y:V) (H:Hp) (Q:VK):Prop
 |mk (l b:Addr) (xs zs:List V) (_:x = .ref l) (_:y = .ref b) (_:H l=some (.lst xs)) (_:H b=some (.lst zs)) (_:xs.length+zs.length<=sizeLine) (_:∀p,H p=none->Q (.ref p) (upd H p (.lst (xs++zs)))):ZsX x y H Q
theorem ZnQ:OpR X (binaryOp .Add) ZsX:=by
 intro d s E H x y v u Q I g i h;obtain ⟨l,b,D,t,rfl,rfl,f,k,B,q⟩:=h
 cases g
 cases i
 obtain ⟨z,c,n,r,w,e⟩:=I.lstM f;obtain ⟨C,a,A,j,o,m⟩:=I.lstM k;refine PySem.P.add_list e m ?_ (by rw[Qd,Qd];omega);have p:c.toArray++a.toArray=(c++a).toArray:=by simp
 rw[p];exact ⟨.ref _,_,I.lnew (t':=s.toks) (r.append j) (by rw[Qc];omega),rfl,q _ I.fresh⟩
end
end L2
namespace Att
open PySem PySem.W PySem.Calls PyProof.Rows
theorem Ze8{P:Params}{h:Heap}:∀(c:List Int) (vs:List Value),WellAll P h vs (c.map WData.int)->IntsAre vs c:=by
 intro c
 induction c with
 |nil =>
  intro vs w;rw[List.map_nil] at w
  cases w
  exact .nil
 |cons n c d =>
  intro vs w;rw[W9] at w
  cases w with
  |cons a b =>
   cases a
   exact .cons _ _<|d _ b
theorem ZkT{l:OpenLaw}{n:Nat}(t:l.most=some n){P:Params}{h:Heap}{args:List WData}{c:List Value}
    (e:l.row.toRowW.claim.pre args=true) (k:WellAll P h c args) :
    ∃a vs b,c=[Value.ref a]/\args=[WData.list<|b.map WData.int]/\h.get? a=some { cls:=.type "list", data:=.seq vs.toArray }/\IntsAre vs b/\b.length<=n:=by
  have m:WShape.hasAll [] args [.list .int]=true:=(pre_splitW e).1;have o:l.pre.holds [] { args:=args }=true:=(pre_splitW e).2;obtain ⟨d,r,rfl,y,u⟩:=hasAllW_cons m;obtain rfl:=hasAllW_nil u;obtain ⟨z,rfl,x⟩:=hasW_list y;obtain ⟨b,rfl⟩:=items_int x;have g:b.length<=n:=by
    unfold OpenLaw.pre at o;have j:(WTm.not<|.lt (.lit<|.int (n:Int))<|.len<|.arg 0).holds [] { args:=[.list<|b.map .int] }=true:=by
      have j:=(holds_andW o).1;rw[t] at j;exact j
    have i:=condW_of j<|w_not<|w_lt w_lit<|w_len_list<|w_arg rfl;rw[Q0] at i;refine Nat.le_of_not_lt λq=>?_;have p:(n:Int)<((b.length:Nat):Int):=⋯
    first
      | (rw[decide_eq_true p] at i; exact absurd i ∅)
      | (simp at i; omega)
  cases k with
  | cons w v =>
    cases v
    cases w with
    | list s f=>exact ⟨_,_,b,rfl,rfl,s,Ze8 b _ f,g⟩
theorem ZkU(l:OpenLaw)(args:List WData):l.row.toRowW.claim.post args (.bool true) args=true :=
 postW_of (r:=l.row.toRowW) (X:=(true==true))
  (show WShape.has [] (.bool true) .bool=true by first|rfl|decide|simp[WShape.has,WShape.arms,WShape.armsAll])
  (show (WTm.eq .res<|.lit<|.bool true).value [] { args:=args,res:=some<|.bool true,after:=args }=some (.bool<|true==true) from w_eq_bool (w_res rfl) w_lit) rfl
theorem attach_call{l:OpenLaw}{n:Nat}{q:Program}{e:List Str}{J:(Str->Option Value)->Heap->Prop}{E:World->Heap->Prop}{d:DefRec}
    (M:l.most=some n) (C:d.params.defaults=[])
    (k:∀(w:World) (c b:Shared) (u B:Str->Option Value) (i:Addr) (o:Obj) (A v h:Value) (a:Addr) (vs:List Value) (t:List Int),
      Ground q e [] J w c u B b.heap->E w b.heap →
      b.heap.get? i=some o->o.data = .func (docDef d.name d.params d.body d.scope A v h)->b.heap.CodeRec v d.name->u d.name=some (.ref i) →
      b.heap.get? a=some { cls:=.type "list", data:=.seq vs.toArray }->IntsAre vs t->t.length<=n->b.gens=#[] →
      codeAny (model l.prog w) callerA (.call (.ref i) ⟨[.ref a],[]⟩) (λr s=>r = .ok (.ret<|.bool true)/\OldK b.heap s.heap/\s.os=b.os/\AllBare s.gens) b) :
    WalkO q e J E l.row.toRowW d [] (λf vs=>PySem.call f vs):=by
  intro w c b u B G Y i o A v h O kV K Q z H x R D F X j I L y P;obtain rfl:O = .none:=Dflts.none H C;obtain rfl:kV = .none:=Dflts.noKw H;obtain ⟨a,vs,t,rfl,rfl,p,g,m⟩:=ZkT M j y;refine enter_call<|codeAny_mono (k w c b u B i o A v h a vs t G Y K (fd_plain Q) z x p g m R) λr s T=>?_;obtain ⟨rfl,N,W,U⟩:=T;exact ⟨.inl ⟨.bool true,.bool true,[],rfl,λ_=>rfl,.bool true,ZkU l _,λ_=>⟨List.Pairwise.nil,λ_ S=>(nomatch S)⟩⟩,N,W,U⟩
end Att
namespace L2
open PySem PySem.Spec PyProof.Rows
theorem Zhj:∀ {vs:List Value} {a:List Int},IntsAre vs a->Vals (a.map V.int) vs
 |_,_,.nil => .nil
 |_,_,.cons n t h => .cons ⟨t,rfl⟩<|Zhj h
def Zr0(H:Hp):Prop:=∀b,H b=none\/∃o a,H b=some (.frz o<|.lst a)
theorem ZmD{P:Program}{w:World}{K:ZZfg}{G U:Str->Option Value}{CX:CXT}{k:Nat}{Q a:Addr}{fd:FuncData}{x:Str}{sp:Sp}{c:Shared}{vs:List Value}{t:List Int}
    (KX:K.In c.heap) (D:c.heap.Ns mainGlobals G) (g:c.heap.Ns builtinsNs U) (T:∀x:Str,x ≠ "__name__" -> U x=bootBuiltins x) (M:c.heap.NoLimit) (hg:c.gens=#[])
    (N:c.heap.get? a=some { cls:=.type "list", data:=.seq vs.toArray }) (hi:IntsAre vs t) (Z:t.length<=sizeLine) (hr:Room k callerA)
    (F:∀base:Heap,K.In base->base.Ns mainGlobals G->FnOk P w K G base CX k Q fd [x] sp) (p:∀(s:Shared) (u:Value),BindsTo s fd ⟨[u],[]⟩ [(x,u)])
    (O:∀H:Hp,Zr0 H->SqL K H a (t.map V.int)->sp [.ref a] H (λv _=>v = .bl true) λ_ _ _=>False)
    (S:∀H e i,CX [] H c (λ_ _ _=>False) e i->False) :
    codeAny (model P w) callerA (.call (.ref Q) ⟨[.ref a],[]⟩) (λr i=>r = .ok (.ret<|.bool true)/\OldK c.heap i.heap/\i.os=c.os/\AllBare i.gens) c:=by
  have X:=Zhj hi;have I:=hi.length;have l:∀H:Hp,Zr0 H->SqL K H a (t.map V.int)->HOk P w H c.heap->(∀b,H b≠none->b=a)->(H a≠none->K.lookup a=none) →
      codeAny (model P w) callerA (.call (.ref Q) ⟨[.ref a],[]⟩) (λr i=>r = .ok (.ret<|.bool true)/\OldK c.heap i.heap/\i.os=c.os/\AllBare i.gens) c:=by
    intro H hO hS E hA hK;have f:∀ {b:Addr} {o:Obj},c.heap.get? b=some o->H b=none->(Zmu c.heap H).get? b=some o:=λe n=>Zmv e n;have W:∀ {b:Addr} {o:Obj} {C:Array DictEntry} {A:Nat},c.heap.get? b=some o->o.data = .dict C A->H b=none:=fun {b o C A} e d=>by
      cases q:H b with
      | none=>rfl
      | some u =>
        have R:b=a:=hA b (by rw[q]; simp);subst R;rw[N] at e; cases e;have d':Data.seq vs.toArray _=Data.dict C A:=d
        cases d'
    have j:∀ {b:Addr} {m:Str->Option Value},c.heap.Ns b m->(Zmu c.heap H).Ns b m:=fun {b m} ⟨o,C,A,e,d,r⟩=>⟨o,C,A,f e<|W e d,d,r⟩
    have J:K.In (Zmu c.heap H):=λb o e=>f (KX b o e) (by
      cases q:H b with
      | none=>rfl
      | some u =>
        have R:b=a:=hA b (by rw[q]; simp);subst R;rw[hK (by rw[q]; simp)] at e; cases e)
    have hM:Mod K G (Zmu c.heap H):=⟨J,j D,⟨U,j g,T⟩,let ⟨mc,h1,h2⟩:=M; ⟨mc,j h1,h2⟩⟩;have e0:Env0 P w K G (Zmu c.heap H) callerA [] c H:=⟨rfl,hM,λb o e=>Zow e,U0<|Zkr _ _,trivial,λb g=>absurd (show b∈([]:ZZla) from g) (by simp),E,.of_eq hg⟩;refine codeAny_mono ((F _ J<|j D).run callerA [] c H ⟨[.ref a],[]⟩ [.ref a] [.ref a] _ _ hr e0 (p c<|.ref a) (.cons rfl .nil)<|O H hO hS) λr i h=>?_
    cases r with
    | error e=>exact (S H e i h).elim
    | ok fl =>
      cases fl with
      | next=>exact False.elim h
      | brk=>exact False.elim h
      | cont=>exact False.elim h
      | ret u =>
        obtain ⟨v,H',os,L,Y,B,r',q⟩:=h;have q':v = .bl true:=q;subst q';obtain rfl:u=Value.bool true:=r';refine ⟨rfl,OldK.of_keep λb o e=>?_,os,L⟩
        cases q:H b with
        | none=>exact Y.keep b o e q (by intro z; exact absurd (show b∈([]:ZZla) from z) (by simp)) (by simp)
        | some u =>
          rcases hO b with z | ⟨ob,xs,z⟩
          · rw[q] at z; cases z
          · have z2:=Y.frzs b ob _ z
            obtain ⟨e1,_⟩:=E b _ z;obtain ⟨e2,_⟩:=B b _ z2;rw[e] at e1; cases e1;exact e2
  cases hk:K.lookup a with
  | some o =>
    have e:=KX a o hk;rw[N] at e
    cases e
    refine l (λ_=>none) (λ_ => .inl rfl) (.inr ⟨_,vs.toArray,_,hk,rfl,rfl,rfl,by rw[Qd,I]; exact Z,by simpa using X⟩) (λb u z=>by have y:(none:Option HO)=some u:=z; cases y) (λb z=>absurd rfl z) λz=>absurd rfl z
  | none =>
    refine l (λb=>if b=a then some (.frz { cls:=.type "list", data:=.seq vs.toArray }<|.lst<|t.map V.int) else none) (λb=>?_) (.inl<|.inr ⟨{ cls:=.type "list", data:=.seq vs.toArray },if_pos rfl⟩) (λb u z=>?_) (λb z=>?_) λ_=>hk
    · by_cases g:b=a
      · exact .inr ⟨_,_,if_pos g⟩
      · exact .inl (if_neg g)
    · by_cases g:b=a
      · have y:=(if_pos g).symm.trans z
        cases y
        subst g;exact ⟨N,by rw[Q0]; exact Z,vs,_,X,N⟩
      · have y:=(if_neg g).symm.trans z
        cases y
    · by_cases g:b=a
      · exact g
      · exact absurd (if_neg g) z
theorem walk_of{l:PySem.W.OpenLaw}{n k:Nat}{q:Program}{g:List Str}{Q:(Str->Option Value)->Heap->Prop}{E:World->Heap->Prop}{d:DefRec}{K:Params->ZZfg}{CX:World->CXT}{sp:World->Sp}{x:Str}
    (L:l.most=some n) (A:n<=sizeLine) (C:d.params.defaults=[]) (U:Room k callerA)
    (T:∀(w:World) (h:Heap),E w h->(K w.params).In h)
    (F:∀(w:World) (i:ZZmg) (r:Addr) (h:Heap),(K w.params).In h->h.Ns mainGlobals i->i d.name=some (.ref r) →
      ∃D:FuncData,(∀(s:Shared) (u:Value),BindsTo s D ⟨[u],[]⟩ [(x,u)]) ∧
        ∀base:Heap,(K w.params).In base->base.Ns mainGlobals i->FnOk l.prog w (K w.params) i base (CX w) k r D [x] (sp w))
    (y:∀(w:World) (H:Hp) (a:Addr) (p:List Int),p.length<=n->Zr0 H->SqL (K w.params) H a (p.map V.int)->sp w [.ref a] H (λv _=>v = .bl true) λ_ _ _=>False)
    (B:∀(w:World) (H:Hp) (s:Shared) (e:Value) (t:Shared),CX w [] H s (λ_ _ _=>False) e t->False) :
    PySem.W.WalkO q g Q E l.row.toRowW d [] (λf vs=>PySem.call f vs):=by
  refine Att.attach_call L C λw I j i mb r o X cd R a vs p G Y W Z J z m c b N=>?_;have KX:=T w _ Y;obtain ⟨D,M,P⟩:=F w i r _ KX G.T.g z;exact ZmD KX G.T.g G.T.b G.T.builtins G.T.nolimit N m c (Q1 b A) U P M (λH O S=>y w H a p b O S) λH e t=>B w H j e t
end L2
/- THE LAST THEOREM (shape; LID,My.* are yours):
   My.Adr: a structure of the addresses that your layer names (classes,functions); My.Txt K t: a structure (Prop) of the equations over K;
   My.txt_mk:{K} {implicit addresses ..} (e1:nsIn K mainGlobals "law" = some (some (.ref f))) (e2:K.lookup f=some ⟨oc,od,.func (fnOf "law" "law" params body scope dV kV doc pm an cdv ct),sl⟩) (e3:codeIn K cdv "law" = true) ..:∃t,My.Txt K t
set_option maxRecDepth 100000 in
set_option maxHeartbeats 0 in
theorem PySem.Challenge.cw_LID_holds : PySem.Challenge.rw_LID.Holds := by
 w_on;o_law;k_head;(case hw=>w_witness2)
 k_fill
 refine L2.walk_of (l:=PySem.Challenge.rw_LID) (n:=63) (k:=40) (x :="script") (CX:=λw => ..) (sp:=λ_=>My.sp_law) rfl ∅ rfl ⟨rfl,∅,∅⟩ (λw h Y=>PySem.W.kIn_of Y) ?F ?S ?C
 case F =>
  intro w mg fa h KX G hmg;have T:∃t,My.Txt (L2.KOf KX) t:=by
   dsimp only[L2.KOf]                          -- K must stand as «<heap const> w.params» for k_is
   refine' My.txt_mk ?e1 ?e2 ?e3 ..
   (case e1=>PySem.W.k_is)                    -- in the order: a name -> its address -> its object -> its parts
   (case e2=>PySem.W.k_is)
   ..
  obtain ⟨t,T⟩:=T;have e0:=hmg.symm.trans (PySem.W.mg_of KX G T.law)
  cases e0                                       -- fa is the law's own address
  exact ⟨_,λs u => .of_eq rfl,λbase kb nb=>My.law_fn T kb nb⟩     -- if «.of_eq rfl» comes too early: refine' ⟨_,?b,λbase kb nb=>My.law_fn T kb nb⟩;exact λs u => .of_eq rfl
 case S=>exact λw H a ns hl hO hS => ..
 case C=>exact ..
(the tactic k_is has no namespace: write k_is) -/
namespace L2
open PySem PySem.Spec PyProof.Rows
def ZaP(s:Stmt)(j:Nat):Stmt:=match s with
 | .ClassDef _ _ _ body _ _ _ _ _ _ _=>body.getD j<|.Pass ⟨0,0,0,0⟩
 |_ => .Pass ⟨0,0,0,0⟩
def Zbw(s:Stmt):Arguments:=match s with
 | .FunctionDef _ a _ _ _ _ _ _ _ _=>a
 |_=>{ posonlyargs:=[],args:=[],vararg:=none,kwonlyargs:=[],kw_defaults:=[],kwarg:=none,defaults:=[] }
def Za4(s:Stmt):List Stmt:=match s with
 | .FunctionDef _ _ b _ _ _ _ _ _ _=>b
 |_=>[]
def Zab(s:Stmt):Scope:=match s with
 | .FunctionDef _ _ _ _ _ _ sc _ _ _=>sc
 |_=>{ kind:=.function,names:=[],isGenerator:=false,isCoroutine:=false }
abbrev CX0:CXT:=λ_ _ _ _ _ _=>False
abbrev E0:XK:=λ_ _ _=>False
theorem ZoG{X:Cx}:Zhd CX0 X E0:=λ_ _ _ _ _ _ _ h=>h.elim
structure Fun (K:ZZfg) (x qual:Str) (st:Stmt) (f:Addr) (fd:FuncData):Prop where
 ex:∃(oc:Value) (od:Option Addr) (kV doc pm:Value) (an:Option Addr) (cdv ct:Value) (osl:Array (Option Value)),
  fd=PySem.W.fnOf x qual (Zbw st) (Za4 st) (Zab st) .none kV doc pm an cdv ct/\K.lookup f=some ⟨oc,od,.func fd,osl⟩/\PySem.W.codeIn K cdv qual=true
 kp:PySem.W.keepIn K (.ref f)=true
section
variable{P:Program}{w:World}{K:ZZfg}{mg:ZZmg}{base:Heap}
theorem Fun.ok{x b:Str}{e:Stmt}{f:Addr}{l:FuncData}{N ps:List Str}{k:Nat}{sp:Sp}(F:Fun K x b e f l)(S:FnScope N ps (Zab e))(j:∀vs H Q E,sp vs H Q E->vs.length=ps.length)
    (d:∀(c:Value) (A:Around) (a:List Env) (s:Shared) (H:Hp) (vs:List V) (Q:VK) (E:XK),Room k (A.deeper<|envOfC b (Zab e) s.heap.objs.size f c)->sp vs H Q E →
      ∃t,PSs (ZoD CX0 P w K mg base N b (Zab e) f c A a s H E).nox (Za4 e) t/\t { nx:=λ_ m=>Q .non m,rt:=Q } (start N vs) H):FnOk P w K mg base CX0 (k+1) f l ps sp:=by
  obtain ⟨z,y,kV,o,u,B,c,v,r,rfl,n,i⟩:=F.ex;refine ZeN n i S j λA a s H vs Q E p g=>?_;obtain ⟨t,h,q⟩:=d c A a s H vs Q E p g;exact ⟨t,h.nox,q⟩
theorem Fun.binds{x a:Str}{d:Stmt}{f:Addr}{j:FuncData}{ps:List Str}(F:Fun K x a d f j)
    (h:∀(kV b e:Value) (i:Option Addr) (c g:Value) (us:List Value),us.length=ps.length->bindArgs (PySem.W.fnOf x a (Zbw d) (Za4 d) (Zab d) .none kV b e i c g) ⟨us,[]⟩=pure (ps.zip us)):Binds K j ps []:=by
  obtain ⟨n,o,kV,b,e,i,c,g,l,rfl,m,k⟩:=F.ex;exact .all<|h kV b e i c g
theorem ZkV{x a:Str}{e:Stmt}{f:Addr}{m:Value}{n j:Option Addr}{g:Array (Option Value)}{kV d h b i:Value}(l:K.lookup f=some ⟨m,n,.func<|PySem.W.fnOf x a (Zbw e) (Za4 e) (Zab e) .none kV d h j b i,g⟩)
    (c:PySem.W.codeIn K b a=true) (k:PySem.W.keepIn K (.ref f)=true):Fun K x a e f (PySem.W.fnOf x a (Zbw e) (Za4 e) (Zab e) .none kV d h j b i):=⟨⟨m,n,kV,d,h,j,b,i,g,rfl,l,c⟩,k⟩
end
theorem ZoH{A:Around}{k:Nat}(a:Room k A):A.units+1<cLine:=Qq (Nat.add_le_add_left (by decide:1<=64) _) a.units
theorem ZaR{n:Nat}(h:n<=1000):n<sizeLine:=Qq h ∅
section
variable{X:Cx}
def Zr1:Option NameKind->Bool
 |some .local=>true
 |some .cell=>true
 |some .free=>true
 |_=>false
theorem ZoI{a:Scope}{x:Str}(h:Zr1 (a.names.lookup x)=true):Vis a x:=by
 unfold Zr1 at h
 split at h
 ·exact .inl (by assumption)
 ·exact .inr (.inl (by assumption))
 ·exact .inr (.inr (by assumption))
 ·cases h
theorem pv(i:Nat){x:Str}{a:Pos}(e:X.N[i]?=some x:=by rfl)(c:Zr1 (X.env.scope.names.lookup x)=true:=by rfl)(d:(x==("__debug__" : Str))=false:=by decide)
    (b:(x==("__classdict__" : Str))=false:=by decide):PE X (.Name x a) (ZpU i):=ZiU e (ZoI c) d b
end
theorem ZeT{A B:Prop}(h:B):if false=true then A else B:=by
 rw[if_neg Qg];exact h
theorem ZkW{A B:Prop}(h:A):if true=true then A else B:=by
 rw[if_pos rfl];exact h
theorem Ztt{c A B:Prop}[Decidable c](b:c->A)(a:¬c->B):if c then A else B:=by
 by_cases h:c
 ·rw[if_pos h];exact b h
 ·rw[if_neg h];exact a h
def Same(H a:Hp):Prop:=∀b o,H b=some o->a b=some o
theorem Same.refl(H:Hp):Same H H:=λ_ _ h=>h
theorem Same.trans{H e d:Hp}(a:Same H e)(b:Same e d):Same H d:=λc o h=>b c o<|a c o h
theorem Same.free{H a:Hp}(e:Same H a){l:Addr}(h:a l=Option.none):H l=Option.none:=by
 cases q:H l with
 |none=>rfl
 |some o =>
  rw[e l o q] at h
  cases h
end L2
set_option maxHeartbeats 4000000
namespace L2
open PySem PySem.Spec PyProof.Rows
theorem ZdI{k:Int}{n:Nat}(h:k.natAbs<2^n):Builtin.Int.intBits k<=n:=by
 unfold Builtin.Int.intBits
 split
 ·exact Q6 _
 ·rename_i b
  have a:k.natAbs≠0:=by
   intro z
   apply b
   have:k=0:=⋯
   simp[this]
  have:k.natAbs.log2<n:=(Nat.log2_lt a).mpr h;omega
theorem ZhY:10^150<2^600:=by decide +kernel
theorem Zbx{i j:Int}(h:i.natAbs<=10^150)(h':j.natAbs<=10^150):IntMulOk i j :=
 .of_bits (Q1 (ZdI (n:=600)<|Qq h ZhY) ∅) (Q1 (ZdI (n:=600)<|Qq h' ZhY) ∅)
theorem ZoJ{j:Int}(h:j.natAbs<=10^150):j.natAbs.log2<9000:=by
 rcases Nat.eq_zero_or_pos j.natAbs with z|z
 ·rw[z];decide
 ·exact Ua ((Nat.log2_lt<|Wi z).mpr<|Qq h ZhY) ∅
section
variable{X:Cx}
theorem ZaH:OpR X (binaryOp .Mult) (rI IntMulOk λi j => .int<|i*j):=opI λ_ _ _ _ _ _ _ a q=>mul_int q a
theorem Zgd:OpR X (binaryOp .FloorDiv) (rI (λ_ j=>j≠0/\j.natAbs<=10^150) λi j => .int<|i.fdiv j):=opI λ_ _ _ _ _ _ _ a q=>floordiv_int a.1 q<|.inl<|PyProof.noPylong_of_log2<|ZoJ a.2
theorem ZfK{x:Str}{T:String}{a:Pos}(d:Gl X x)(e:X.mg x=none)(c:bootBuiltins x=some (.type T))(b:x ≠"__name__":= by decide) (f:(x==("__debug__":Str))=false:=by decide):PE X (.Name x a) (tC<|.ty T):=Zox d e c rfl b f
theorem ZbE:ZdZ X (.builtin "isinstance") (λxs H Q=>∃x T t b,xs=[x,.ty T]/\Zi2 X.K H x t/\PySem.W.kitOne X.K t (.type T)=some b/\Q (.bl b) H):=by
 intro a s j H xs k Q I r h;obtain ⟨x,T,t,b,rfl,f,c,q⟩:=h;obtain ⟨u,g,rfl,e,d⟩:=ZkD r
 cases d
 exact ZkJ I e f c λi=>⟨.bl b,H,I.tok _,rfl,q⟩
end
theorem ZcJ(K:ZZfg)(t:Value)(h:(t==t)=true:=by rfl):PySem.W.kitOne K t t=some true:=by
 unfold PySem.W.kitOne;rw[if_pos h]
theorem Zi4(K:ZZfg){t T:String}{b:Bool}(c:((Value.type t)==(Value.type T))=false)(a:PySem.W.kitMeta T=true)(h:(PySem.fastBuiltinMro t).map (·.contains (Value.type T))=some b):PySem.W.kitOne K (.type t) (.type T)=some b:=by
 unfold PySem.W.kitOne PySem.W.kitCls;rw[if_neg (by rw[c];exact Qg)];show (if PySem.W.kitMeta T=true then PySem.W.subIn K (Value.type t) (Value.type T) else none)=some b;rw[if_pos a];exact h
theorem ZeF(K:ZZfg):PySem.W.kitOne K (.type "int") (.type "bool")=some false:=Zi4 K ‹4› ‹4› ‹4›
section
variable{A B:Prop}
theorem ZbR{p:Prop}[Decidable p](b:p->A)(a:¬p->B):if decide p=true then A else B:=Ztt (λc=>b<|of_decide_eq_true c) λc=>a<|of_decide_eq_false<|Bool.eq_false_iff.mpr c
theorem ZoK{p:Prop}[Decidable p](b:¬p->A)(a:p->B):if (!decide p)=true then A else B:=by
 by_cases h:p
 ·rw[decide_eq_true h];exact ZeT<|a h
 ·rw[decide_eq_false h];exact ZkW<|b h
theorem Zc0{a b:Int}(d:a=b->A)(c:a≠b->B):if decide (V.int a=V.int b)=true then A else B:=ZbR (λe=>d<|V.int.inj e) λe=>c λz=>e (by rw[z])
theorem ZeG{a b:Int}(d:a≠b->A)(c:a=b->B):if (!decide (V.int a=V.int b))=true then A else B:=ZoK (λe=>d λz=>e (by rw[z])) λe=>c<|V.int.inj e
end
theorem ZmE{a b:Int}(h:a=b):decide (V.int a=V.int b)=true:=decide_eq_true (by rw[h])
theorem Zge(a b:Int):decide (V.int a=V.int b)=decide (a=b):=by
 by_cases h:a=b
 ·rw[decide_eq_true h,ZmE h]
 ·rw[decide_eq_false h,decide_eq_false λz=>h<|V.int.inj z]
structure Here (K:ZZfg) (mg:ZZmg) (x:Str) (st:Stmt):Prop where
 ex:∃(f:Addr) (fd:FuncData),Fun K x x st f fd/\mg x=some (.ref f)
structure Has (P:Program) (w:World) (K:ZZfg) (mg:ZZmg) (base:Heap) (x:Str) (k:Nat) (ps:List Str) (sp:Sp):Prop where
 ex:∃(f:Addr) (fd:FuncData),FnOk P w K mg base CX0 k f fd ps sp/\mg x=some (.ref f)/\PySem.W.keepIn K (.ref f)=true/\Binds K fd ps []
section
variable{P:Program}{w:World}{K:ZZfg}{mg:ZZmg}{base:Heap}{x:Str}{st:Stmt}{k j:Nat}{ps:List Str}{sp:Sp}
theorem Has.mono(h:Has P w K mg base x j ps sp)(e:j<=k):Has P w K mg base x k ps sp :=
 let ⟨f,fd,a,b,c,d⟩:=h.ex
 ⟨f,fd,a.mono e,b,c,d⟩
theorem Here.has(h:Here K mg x st)(b:∀f a,Fun K x x st f a->Binds K a ps [])(c:∀f a,Fun K x x st f a->FnOk P w K mg base CX0 k f a ps sp):Has P w K mg base x k ps sp :=
 let ⟨f,a,F,m⟩:=h.ex
 ⟨f,a,c f a F,m,F.kp,b f a F⟩
theorem here_mk{h:Heap}{f:Addr}{m:Value}{o n:Option Addr}{e:Array (Option Value)}{kV d g b i:Value}(X:K.In h)(G:h.Ns mainGlobals mg)(a:PySem.W.nsIn K mainGlobals x=some (some<|.ref f))
    (l:K.lookup f=some ⟨m,o,.func<|PySem.W.fnOf x x (Zbw st) (Za4 st) (Zab st) .none kV d g n b i,e⟩)
    (c:PySem.W.codeIn K b x=true) (k:PySem.W.keepIn K (.ref f)=true):Here K mg x st:=⟨f,_,ZkV l c k,PySem.W.mg_of X G a⟩
end
theorem ZaI{X:Cx}{x:Str}{k:Nat}{ps:List Str}{sp:Sp}{e:Expr}{b:List Expr}{t:TA}{p a:Pos}(h:Has X.prog X.w X.K X.mg X.base x k ps sp)(o:Room k X.A)(g:Gl X x)(i:PA X (e::b) t)(d:(x==("__debug__" : Str))=false:=by decide)
    (j:starEach (e::b) X.env=(false,eval e X.env)::starEach b X.env:=by rfl) (c:(backTo a<|starEach b X.env).any (·.1)=false:=by rfl):PE X (.Call (.Name x p) (e::b) [] a) (Zqf sp [] E0 t):=by
  obtain ⟨f,q,F,m,l,n⟩:=h.ex;exact ZoB F o g m l n .nil ZoG i d j c
theorem Zal{H:Hp}{p:Addr}(h:H p=none)(o:HO):Same H (upd H p o):=λb u q=>by rw[Zaj<|ZaQ q h];exact q
theorem Same.tup{K:ZZfg}{H b:Hp}{a:Addr}{xs:List V}(e:Same H b)(h:SqT K H a xs):SqT K b a xs:=by
 rcases h with (h|⟨o,h⟩)|h
 ·exact .inl (.inl<|e _ _ h)
 ·exact .inl (.inr ⟨o,e _ _ h⟩)
 ·exact .inr h
def ZfL(b:List (Str×Addr)):List (Str×NameKind)->List (Str×Addr)->List (Str×Addr)
 | [],cs=>cs
 |(n,k)::r,cs=>ZfL b r (if k=NameKind.free then (match b.lookup n with|some a=>(n,a)::cs|none=>cs) else cs)
theorem Zdt{b:List (Str×Addr)}:∀(d:List (Str×NameKind)) (c:List (Str×Addr)),(∀p∈c,b.lookup p.1=some p.2)->∀p∈ZfL b d c,b.lookup p.1=some p.2
 | [],_,h=>h
 |(n,k)::r,c,h=>by
  refine Zdt r _ λp hp=>?_
  by_cases hk:k=NameKind.free
  ·rw[if_pos hk] at hp
   cases e:b.lookup n with
   |none=>rw[e] at hp;exact h p hp
   |some a =>
    rw[e] at hp;rcases Qe.mp hp with rfl|hp
    ·exact e
    ·exact h p hp
  ·rw[if_neg hk] at hp;exact h p hp
theorem Zi5{b:List (Str×Addr)}:∀(d:List (Str×NameKind)) (c:List (Str×Addr)),∀p∈c,p∈ZfL b d c
 | [],_,_,h=>h
 |(n,k)::r,c,p,h=>by
  refine Zi5 r _ p ?_
  by_cases hk:k=NameKind.free
  ·rw[if_pos hk]
   cases e:b.lookup n with
   |none=>exact h
   |some a=>exact Qy _ h
  ·rw[if_neg hk];exact h
theorem Zdu{a:List (Str×Addr)}{x:Str}:∀(d:List (Str×NameKind)) (f:List (Str×Addr)),(x,NameKind.free)∈d->(∃c,a.lookup x=some c)->∃c,(x,c)∈ZfL a d f
 |(n,k)::r,f,h,b=>by
  rcases Qe.mp h with e|h
  ·cases e
   obtain ⟨c,b⟩:=b;refine ⟨c,Zi5 r _ _ ?_⟩;rw[if_pos rfl,b];exact Qm
  ·exact Zdu r _ h b
theorem Zbg{b:Type}{x:Str}{c:b}:∀ {l:List (Str×b)},(x,c)∈l->∃d,l.lookup x=some d
 |(n,a)::r,h=>by
  by_cases hx:x=n
  ·exact ⟨a,by simp[Qr,hx]⟩
  ·rcases Qe.mp h with e|h
   ·cases e;exact absurd rfl hx
   ·obtain ⟨d,g⟩:=Zbg h;refine ⟨d,?_⟩;have f:(x==n)=false:=beq_eq_false_iff_ne.mpr hx
    simp only[Qr,f]
    exact g
theorem ZfW{env:Env}{α:Type}(k:List (Str×Addr)->Sem α):∀(e:List (Str×NameKind)) (b:List (Str×Addr)),(∀y,(y,NameKind.free)∈e->∃c,env.cells.lookup y=some c) →
    (forIn e b (λ(x:Str×NameKind) (r:List (Str×Addr))=>if (x.2==NameKind.free)=true then (do let a ← cellOf env x.1; pure (ForInStep.yield ((x.1,a)::r))) else pure (ForInStep.yield r)):Sem _)=pure (ZfL env.cells e b)
  | [],b,_=>rfl
  | (n,kd)::r,b,h=>by
    have f:=λb=>ZfW k r b λy i=>h y<|Qy _ i;rw[List.forIn_cons]
    by_cases hk:kd=NameKind.free
    · subst hk
      obtain ⟨c,g⟩:=h n Qm;show ((cellOf env n >>= λa=>pure<|ForInStep.yield ((n,a)::b)) >>= _:Sem _)=_;have d:cellOf env n=pure c:=by unfold cellOf; rw[g]
      rw[d];show (forIn r ((n,c)::b) _:Sem _)=_;rw[f];show _=pure (ZfL env.cells r (if NameKind.free=NameKind.free then (match env.cells.lookup n with | some a=>(n,a)::b | none=>b) else b));rw[if_pos rfl,g]
    · have j:(kd==NameKind.free)=false:=by simpa using hk
      show ((if (kd==NameKind.free)=true then (do let a ← cellOf env n; pure (ForInStep.yield ((n,a)::b))) else pure (ForInStep.yield b)) >>= _:Sem _)=_;rw[j,if_neg Qg];show (forIn r b _:Sem _)=_;rw[f];show _=pure (ZfL env.cells r (if kd=NameKind.free then _ else b));rw[if_neg hk]
theorem ZcC{b:Scope}{env:Env}(h:∀y,(y,NameKind.free)∈b.names->∃c,env.cells.lookup y=some c):closureFor b env=pure (ZfL env.cells b.names []):=by
 unfold closureFor;have:=ZfW (env:=env) (α:=List<|Str×Addr) pure b.names [] h;show (forIn b.names [] (λ(x:Str×NameKind) (r:List (Str×Addr))=>if (x.2==NameKind.free)=true then (do let a ← cellOf env x.1;pure (ForInStep.yield ((x.1,a)::r))) else pure (ForInStep.yield r)) >>= λd=>pure d:Sem _)=_;rw[this]
 rfl
theorem Zd2{a:Scope}{env:Env}(h:(a.names.all λy=>!(y.2==NameKind.free)||(env.cells.lookup y.1).isSome)=true):∀y,(y,NameKind.free)∈a.names->∃c,env.cells.lookup y=some c:=λy b=>by
 have e:(env.cells.lookup y).isSome=true:=Ul.mp h (y,NameKind.free) b;exact Uk.mp e
def CapsOk(X:Cx)(a:Scope):List (Nat×Str)->Prop
 | []=>True
 |p::r=>(X.N[p.1]?=some p.2/\a.names.lookup p.2=some .free/\(X.env.kindOf p.2=some .cell\/X.env.kindOf p.2=some .free))/\CapsOk X a r
theorem CapsOk.mem{X:Cx}{a:Scope}:∀ {caps:List (Nat×Str)},CapsOk X a caps->∀p∈caps,X.N[p.1]?=some p.2/\a.names.lookup p.2=some .free/\(X.env.kindOf p.2=some .cell\/X.env.kindOf p.2=some .free)
 | [],_,_,h=>nomatch h
 |_::_,⟨h1,h2⟩,p,h=>by
  rcases Qe.mp h with rfl|h
  ·exact h1
  ·exact h2.mem p h
def ZaD(X:Cx)(a:Scope)(N:List Str)(s₀:Shared)(H₀:Hp)(C:Addr)(b:ZZla):Cx where
 prog:=X.prog
 w:=X.w
 K:=X.K
 mg:=X.mg
 base:=X.base
 A:=X.A
 N:=N
 s₀:=s₀
 H₀:=H₀
 env:=compEnvC a (ZfL X.env.cells a.names []) C X.env
 outer:=X.stack
 stack:=X.stack
 ex:=b
 fn:=λ_=>false
 calm:=X.calm
 pn:=[]
 xe:=λ_ _=>False
def st0(k:Nat)(caps:List (Nat×Str))(a:St):St:=List.replicate k none++caps.map λp=>(a[p.1]?).join
theorem ZeH{prog:Program}{w:World}{A:Around}{R:Result->Shared->Prop}{s:Shared}{k a g:Expr}{d:Scope}{p:Pos}{it l:Value}{env:Env}(I:Nat->Shared->Prop)
    (t:∀n s,I n s->wpAny (model prog w) A (pyNext it) (λr b=>match r with
      | none=>R (.ok .next) b
      | some v=>wpAny (model prog w) A (letOwnedTupleGo a it v) (λ_ b=>wpAny (model prog w) A (assign a env v) (λ_ i=>wpAny (model prog w) A (eval k env) (λx j =>
          wpAny (model prog w) A (call (.builtin "list.append") [l,x]) (λ_ f=>∃m,m<n/\I m f) (λ_ _=>False) j)
          (λ_ _=>False) i) (λ_ _=>False) b) (λ_ _=>False) b) (λ_ _=>False) s)
    (n:Nat) (h:I n s) :
    codeAny (model prog w) A (.compLoop (.ListComp k [⟨a,g,[],0⟩] d p) 0 it l env) R s:=by
  refine codeAny_loop rfl I (λn s y=>?_) n h;show wpAny _ _ ((compTurn (.ListComp k [⟨a,g,[],0⟩] d p) 0 it l env).onRaise (λx=>do noteFrame x env; theTreesLotGoes x)) _ _ s;refine wpAny_noted ?_;rw[compTurn_list1];refine wpAny_bind<|wpAny_standAt<|wpAny_bind<|wpAny_mono (t n s y) (λr b c=>?_) λ_ _ e=>False.elim e
  cases r with
  | none=>exact wpAny_pure c
  | some v =>
    refine wpAny_bind<|wpAny_mono c (λ_ b c=>?_) λ_ _ e=>False.elim e;exact wpAny_bind<|wpAny_mono c (λ_ i o=>wpAny_bind<|wpAny_bind<|wpAny_mono o (λx j u=>wpAny_bind<|wpAny_mono u
      (λ_ f q=>wpAny_pure<|wpAny_pure ⟨rfl,q⟩) λ_ _ e=>False.elim e) λ_ _ e=>False.elim e) λ_ _ e=>False.elim e
def Ze9(k:Nat)(caps:List (Nat×Str))(g:TG)(j:TE)(h:St)(J:It)(H:Hp)(Q:List V->Hp->Prop):Prop :=
 ∃W:Nat->Nat->List V->Hp->Prop,(∃m,W 0 m [] H)/\∀i m a c,W i m a c->a.length<=sizeLine/\((J.stop i c/\Q a c) ∨
  (J.go i c/\a.length<sizeLine/\∃N:V->Hp->Prop,(∀v f,N v f->∃d,d<m/\W (i+1) d (a++[v]) f) ∧
   ∀x e,J.yld i c x e->g x (st0 k caps h) e λb l=>(∀(i:Nat) v,(st0 k caps h)[i]?=some (some v)->b[i]?=some (some v))/\j b l N))
def ZhZ(k:Nat)(caps:List (Nat×Str))(f:TI)(g:TG)(e:TE):TE:=λb H Q=>f b H λJ d=>Ze9 k caps g e b J d λc a=>∀D,a D=none->Q (.ref D) (upd a D<|.lst c)
section
variable{X:Cx}{tg iter elt:Expr}{scope:Scope}{pos:Pos}{wi:TI}{g:TG}{te:TE}{own:List Str}{caps:List (Nat×Str)}
theorem Zdb{scope:Scope}{env:Env}{x:Str}(a:scope.names.lookup x=some .free):(relabel scope env).names.lookup x=some .cell\/(relabel scope env).names.lookup x=some .free:=by
 unfold relabel;show (scope.names.map _).lookup x=_\/(scope.names.map _).lookup x=_;generalize scope.names=c at a
 induction c with
 |nil=>simp at a
 |cons p r d =>
  obtain ⟨n,k⟩:=p;rw[W9]
  by_cases hn:x=n
  ·subst hn
   simp only[Qr,beq_self_eq_true] at a
   cases a
   by_cases hc:((NameKind.free==NameKind.free)&&env.scope.kind == .function&&env.kindOf x==some .cell)=true
   ·left
    show List.lookup x ((if _=true then (x,NameKind.cell) else (x,NameKind.free))::_)=_;rw[if_pos hc]
    simp[Qr]
   ·right
    show List.lookup x ((if _=true then (x,NameKind.cell) else (x,NameKind.free))::_)=_;rw[if_neg hc]
    simp[Qr]
  ·have b:(x==n)=false:=beq_eq_false_iff_ne.mpr hn
   simp only[Qr,b] at a
   have:=d a;show List.lookup x ((if _=true then (n,NameKind.cell) else (n,k))::_)=_\/List.lookup x ((if _=true then (n,NameKind.cell) else (n,k))::_)=_
   split <;> (simp only[Qr,b];exact this)
theorem ZeI{scope:Scope}{env:Env}{x:Str}(f:∀y∈scope.names,y.2 ≠ .cell)(a:(relabel scope env).names.lookup x=some .cell\/(relabel scope env).names.lookup x=some .free):(x,NameKind.free)∈scope.names:=by
 unfold relabel at a;have a:(scope.names.map λ(n,k)=>if (k==NameKind.free&&env.scope.kind == .function&&env.kindOf n==some .cell) then (n,NameKind.cell) else (n,k)).lookup x=some .cell\/(scope.names.map λ(n,k)=>if (k==NameKind.free&&env.scope.kind == .function&&env.kindOf n==some .cell) then (n,NameKind.cell) else (n,k)).lookup x=some .free:=a;generalize scope.names=h at a f
 induction h with
 |nil=>simp at a
 |cons p r j =>
  obtain ⟨n,k⟩:=p;rw[W9] at a;have l:=λz=>j z<|λy i=>f y<|Qy _ i
  by_cases hn:x=n
  ·subst hn
   by_cases hk:k=NameKind.free
   ·subst hk;exact Qm
   ·have d:(k==NameKind.free)=false:=by simpa using hk
    have c:List.lookup x ((x,k)::List.map (λ(p:Str×NameKind)=>match p with|(n,k)=>if (k==NameKind.free&&env.scope.kind == .function&&env.kindOf n==some .cell)=true then (n,NameKind.cell) else (n,k)) r)=some .cell\/List.lookup x ((x,k)::List.map (λ(p:Str×NameKind)=>match p with|(n,k)=>if (k==NameKind.free&&env.scope.kind == .function&&env.kindOf n==some .cell)=true then (n,NameKind.cell) else (n,k)) r)=some .free:=by
     simpa [d] using a
    simp only[Qr,beq_self_eq_true,Option.some.injEq] at c
    rcases c with e|e
    ·exact absurd e (f (x,k) Qm)
    ·exact absurd e hk
  ·have d:(x==n)=false:=beq_eq_false_iff_ne.mpr hn;refine Qy _<|l ?_;have b:List.lookup x ((if (k==NameKind.free&&env.scope.kind == .function&&env.kindOf n==some .cell)=true then (n,NameKind.cell) else (n,k))::List.map (λ(p:Str×NameKind)=>match p with|(n,k)=>if (k==NameKind.free&&env.scope.kind == .function&&env.kindOf n==some .cell)=true then (n,NameKind.cell) else (n,k)) r)=some .cell\/List.lookup x ((if (k==NameKind.free&&env.scope.kind == .function&&env.kindOf n==some .cell)=true then (n,NameKind.cell) else (n,k))::List.map (λ(p:Str×NameKind)=>match p with|(n,k)=>if (k==NameKind.free&&env.scope.kind == .function&&env.kindOf n==some .cell)=true then (n,NameKind.cell) else (n,k)) r)=some .free:=a
   split at b <;> (simp only[Qr,d] at b;exact b)
theorem Zhk{d:List (Addr×Obj)}{v:St}{H:Hp}{s:Shared}{m:ZZla}{C:Addr}{N:List Str}(I:Inv X d v H s)(f:scope.kind = .function)(a:∀y∈scope.names,y.2 ≠ .cell)
    (j:∀y,(y,NameKind.free)∈scope.names->∃c,X.env.cells.lookup y=some c) (r:s.heap.objs.size<=C) (l:∀b∈m,ZhP X d H b) (n:∀b∈m,b<s.heap.objs.size):(ZaD X scope N s H C m).Ok:=by
  have i:∀x c,(ZfL X.env.cells scope.names []).lookup x=some c->X.env.cells.lookup x=some c:=λx c e=>Zdt scope.names [] (λp t=>(nomatch t)) (x,c)<|PySem.mem_of_lookup e;refine ⟨I.ok.mod,f,I.ok.glob,I.ok.blt,r,λx y c w u=>I.ok.inj x y c (i x c w)<|i y c u,λx q=>?_,λx c h=>(Qg h).elim,I.ok.hd,I.ok.frames,.inl rfl,λb k=>⟨?_,λx c e=>(l b k).2.2.2.2.1 x c<|i x c e⟩,I.bs,Q1 I.ok.bsz I.sz,λb o e k=>?_,λb k z=>?_,I.stack,I.stkFree⟩
  · obtain ⟨c,A⟩:=Zdu scope.names [] (ZeI a q)<|j x<|ZeI a q
    exact Zbg A
  · exact Q8 (Q5 (n b k) r)
  · rcases (l b k).2.2.2.1 with z | z
    · exact I.ok.noex b o e z
    · exact absurd (Q5 (Heap.lt_size e)<|Q1 I.ok.bsz z) (Qf _)
  · rcases Qe.mp (I.stkSub b z) with e | e
    · exact (l b k).2.1 e
    · exact (l b k).2.2.1 e
theorem Zh0(k:Nat)(caps:List (Nat×Str))(a:St):(st0 k caps a).length=k+caps.length:=by
 unfold st0;rw[Qc,Wr,Q0]
theorem Zh1{k:Nat}{caps:List (Nat×Str)}{b:St}{i:Nat}{v:V}(h:(st0 k caps b)[i]?=some (some v)):k<=i/\∃p,caps[i-k]?=some p/\b[p.1]?=some (some v):=by
 unfold st0 at h
 by_cases hi:i<k
 ·rw[Wd (by rw[Wr];exact hi),List.getElem?_replicate,if_pos hi] at h
  cases h
 ·have c:k<=i:=U1.mp hi;refine ⟨c,?_⟩;rw[Wa (by rw[Wr];exact c),Wr,Q4] at h
  cases e:caps[i-k]? with
  |none=>rw[e] at h;cases h
  |some p =>
   rw[e] at h;refine ⟨p,rfl,?_⟩;have a:(b[p.1]?).join=some v:=Option.some.inj h
   cases q:b[p.1]? with
   |none=>rw[q] at a;cases a
   |some o=>rw[q] at a;cases o with
    |none=>cases a
    |some w=>cases a;rfl
theorem Zhl{U:List (Addr×Obj)}{σ:St}{H:Hp}{s:Shared}{L:ZZla}{it:Addr}{tn:Nat->Heap->Prop}{J:It}{E:Value->Shared->Prop}{RR:Value->Addr->Result->Shared->Prop}{QL:List V->Hp->Prop}
    (I:Inv X U σ H s) (hc:X.calm=true) (T:Turn X.prog X.w X.K tg J L it tn) (st:tn 0 s.heap) (hf:∀b∈L,ZhP X U H b)
    (R:scope.kind = .function) (O:∀y∈scope.names,y.2 ≠ .cell) (a9:∀y,(y,NameKind.free)∈scope.names->∃c,X.env.cells.lookup y=some c) (b3:CapsOk X scope caps)
    (hg:∀Z Q C,PG (ZaD X scope (own++caps.map (·.2)) Z Q C L) tg g) (he:∀Z Q C,PE (ZaD X scope (own++caps.map (·.2)) Z Q C L) elt te)
    (hB:Ze9 own.length caps g te σ J H QL)
    (c9:∀D C P m ys A,s.heap.objs.size<=C->D≠C->P.heap.Ns C m->Inv X U σ (upd A D<|.lst ys) P->A D=none->A C=none->QL ys A->RR (.ref D) C (.ok .next) P) :
    wpAny (model X.prog X.w) X.A (newList []) (λc5 F=>wpAny (model X.prog X.w) X.A (newFunctionEnv scope X.env.globals (ZfL X.env.cells scope.names []) [] X.env.qual none .none<|some X.env) (λa7 b7 =>
      codeAny (model X.prog X.w) X.A (.compStart (.ListComp elt [⟨tg,iter,[],0⟩] scope pos) 0 (.ref it) c5 { a7 with scope:=relabel scope X.env }) (RR c5 a7.locals) b7) E F) E s:=by
  refine wpAny_newObj_type (wpAny_newFunctionEnv O (by intro y hy; simp at hy) (λB t h=>?_) R)
  dsimp only at t h ⊢
  generalize hH2:s.heap.push { cls:=.type "list", dict:=none,data:=.seq ([]:List Value).toArray }=H2 at t h ⊢;have hC:H2.objs.size=s.heap.objs.size+1:=by rw[<-hH2,Heap.size_push]
  generalize hCC:H2.objs.size=C at *;have M:s.heap.objs.size<=C:=by rw[hC]; exact U9 _
  generalize hDD:s.heap.objs.size=D at *;have a4:D≠C:=by rw[hC]; exact Q8<|Wp _
  have j:∀b,b<D->b≠C/\b≠D:=λb a=>⟨by rw[hC]; exact Q8<|Um a,Q8 a⟩;have G:∀ {b o},s.heap.get? b=some o->b<D:=fun {b o} e=>by rw[<-hDD]; exact Heap.lt_size e
  have K:∀b o,s.heap.get? b=some o->B.get? b=some o:=λb o e=>h.extBut b o (j b<|G e).1<|Heap.get?_push_of_some _<|hH2 ▸ Heap.get?_push_of_some _ e;have c4:B.get? D=some { cls:=.type "list", data:=.seq ([]:List Value).toArray 0 }:=h.extBut _ _ a4<|Heap.get?_push_of_some _<|hH2 ▸ (hDD ▸ Heap.get?_push_size _ rfl);have a3:∀b∈L,b<D:=λb a=>let ⟨o,e,_⟩:=T.obj 0 _ st b a; G e;have c7:∀b,D<=b->s.heap.get? b=none:=λb a=>by
    cases e:s.heap.get? b with
    | none=>rfl
    | some o=>exact absurd (G e)<|U1.mpr a
  have nH:∀b,D<=b->H b=none:=λb a=>I.hok.fresh (by rw[hDD]; exact a)
  let Y:Cx:=ZaD X scope (own++caps.map (·.2)) s H C L
  have a0:Y.Ok:=Zhk I R O a9 (by rw[hDD]; exact M) hf (by rw[hDD]; exact a3);have a2:∀x c,(ZfL X.env.cells scope.names []).lookup x=some c->X.env.cells.lookup x=some c:=λx c e=>Zdt scope.names [] (λp w=>(nomatch w)) (x,c)<|PySem.mem_of_lookup e;have a1:∀x c,X.env.cells.lookup x=some c->c<D:=λx c e=>by
    obtain ⟨v,o,ho,_⟩:=I.cell x c e;exact G ho
  have b1:∀b∈frs X.stack,b<D:=λb a=>by
    rcases Qe.mp (I.stkSub b a) with e | e
    · rw[e,<-hDD]; exact I.lt
    · obtain ⟨_,o,ho,_⟩:=I.funs.mem e
      exact G ho
  have I0:Inv Y [] (st0 own.length caps σ) H { s with heap:=B,toks:=s.toks+([]:List (Str×Value)).length }:=by
    refine ⟨a0,rfl,I.bare,Un.kept K,⟨_,t,λi x v h1 h2 h3=>?_⟩,λx c e=>?_,nH C M,λx c e=>I.freeC x c<|a2 x c e,λp w=>?_,I.hok.kept K,?_⟩
    · obtain ⟨hk,p,w,hv⟩:=Zh1 h2
      have c3:caps[i-own.length]?.map (·.2)=some x:=by
        have:(own++caps.map (·.2))[i]?=some x:=h1;rw[Wa hk,Q4] at this;exact this
      rw[w] at c3
      cases c3
      obtain ⟨q1,q2,q3⟩:=b3.mem p<|Qp w;obtain ⟨m,hn,hl⟩:=I.loc;obtain ⟨u,r,l⟩:=hl p.1 p.2 v q1 hv (by rcases q3 with z | z; exact .inr<|.inl z; exact .inr<|.inr z);refine ⟨u,r,.inr ⟨Zdb q2,?_⟩⟩;rcases l with ⟨z,_⟩ | ⟨_,c,hc',z⟩
      · rcases q3 with y | y <;> (rw[y] at z; cases z)
      · have hm:(p.2,NameKind.free)∈scope.names:=PySem.mem_of_lookup q2
        obtain ⟨d,hd⟩:=Zdu scope.names [] hm ⟨c,hc'⟩;obtain ⟨d',c0⟩:=Zbg hd;have e:=a2 _ _ c0;rw[hc'] at e
        cases e
        obtain ⟨oc,ho,d9⟩:=z;exact ⟨c,c0,oc,K _ _ ho,d9⟩
    · obtain ⟨v,o,ho,hd⟩:=I.cell x c<|a2 x c e
      exact ⟨v,o,K _ _ ho,hd⟩
    · exact absurd (show p∈([]:List (Addr×Obj)) from w) (by simp)
    · rw[Zh0]
      show _=(own++caps.map (·.2)).length;rw[Qc,Q0]
  have a5:∀ {f:List Value} {n:Nat} {a8:St} {A:Hp} {P:Shared},Inv Y [] a8 A P->A D=none->P.heap.get? D=some { cls:=.type "list", data:=.seq f.toArray n }->Inv Y [(D,{ cls:=.type "list", data:=.seq f.toArray n })] a8 A P:=fun {f n a8 A P} J hn e =>
    J.pins_of λp w=>by
      have ep:p=(D,{ cls:=.type "list", data:=.seq f.toArray n }):=Qh.mp w;subst ep;refine ⟨e,hn,a4,λz=>?_,λv z=>by cases z⟩;exact absurd (b1 D z)<|Qf _
  obtain ⟨W,⟨m0,w0⟩,S⟩:=hB;have b9:∀ {A:Hp} {pins':List (Addr×Obj)},(∀b∈L,A b=none)->(∀p∈pins',∀b∈L,p.1≠b)->∀b∈L,ZhP Y pins' A b:=fun {A pins'} hn w b a =>
    ⟨hn b a,(a0.exf b a).1,a0.exfs b a,.inl a,(a0.exf b a).2,λp q=>w p (by simpa [Y,ZaD] using q) b a⟩
  have a6:∀F:Shared,F={ s with heap:=B,toks:=s.toks+([]:List (Str×Value)).length } →
      codeAny (model X.prog X.w) X.A (.compLoop (.ListComp elt [⟨tg,iter,[],0⟩] scope pos) 0 (.ref it) (.ref D)<|compEnvC scope (ZfL X.env.cells scope.names []) C X.env) (RR (.ref D) C) F:=by
    rintro F rfl;refine ZeH (λk P=>∃(i:Nat) (ys:List V) (f:List Value) (n:Nat) (A:Hp),Inv Y [(D,{ cls:=.type "list", data:=.seq f.toArray n })] (st0 own.length caps σ) A P/\tn i P.heap/\(∀b∈L,A b=none)/\Vals ys f/\W i k ys A) ?_ m0
      ⟨0,[],[],0,H,a5 I0 (nH D<|Q2 _) c4,T.keep _ _ _ st λb _ o e=>K b o e,λb a=>(hf b a).1,.nil,w0⟩
    rintro k s3 ⟨i,ys,f,n,H3,I3,c6,d7,rv,w3⟩;obtain ⟨pD,nD,_⟩:=I3.pin (D,{ cls:=.type "list", data:=.seq f.toArray n })<|Qb _ Qm;have ff:=b9 (pins':=[(D,{ cls:=.type "list", data:=.seq f.toArray n })]) d7 (λp w b a=>by
      rw[Qh.mp w]; exact (Ne.symm (j b<|a3 b a).2))
    obtain ⟨b4,S⟩:=S i k ys H3 w3;rcases S with ⟨stop,q⟩ | ⟨go,hsz',NN,hNN,step⟩
    · refine thn (T.done Y rfl rfl rfl hc i _ s3 _ H3 _ I3 ff c6 stop) λr s4 ⟨hr,I4⟩=>?_
      subst hr;obtain ⟨m4,d8,_⟩:=I4.loc;obtain ⟨e1,b6,_⟩:=I4.pin (D,{ cls:=.type "list", data:=.seq f.toArray n })<|Qb _ Qm;refine c9 D C s4 m4 ys H3 M a4 d8 ?_ b6 I4.free q;have hk:=I4.base;have b2:HOk X.prog X.w H3 s4.heap:=I4.hok;have N:∀b u,H3 b=some u->b≠D:=λb u e z=>by rw[z,b6] at e; cases e
      refine I.call' (ch:=L) I4.os ⟨λb o e n a hx=>hk.keep b o e n a hx,λb o e n a hx=>hk.slot b o e n a hx,λb o e n hx=>?_,λb o e hx=>hk.there b o e hx,λb xs e=>?_,λb o u e=>?_,λb ps e=>?_⟩ ?_ I4.bare ?_
      · rw[Zaj (j b<|G e).2]; exact hk.free b o e n hx
      · have:=hk.tups b xs e
        rw[Zaj<|N b _ this]; exact this
      · have:=hk.frzs b o u e
        rw[Zaj<|N b _ this]; exact this
      · obtain ⟨b8,e'⟩:=hk.tbls b ps e
        exact ⟨b8,by rw[Zaj<|N b _ e']; exact e'⟩
      · intro b u e
        by_cases a:b=D
        · subst a
          rw[Zah] at e
          cases e
          exact ⟨b4,f,n,rv,e1⟩
        · rw[Zaj a] at e
          exact (b2 b u e).stay (λc v _ q=>q) (λc q=>by rw[Zaj<|N c _ q]; exact q) λc xs q=>by rw[Zaj<|N c _ q]; exact q
      · intro b a
        obtain ⟨_,f1,_,f3,f4,f5⟩:=hf b a;exact ⟨f3,f1,f4,f5⟩
    · refine thn (T.item Y rfl rfl rfl hc i _ s3 _ H3 _ I3 ff c6 go) λr s4 ⟨u,hr,h4⟩=>?_
      subst hr;refine thn h4 λ_ s5 ⟨x,H5,I5,r5,y5,b0,d5⟩=>?_;have d0:=b9 (pins':=[(D,{ cls:=.type "list", data:=.seq f.toArray n })]) d5 (λp w b a=>by
        rw[Qh.mp w]; exact (Ne.symm (j b<|a3 b a).2))
      have d2:=I5.pinned d0<|T.obj _ _ b0;refine thn (hg s H C _ s5 _ H5 x u _ d2 r5<|step x H5 y5) λ_ s6 ⟨c1,H6,I6,wk,q6⟩=>?_;refine thn (he s H C _ s6 c1 H6 _ I6 q6) λy s7 ⟨v,H7,I7,r7,n7⟩=>?_;obtain ⟨m',hm,w7⟩:=hNN v H7 n7;obtain ⟨e0,c2,_,_,_⟩:=I7.pin (D,{ cls:=.type "list", data:=.seq f.toArray n })<|Qb _<|Wn _ Qm;refine append_at (n:=n) e0 (λh' b5 d1=>?_) (by rw[Qd,<-rv.length]; exact b4);have d4:tn (i+1) s7.heap:=T.keep _ _ _ b0 λb a o e=>(I7.pin (b,o)<|Qb _<|Qb _<|Za7 a e).1;have d6:∀b∈L,H7 b=none:=λb a=>by
        obtain ⟨o,e,d⟩:=T.obj _ _ b0 b a;exact (I7.pin (b,o)<|Qb _<|Qb _<|Za7 a e).2.1
      have I8:Inv Y [] c1 H7 s7:=I7.pins_of λp w=>(nomatch w);have I9:Inv Y [] (st0 own.length caps σ) H7 s7:=I8.weak (by rw[I0.len,I8.len]) wk;have c8:Inv Y [] (st0 own.length caps σ) H7 { s7 with heap:=h' }:=I9.turned (t':=s7.toks) (it:=D) (λb o a e=>b5.extBut b o a e) c2 a4 (.inr<|U0 hDD) (λx c e=>Q8<|a1 x c<|a2 x c e)<|λp w=>absurd (show p∈([]:List (Addr×Obj)) from w) (by simp);refine ⟨m',hm,i+1,ys++[v],f++[y],n+1,H7,a5 c8 c2 ?_,?_,d6,rv.append<|.cons r7 .nil,w7⟩
      · rw[d1,List.push_toArray]
      · exact T.keep _ _ _ d4 λb a o e=>b5.extBut b o (j b<|a3 b a).2 e
  have d3:tn 0 B:=T.keep _ _ _ st λb _ o e=>K b o e;exact codeAny_compStart_list (a6 _ rfl)<|T.self _ 0 _ _ _ d3<|a6 _ rfl
theorem Zgf(own:List Str)(caps:List (Nat×Str))(hc:X.calm=true)(S:PI X tg iter wi)(hg:∀r f a C,PG (ZaD X scope (own++caps.map (·.2)) f a C r) tg g)(P:∀r f a C,PE (ZaD X scope (own++caps.map (·.2)) f a C r) elt te)
    (t:CapsOk X scope caps)
    (F:(scope.names.all λy=>!(y.2==NameKind.free)||(X.env.cells.lookup y.1).isSome)=true:=by rfl)
    (d:scope.kind = .function:=by rfl) (n:∀y∈scope.names,y.2 ≠ .cell:=by decide +kernel)
    (j:∀y∈scope.names,y.2 = .local->scope.names.lookup y.1=some .local:=by decide +kernel) (hs:∀x,foldedSetIterable iter X.env x=pure x:=by intro _; rfl) :
    PE X (.ListComp elt [⟨tg,iter,[],0⟩] scope pos) (ZhZ own.length caps wi g te):=by
  intro k s L H Q I h;have i:=Zd2 F;have l:=ZcC i;rw[eval_ListComp];refine wpAny_comprehension_free (use:=none) rfl hs l d j<|thn (S k s L H _ I h) λv s1 h1=>thn h1 λa0 s2 U=>?_;obtain ⟨it,r,tn,J,H2,e,u,T,A,R,W⟩:=U;subst e;refine Zhl (RR:=λG C=>compPost (model X.prog X.w) X.A X.xe none (EP X k L Q) G C) u hc T A R d n i t (hg r) (P r) W ?_;intro D C M m N Z w B Y I3 nD nC q;refine ⟨m,Y,λh' E=>⟨.ref D,upd Z D<|.lst N,?_,rfl,q D nD⟩⟩;exact I3.turned (t':=M.toks) (it:=C) (λb o hb e=>E.extBut b o hb e) (by rw[Zaj<|Ne.symm B]; exact nC) (Ne.symm<|Q8<|Q5 u.lt w) (.inr<|Q1 u.sz w)
    (λx c e z=>by
      obtain ⟨v,o,K,_⟩:=u.cell x c e;rw[z] at K;exact absurd (Q5 (Heap.lt_size K) w)<|Qf _)
    (λp O z=>by
      have:=(u.pin p O).1;rw[z] at this;exact absurd (Q5 (Heap.lt_size this) w)<|Qf _)
theorem ZcD{i:Nat}{x:Str}{d t:Pos}(own:List Str)(caps:List (Nat×Str))(hN:X.N.Nodup)(U:X.N[i]?=some x)(Y:X.env.scope.names.lookup x=some .local)(hc:X.calm=true)(hi:PI X tg iter wi)
    (hg:∀A n j C,PG (ZaD X scope (own++caps.map (·.2)) n j C A) tg g) (he:∀A n j C,PE (ZaD X scope (own++caps.map (·.2)) n j C A) elt te)
    (B:CapsOk X scope caps)
    (S:(scope.names.all λy=>!(y.2==NameKind.free)||(X.env.cells.lookup y.1).isSome)=true:=by rfl)
    (M:swapsWith (.ListComp elt [⟨tg,iter,[],0⟩] scope pos) (some<|.Name x d) t.line X.env=pure true:=by rfl)
    (k:scope.kind = .function:=by rfl) (w:∀y∈scope.names,y.2 ≠ .cell:=by decide +kernel)
    (r:∀y∈scope.names,y.2 = .local->scope.names.lookup y.1=some .local:=by decide +kernel) (hs:∀x,foldedSetIterable iter X.env x=pure x:=by intro _; rfl) :
    PS X (.Assign [.Name x d] (.ListComp elt [⟨tg,iter,[],0⟩] scope pos) t) (ZrH (ZhZ own.length caps wi g te)<|Zcm i):=by
  intro l s σ H D0 I h;have f:=Zd2 S;have u:=ZcC f;rw[exec_Assign_Name_used _ _ _ _ M];refine wpAny_bind<|wpAny_standAt<|wpAny_bind ?_;show wpAny _ X.A (do let _ ← comprehension (.ListComp elt [⟨tg,iter,[],0⟩] scope pos) scope X.env _ (newList []) false (eval iter X.env) (some<|assign (.Name x d) X.env)) _ _ s;refine wpAny_bind<|wpAny_mono (wpAny_comprehension_free (use:=some<|assign (.Name x d) X.env) (Q:=λ_ F=>SP X l D0 .next F) rfl hs u k r<|thn (hi l s σ H _ I h) λv s1 h1=>thn h1 λa0 s2 h2=>?_) (λ_ F hq=>wpAny_pure<|wpAny_pure hq) λ_ _ e=>e;obtain ⟨it,A,tn,J,H2,e,K,T,N,f2,hB⟩:=h2;subst e;refine Zhl (RR:=λW C=>compPost (model X.prog X.w) X.A X.xe (some<|assign (.Name x d) X.env) (λ_ F=>SP X l D0 .next F) W C) K hc T N f2 k w f B (hg A) (he A) hB ?_;intro D C F m ys H' L R hn I3 nD nC q;show wpAny _ X.A (assign (.Name x d) X.env<|.ref D) _ _ _;have G:C≠X.env.locals:=Ne.symm<|Q8<|Q5 K.lt L;have E:∀x c,X.env.cells.lookup x=some c->c≠C:=λx c e z=>by
    obtain ⟨v,o,Z,_⟩:=K.cell x c e;rw[z] at Z;exact absurd (Q5 (Heap.lt_size Z) L)<|Qf _
  refine wpAny_assign_Name<|Ze2 I3 hN U (.inl Y) (v:=.ref D) rfl (λs4 I4 ⟨a,sb,ha⟩=>?_)<|.inr Y;have P:C≠a:=by
    rcases ha with e | e
    · rw[e]; exact G
    · exact Ne.symm (E x a e)
  refine ⟨m,hn.sameBut sb P,λh' O=>⟨_,_,?_,q D nD⟩⟩;exact I4.turned (t':=s4.toks) (it:=C) (λb o hb e=>O.extBut b o hb e) (by rw[Zaj<|Ne.symm R]; exact nC) G (.inr<|Q1 K.sz L) E
    (λp hp z=>by
      have:=(K.pin p hp).1;rw[z] at this;exact absurd (Q5 (Heap.lt_size this) L)<|Qf _)
theorem ZkX{x:V}{a:List (Option V)}:∀(i:Nat) v,((none:Option V)::a)[i]?=some (some v)->((some x)::a)[i]?=some (some v)
 |0,v,h=>by simp at h
 |i+1,v,h=>by simpa using h
theorem ZkY{K:ZZfg}{a:Addr}{xs:List V}{h:St}{H:Hp}{QL:List V->Hp->Prop}(b:Nat->List V->Hp->Prop)(l:xs.length<=1000)(t:b 0 [] H)(k:∀i ys H,i<=xs.length->b i ys H->SqL K H a xs)
    (o:∀i x ys H,xs[i]?=some x->ys.length=i->b i ys H->te (some x::caps.map λp=>(h[p.1]?).join) H λv c=>b (i+1) (ys++[v]) c) (s:∀ys H,ys.length=xs.length->b xs.length ys H->QL ys H) :
    Ze9 1 caps (Zcm 0) te h (Itl K a) H QL:=by
  have j:xs.length<sizeLine:=ZaR l;refine ⟨λi m ys H=>m=xs.length-i/\i<=xs.length/\ys.length=i/\b i ys H,⟨_,rfl,Q6 _,rfl,t⟩,?_⟩;rintro i m ys c ⟨rfl,n,d,p⟩;have q:=k i ys c n p;refine ⟨⋯,?_⟩
  by_cases hlt:i<xs.length
  · refine .inr ⟨⟨xs,xs[i],q,by simp[hlt]⟩,⋯,λv f=>b (i+1) (ys++[v]) f,λv f r=>⟨xs.length-(i+1),⋯,rfl,hlt,by rw[Qc,d]; rfl,r⟩,λx u y=>?_⟩
    obtain ⟨e,y⟩:=y;subst e;exact ⟨ZkX,o i x ys _ (y xs q) d p⟩
  · have e:i=xs.length:=⋯
    subst e;exact .inl ⟨⟨xs,q,Q2 _⟩,s ys c d p⟩
theorem ZjS{lo:Int}{n:Nat}{f:St}{H:Hp}{QL:List V->Hp->Prop}(a:Nat->List V->Hp->Prop)(j:n<=1000)(q:a 0 [] H)
    (k:∀i ys H,i<n->ys.length=i->a i ys H->te (some (.int<|lo+i)::caps.map λp=>(f[p.1]?).join) H λv c=>a (i+1) (ys++[v]) c) (o:∀ys H,ys.length=n->a n ys H->QL ys H) :
    Ze9 1 caps (Zcm 0) te f (Itr lo n) H QL:=by
  have h:n<sizeLine:=ZaR j;refine ⟨λi m ys H=>m=n-i/\i<=n/\ys.length=i/\a i ys H,⟨_,rfl,Q6 _,rfl,q⟩,?_⟩;rintro i m ys c ⟨rfl,s,b,p⟩;refine ⟨⋯,?_⟩
  by_cases hlt:i<n
  · refine .inr ⟨hlt,⋯,λv d=>a (i+1) (ys++[v]) d,λv d l=>⟨n-(i+1),⋯,rfl,hlt,by rw[Qc,b]; rfl,l⟩,λx r y=>?_⟩
    obtain ⟨e,y⟩:=y;subst e y;exact ⟨ZkX,k i ys _ hlt b p⟩
  · have e:i=n:=⋯
    subst e;exact .inl ⟨Q2 _,o ys c b p⟩
end
structure HasM (P:Program) (w:World) (K:ZZfg) (mg:ZZmg) (base:Heap) (C:Addr) (m:Str) (k:Nat) (ps:List Str) (dvs:List V) (sp:Sp):Prop where
 ex:∃(f:Addr) (fd:FuncData) (ds:List Value),FnOk P w K mg base CX0 k f fd ps sp/\Meth K C m f/\Binds K fd ps ds/\Vals dvs ds
theorem HasM.mono{P:Program}{w:World}{K:ZZfg}{g:ZZmg}{base:Heap}{C:Addr}{m:Str}{j k:Nat}{ps:List Str}{dvs:List V}{sp:Sp}(h:HasM P w K g base C m j ps dvs sp)(e:j<=k):HasM P w K g base C m k ps dvs sp :=
 let ⟨f,fd,ds,a,b,c,d⟩:=h.ex
 ⟨f,fd,ds,a.mono e,b,c,d⟩
inductive ZkZ (P:Program) (w:World) (K:ZZfg) (mg:ZZmg) (base:Heap) (m:Str) (k:Nat) (x:V) (H1:Hp) (R:List V->Sp->Prop):Prop
 |mk (a C:Addr) (dx:_) (fs:_) (ps:List Str) (dvs:List V) (sp:Sp) (_:x = .ref a) (_:H1 a=some (.ins C dx fs)) (_:Cls K C) (_:HasM P w K mg base C m k ps dvs sp) (_:fs.lookup m=none) (_:R dvs sp):ZkZ P w K mg base m k x H1 R
def Zqn(P:Program)(w:World)(K:ZZfg)(f:ZZmg)(base:Heap)(m:Str)(k:Nat)(e:TE)(t:TA):TE:=λc H Q=>e c H λx b=>ZkZ P w K f base m k x b λa d=>t c b λh g=>d (x::(h++a)) g Q E0
section
variable{X:Cx}{k:Nat}{m x:Str}{p pos apos:Pos}{e o:Expr}{es:List Expr}{ta:TE}{t:TA}
theorem Zgg{pl:Sem Bool}(A:PE X o ta)(N:Room k X.A)(y:PA X (e::es) t)
    (g:starEach (e::es) X.env=(false,eval e X.env)::starEach es X.env:=by rfl) (d:(backTo pos<|starEach es X.env).any (·.1)=false:=by rfl)
    (z:eval (.Call (.Attribute o m apos) (e::es) [] pos) X.env=(do
      let ov ← eval o X.env
      standAt apos.atName
      let (f,first) ← holding [ov] (getMethod ov m pl)
      callWith pos f first (backTo pos<|starEach (e::es) X.env) (backToKw pos<|keywordEach [] X.env)):=by rfl) :
    PE X (.Call (.Attribute o m apos) (e::es) [] pos) (Zqn X.prog X.w X.K X.mg X.base m k ta t):=by
  intro b s v H Q I h;refine PySem.W.methodCall_KW (pl:=pl) (thn (A b s v H _ I h) λu B ⟨x,E,i,w,a,C,R,Z,S,L,U,M,O,c,K,l,q⟩=>?_) z;subst M;obtain rfl:u=Value.ref a:=w;obtain ⟨f,Y,T,F,j,G,J⟩:=K.ex;refine ZfU i O c j l ?_;refine PySem.W.callWith_K (first:=[.ref a]) (h₀:=X.base) I.ok.mod.kin j.kp (thn (y pos b B v E _ i q) λus W ⟨vs,P,n,r,D⟩=>⟨n.kIn,?_⟩) g d;exact ZnP (us:=.ref a::us) (vs:=.ref a::vs) F N G J ZoG n (.cons rfl r) D
structure HasI (P:Program) (w:World) (K:ZZfg) (mg:ZZmg) (base:Heap) (C:Addr) (k:Nat) (ps:List Str) (sp:Sp):Prop where
 ex:∃(f:Addr) (fd:FuncData),Mk K C f/\FnOk P w K mg base CX0 k f fd ps sp/\Binds K fd ps []
theorem Zi6{C:Addr}{ps:List Str}{sp:Sp}(h:HasI X.prog X.w X.K X.mg X.base C k ps sp)(l:Room (k+1) X.A)(d:Gl X x)(i:X.mg x=some (.ref C))(g:PA X (e::es) t)(a:(x==("__debug__" : Str))=false:=by decide)
    (j:starEach (e::es) X.env=(false,eval e X.env)::starEach es X.env:=by rfl) (c:(backTo pos<|starEach es X.env).any (·.1)=false:=by rfl):PE X (.Call (.Name x p) (e::es) [] pos) (Zqg C sp [] E0 t):=by
  obtain ⟨f,n,M,F,b⟩:=h.ex;exact ZoC M F l d i b .nil ZoG g a j c
structure HereM (K:ZZfg) (C:Addr) (m qual:Str) (st:Stmt):Prop where
 ex:∃(f:Addr) (fd:FuncData),Fun K m qual st f fd/\Meth K C m f
theorem HereM.hasM{P:Program}{w:World}{K:ZZfg}{g:ZZmg}{base:Heap}{C:Addr}{m a:Str}{d:Stmt}{k:Nat}{ps:List Str}{sp:Sp}(h:HereM K C m a d)
    (b:∀f c,Fun K m a d f c->Binds K c ps []) (i:∀f c,Fun K m a d f c->FnOk P w K g base CX0 k f c ps sp):HasM P w K g base C m k ps [] sp :=
  let ⟨f,c,F,M⟩:=h.ex
  ⟨f,c,[],i f c F,M,b f c F,.nil⟩
theorem hereM_mk{K:ZZfg}{C:Addr}{m b:Str}{g:Stmt}{f:Addr}{r:Value}{u s:Option Addr}{j:Array (Option Value)}{kV h n d q:Value}(a:PySem.W.findIn K (.ref C) m=some (some<|.ref f))(i:PySem.W.isFn K (.ref f)=true)
    (l:K.lookup f=some ⟨r,u,.func<|PySem.W.fnOf m b (Zbw g) (Za4 g) (Zab g) .none kV h n s d q,j⟩)
    (c:PySem.W.codeIn K d b=true) (k:PySem.W.keepIn K (.ref f)=true):HereM K C m b g:=⟨f,_,ZkV l c k,a,i,k⟩
structure HereI (K:ZZfg) (C:Addr) (qual:Str) (st:Stmt):Prop where
 ex:∃(f:Addr) (fd:FuncData),Fun K "__init__" qual st f fd/\Mk K C f
theorem HereI.hasI{P:Program}{w:World}{K:ZZfg}{g:ZZmg}{base:Heap}{C:Addr}{a:Str}{d:Stmt}{k:Nat}{ps:List Str}{sp:Sp}(h:HereI K C a d)
    (b:∀f c,Fun K "__init__" a d f c->Binds K c ps []) (i:∀f c,Fun K "__init__" a d f c->FnOk P w K g base CX0 k f c ps sp):HasI P w K g base C k ps sp :=
  let ⟨f,c,F,M⟩:=h.ex
  ⟨f,c,M,i f c F,b f c F⟩
theorem hereI_mk{K:ZZfg}{C:Addr}{b:Str}{g:Stmt}{f:Addr}{s:Value}{v u:Option Addr}{j:Array (Option Value)}{kV h n d q:Value}(r:PySem.W.makesIn K C=true)(a:PySem.W.findIn K (.ref C) "__init__" = some (some<|.ref f)) (i:PySem.W.isFn K (.ref f)=true)
    (kc:PySem.W.keepIn K (.ref C)=true) (l:K.lookup f=some ⟨s,v,.func<|PySem.W.fnOf "__init__" b (Zbw g) (Za4 g) (Zab g) .none kV h n u d q,j⟩)
    (c:PySem.W.codeIn K d b=true) (k:PySem.W.keepIn K (.ref f)=true):HereI K C b g:=⟨f,_,ZkV l c k,r,a,i,kc⟩
structure Mk0 (K:ZZfg) (C:Addr):Prop where
 makes:PySem.W.makesIn K C=true
 init:PySem.W.findIn K (.ref C) "__init__"=some (some (.builtin "object.__init__"))
 kp:PySem.W.keepIn K (.ref C)=true
def ZoL(C:Addr):TE:=λ_ H Q=>∀x a,H x=none->H a=none->a≠x->Q (.ref x) (upd (upd H a<|.own x) x<|.ins C a [])
theorem ZjT{C:Addr}{c:List (Addr×Obj)}{j:St}{H:Hp}{s:Shared}{Q:VK}(M:Mk0 X.K C)(I:Inv X c j H s)
    (h:∀x i,H x=none->H i=none->i≠x->Q (.ref x) (upd (upd H i<|.own x) x<|.ins C i [])):wpAny (model X.prog X.w) X.A (call (.ref C) []) (EP X c j Q) X.xe s:=by
  have q:=h (s.heap.objs.size+1) s.heap.objs.size (I.hok.fresh<|U9 _) (I.hok.fresh<|Q2 _)<|Q8<|Wp _;have r:=Inv.made (C:=C) I;refine wpAny_call<|ZkH I.kIn M.makes M.init (λf=>PySem.W.Looks.of_pure<|PySem.W.oi_bind f) ?_;have Y:=PySem.W.makes_of (M:=model X.prog X.w) I.kIn M.makes;obtain ⟨a,g,d,t,u⟩:=s;have n:PySem.W.Looks (model X.prog X.w) ((a.push PySem.W.emptyDict).push<|PySem.W.instObj C a.objs.size) (typeOf<|.ref<|a.objs.size+1) (.ref C) :=
    (PySem.W.Looks.ld (o:=PySem.W.instObj C a.objs.size) (by have:=Heap.get?_push_size (a.push PySem.W.emptyDict) (o:=PySem.W.instObj C a.objs.size) rfl; rwa [Heap.size_push] at this)).andThen .now
  have l:PySem.W.Looks (model X.prog X.w) ((a.push PySem.W.emptyDict).push<|PySem.W.instObj C a.objs.size) (isInstance (.ref<|a.objs.size+1)<|.type "object") true:=n.andThen<|Y.top.keeps λb o e=>Heap.get?_push_of_some _<|Heap.get?_push_of_some _ e;refine codeAny_call_builtin PySem.W.oi_plain PySem.W.entry_oi<|@PySem.W.check_slot (model X.prog X.w) _ _ _ "object.__init__" "object" "__init__" (.ref<|a.objs.size+1) [] [] _ PySem.W.oi_kind PySem.W.oi_split l (PySem.W.oi_args<|.ref<|a.objs.size+1) ?_;rw[PySem.W.oi_run];refine wpAny_pure<|And.intro rfl ?_;exact ⟨V.ref<|a.objs.size+1,_,r,rfl,q⟩
theorem Zk0{C:Addr}(M:Mk0 X.K C)(c:Gl X x)(d:X.mg x=some (.ref C))(a:(x==("__debug__":Str))=false:=by decide):PE X (.Call (.Name x p) [] [] pos) (ZoL C):=by
 intro b s f H Q I h;refine wpAny_Call_Name_kw<|ZdH I c d ?_ a;exact PySem.W.callWith_K0 I.kIn M.kp<|ZjT M I h
end
end L2
namespace M1
theorem fmod_gcd(a b:Int):Int.gcd b (a.fmod b)=Int.gcd a b:=by
 have h:a.fmod b=a-b*a.fdiv b:=Int.fmod_def a b;rw[h,Int.gcd_comm a b];have:a-b*a.fdiv b=a+b*(-(a.fdiv b)):=by rw[Uo];omega
 rw[this]
 simp
theorem Zqo(i:Int):(if i<0 then -i else i)=(i.natAbs:Int):=by split <;> omega
theorem gcd_zero'(a:Int):(Int.gcd a 0:Int)=(if a<0 then -a else a):=by
 rw[Zqo,Int.gcd_zero_right]
theorem Zfa(a:Int){b:Int}(h:b<0):a.fmod b<=0/\b<a.fmod b:=by
 have e:=Int.neg_fmod_neg a b;have d:=Int.fmod_nonneg_of_pos (-a) (b:=-b) ⋯;have c:=Int.fmod_lt_of_pos (-a) (b:=-b) ⋯;omega
theorem fmod_lt(a:Int){b:Int}(h:b≠0):(a.fmod b).natAbs<b.natAbs:=by
 rcases Int.lt_or_gt_of_ne h with h|h
 ·have c:=Zfa a h;omega
 ·have c:=Int.fmod_nonneg_of_pos a h;have d:=Int.fmod_lt_of_pos a h;omega
theorem Zhm(a:Int){b:Int}(h:b≠0):(0<=b/\0<=a.fmod b)\/(b<=0/\a.fmod b<=0):=by
 rcases Int.lt_or_gt_of_ne h with h|h
 ·exact .inr ⟨⋯,(Zfa a h).1⟩
 ·exact .inl ⟨⋯,Int.fmod_nonneg_of_pos a h⟩
structure Sh (x y a u1 v1 b u2 v2:Int):Prop where
 ea:a=u1*x+v1*y
 eb:b=u2*x+v2*y
 g:Int.gcd a b=Int.gcd x y
 st:(a=x/\u1=1/\v1=0/\b=y/\u2=0/\v2=1) ∨
  (a≠0/\((0<=a/\0<=b)\/(a<=0/\b<=0))/\a.natAbs<=y.natAbs/\b.natAbs<=y.natAbs/\u1.natAbs<=y.natAbs/\v1.natAbs<=x.natAbs+2*y.natAbs ∧
   u2.natAbs*a.natAbs+u1.natAbs*b.natAbs<=y.natAbs/\v2.natAbs*a.natAbs+v1.natAbs*b.natAbs<=x.natAbs+2*y.natAbs)
theorem Sh.start(x y:Int):Sh x y x 1 0 y 0 1:=⟨⋯,⋯,rfl,.inl ⟨rfl,rfl,rfl,rfl,rfl,rfl⟩⟩
theorem Zdv{a b c:Nat}(h:a*b<=c)(d:b≠0):a<=c:=Q1 (Nat.le_mul_of_pos_right a<|Ub d) h
theorem Zr2{X Y:Nat}:X<=X+2*Y+1:=⋯
theorem Zk1{X Y:Nat}:Y<=X+2*Y+1:=⋯
theorem Zqp{X Y:Nat}:1<=X+2*Y+1:=⋯
theorem Zr3{X Y:Nat}(h:1<=Y):1<=X+2*Y:=⋯
theorem Sh.bound{x y a u1 f b e d:Int}(h:Sh x y a u1 f b e d) :
    a.natAbs<=x.natAbs+2*y.natAbs+1/\u1.natAbs<=x.natAbs+2*y.natAbs+1/\f.natAbs<=x.natAbs+2*y.natAbs+1 ∧
    b.natAbs<=x.natAbs+2*y.natAbs+1/\e.natAbs<=x.natAbs+2*y.natAbs+1/\d.natAbs<=x.natAbs+2*y.natAbs+1:=by
  rcases h.st with ⟨rfl,rfl,rfl,rfl,rfl,rfl⟩ | ⟨ha,_,h1,h2,h3,h4,h5,h6⟩
  · exact ⟨Zr2,Zqp,Q6 _,Zk1,Q6 _,Zqp⟩
  · have c:a.natAbs≠0:=Int.natAbs_ne_zero.mpr ha
    have i:e.natAbs<=y.natAbs:=Zdv (b:=a.natAbs) (Q1 (Nat.le_add_right _ _) h5) c;have g:d.natAbs<=x.natAbs+2*y.natAbs:=Zdv (b:=a.natAbs) (Q1 (Nat.le_add_right _ _) h6) c;exact ⟨Q1 h1 Zk1,Q1 h3 Zk1,Uc h4,Q1 h2 Zk1,Q1 i Zk1,Uc g⟩
theorem rest_eq(a b:Int):a-a.fdiv b*b=a.fmod b:=by rw[Int.fmod_def,W0]
theorem fdiv_small(a:Int){b:Int}(d:b≠0):(a.fdiv b).natAbs<=a.natAbs+1:=by
 have e:=Int.mul_fdiv_add_fmod a b;have l:=fmod_lt a d;have k:(b*a.fdiv b).natAbs=b.natAbs*(a.fdiv b).natAbs:=Qs ..;have z:b*a.fdiv b=a-a.fmod b:=⋯;have g:b.natAbs*(a.fdiv b).natAbs<=a.natAbs+(b.natAbs-1):=by
  rw[<-k,z];have:=Int.natAbs_sub_le a<|a.fmod b;omega
 generalize (a.fdiv b).natAbs=q at *;generalize b.natAbs=c at *;have f:1<=c:=⋯;rcases Nat.lt_or_ge (a.natAbs+1) q with h|h
 ·have:c*(a.natAbs+2)<=c*q:=Nat.mul_le_mul_left c h;have j:c*(a.natAbs+2)=c*a.natAbs+c*2:=Ud ..;have i:a.natAbs<=c*a.natAbs:=Ue _ f;omega
 ·exact h
theorem ZoM{a b:Int}(h:(0<=a/\0<=b)\/(a<=0/\b<=0)):0<=a.fdiv b:=by
 rcases h with ⟨h1,h2⟩|⟨h1,h2⟩
 ·exact Int.fdiv_nonneg h1 h2
 ·rw[<-Int.neg_fdiv_neg];exact Int.fdiv_nonneg ⋯ ⋯
theorem Zk2{a b:Int}(c:b≠0)(h:(0<=a/\0<=b)\/(a<=0/\b<=0)):(a.fdiv b).natAbs*b.natAbs+(a.fmod b).natAbs=a.natAbs:=by
 have e:=Int.mul_fdiv_add_fmod a b;have q:=ZoM h;have s:=Zhm a c;rw[<-Qs,W0];have d:(0<=b/\0<=b*a.fdiv b)\/(b<=0/\b*a.fdiv b<=0):=by
  rcases h with ⟨h1,h2⟩|⟨h1,h2⟩
  ·exact .inl ⟨h2,Int.mul_nonneg h2 q⟩
  ·refine .inr ⟨h2,?_⟩;have:=Int.mul_nonneg (show 0 <= -b by omega) q;rw[Int.neg_mul] at this;omega
 rcases d with ⟨b1,p1⟩|⟨b1,p1⟩
 ·rcases s with ⟨_,s1⟩|⟨b2,_⟩
  ·rw[<-Int.natAbs_add_of_nonneg p1 s1,e]
  ·exact absurd (Int.le_antisymm b2 b1) c
 ·rcases s with ⟨b2,_⟩|⟨_,s1⟩
  ·exact absurd (Int.le_antisymm b1 b2) c
  ·rw[<-Int.natAbs_add_of_nonpos p1 s1,e]
theorem ZfX(u q v:Int):(u-q*v).natAbs<=u.natAbs+q.natAbs*v.natAbs:=by
 have:=Int.natAbs_sub_le u<|q*v;rw[Qs] at this;exact this
theorem Zi7{u1 c q a b r u C:Nat}(d:u<=u1+q*c)(e:q*b+r=a)(h:c*a+u1*b<=C):u*b+c*r<=C:=by
 have i:u*b<=(u1+q*c)*b:=Ql b d;have f:(u1+q*c)*b=u1*b+c*(q*b):=by
  rw[Nat.add_mul,Nat.mul_comm q c,Nat.mul_assoc]
 have g:c*a=c*(q*b)+c*r:=by rw[<-e,Ud]
 omega
theorem ZmF{x y a b q u1 c e d:Int}(f:a=u1*x+c*y)(eb:b=e*x+d*y):a-q*b=(u1-q*e)*x+(c-q*d)*y:=by
 rw[f,eb,Int.sub_mul,Int.sub_mul,Int.mul_add,Qt,Qt];omega
theorem Zqq{M A R B:Nat}(h:M<=A+R)(l:R<B):M+R<=A+2*B:=⋯
theorem Sh.turn{x y a u1 l b g f:Int}(h:Sh x y a u1 l b g f)(c:b≠0) :
    Sh x y b g f (a-a.fdiv b*b) (u1-a.fdiv b*g) (l-a.fdiv b*f):=by
  have j:=rest_eq a b;refine ⟨h.eb,ZmF h.ea h.eb,?_,.inr ?_⟩
  · rw[j,fmod_gcd]; exact h.g
  · have i:=fmod_lt a c
    have o:=Zhm a c;rw[j];refine ⟨c,o,?_⟩;rcases h.st with ⟨rfl,rfl,rfl,rfl,rfl,rfl⟩ | ⟨ha,hs,h1,h2,h3,h4,h5,h6⟩
    · have p:(1:Int)-a.fdiv b*0=1:=⋯
      have q:(0:Int)-a.fdiv b*1 = -(a.fdiv b):=⋯;rw[p,q,Int.natAbs_neg];refine ⟨Q2 _,Qx i,Q6 _,Zr3<|Ub<|Int.natAbs_ne_zero.mpr c,?_,?_⟩
      · show 1*b.natAbs+0*(a.fmod b).natAbs<=b.natAbs
        rw[Nat.one_mul,Nat.zero_mul];exact Q2 _
      · show (a.fdiv b).natAbs*b.natAbs+1*(a.fmod b).natAbs<=a.natAbs+2*b.natAbs
        have e:=Int.mul_fdiv_add_fmod a b;have k:(b*a.fdiv b).natAbs=b.natAbs*(a.fdiv b).natAbs:=Qs ..;have z:b*a.fdiv b=a-a.fmod b:=⋯;rw[Nat.mul_comm,<-k,z,Nat.one_mul];exact Zqq (Int.natAbs_sub_le a<|a.fmod b) i
    · have m:=Zk2 c hs
      have d:a.natAbs≠0:=Int.natAbs_ne_zero.mpr ha;have r:g.natAbs<=y.natAbs:=Zdv (b:=a.natAbs) (Q1 (Nat.le_add_right _ _) h5) d;have n:f.natAbs<=x.natAbs+2*y.natAbs:=Zdv (b:=a.natAbs) (Q1 (Nat.le_add_right _ _) h6) d;exact ⟨h2,Q1 (Qx i) h2,r,n,Zi7 (ZfX ..) m h5,Zi7 (ZfX ..) m h6⟩
theorem Sh.done{x y a u1 b d c:Int}(h:Sh x y a u1 b 0 d c):(a.natAbs:Int)=Int.gcd x y/\a=x*u1+y*b:=by
 have g:=h.g;rw[Int.gcd_zero_right] at g;refine ⟨by rw[g],?_⟩;rw[W0 x,W0 y];exact h.ea
end M1
namespace M2
def Prm(n:Int):Prop:=2<=n/\∀d:Int,2<=d->d*d<=n->¬d ∣ n
theorem sq_mono{a b:Int}(c:0<=a)(h:a<=b):a*a<=b*b:=Int.mul_le_mul h h c ⋯
theorem ZoN:Prm 2:=⟨⋯,λd b c=>by have:=sq_mono (a:=2) ⋯ b;omega⟩
theorem ZmG{n:Int}(h:2<=n)(a:n≠2)(e:n%2=0):¬Prm n:=λp=>p.2 2 ⋯ ⋯<|Int.dvd_of_emod_eq_zero e
theorem prm_even{n:Int}(h:2<=n)(e:n%2=0):Prm n↔n=2:=by
 constructor
 ·intro p;refine Decidable.byContradiction λz=>ZmG h z e p
 ·rintro rfl;exact ZoN
def No(n t:Int):Prop:=∀d:Int,2<=d->d<t->¬d ∣ n
theorem No.odd{n:Int}(e:¬n%2=0):No n 3:=λd c b a=>by
 have:d=2:=⋯;subst this;exact e<|U2 a
theorem No.two{n:Int}:No n 2:=λd a b=>⋯
theorem No.one{n t:Int}(h:No n t)(a:¬t ∣ n):No n (t+1):=λd b c=>by
 rcases (by omega:d<t\/d=t) with z|z
 ·exact h d b z
 ·rw[z];exact a
theorem No.next{n t:Int}(h:No n t)(e:¬n%2=0)(i:t%2=1)(c:¬t ∣ n):No n (t+2):=λd f g a=>by
 rcases (by omega:d<t\/d=t\/d=t+1) with z|z|z
 ·exact h d f z a
 ·rw[z] at a;exact c a
 ·have b:(2:Int) ∣ d:=Int.dvd_of_emod_eq_zero ⋯;exact e<|U2<|Int.dvd_trans b a
theorem No.done{n t:Int}(h:No n t)(a:2<=n)(e:0<=t)(b:¬t*t<=n):Prm n:=⟨a,λd f c=>h d f (by
 refine Uq λz=>b ?_;exact Int.le_trans (sq_mono e z) c)⟩
theorem found{n t:Int}(a:2<=t)(c:t*t<=n)(b:t ∣ n):¬Prm n:=λp=>p.2 t a c b
theorem le_of_sq{n t:Int}(a:2<=t)(b:t*t<=n):t+t<=n:=by
 have:t*2<=t*t:=Int.mul_le_mul_of_nonneg_left a ⋯;omega
theorem fmod_dvd{n t:Int}(a:0<t):n.fmod t=0↔t ∣ n:=by
 rw[W8 n ⋯];exact ⟨Int.dvd_of_emod_eq_zero,U2⟩
theorem Zk3:∀d:Nat,d<1000->2<=d->999983%d≠0:=by decide +kernel
theorem prm_big:Prm 999983:=by
 refine ⟨⋯,λd i h f=>?_⟩;have g:d<1000:=by
  refine Uq λz=>?_;have:=sq_mono (a:=1000) ⋯ z;omega
 have e:=U2 f;refine Zk3 d.toNat ⋯ ⋯ ?_;have c:d=(d.toNat:Int):=⋯;rw[c] at e;have b:((999983%d.toNat:Nat):Int)=0:=by rw[Wj];exact e
 exact Int.natCast_eq_zero.mp b
theorem ZoO{p d:Int}(h:Prm p)(g:1<d)(c:d ∣ p):d=p:=by
 obtain ⟨k,a⟩:=c;have e:=h.1;refine Decidable.byContradiction λz=>?_;have b:0<k:=by
  refine Uq λq=>?_;have:=Int.mul_nonneg (show 0<=d by omega) (show 0 <= -k by omega);rw[Uo] at this;omega
 have f:k≠1:=λq=>z (by rw[a,q,Wo]);rcases (by omega:d<=k\/k<=d) with q|q
 ·exact h.2 d ⋯ (by rw[a];exact Int.mul_le_mul_of_nonneg_left q ⋯) ⟨k,a⟩
 ·exact h.2 k ⋯ (by rw[a];exact Int.mul_le_mul_of_nonneg_right q ⋯) ⟨d,by rw[a,W0]⟩
theorem prm_gcd{p b:Int}(h:Prm p)(f:¬p ∣ b):Int.gcd b p=1:=by
 have a:=W1 b p;have c:=Wk b p;have g:=h.1;have d:Int.gcd b p≠0:=λz=>by
  rw[z] at a;have:=Int.zero_dvd.mp a;omega
 refine Decidable.byContradiction λz=>f ?_;have e:=ZoO h (show (1:Int)<(Int.gcd b p:Int) by omega) a;rw[e] at c;exact c
end M2
namespace M3
theorem Zco{a b c:Int}(e:Int.gcd a c=1)(d:Int.gcd b c=1):Int.gcd (a*b) c=1:=by
 rw[Int.gcd_eq_natAbs_gcd_natAbs] at *;rw[Qs];exact Nat.Coprime.mul_left e d
theorem Zdw{a b:Int}(h:Int.gcd a b=1):Int.gcd b a=1:=by rw[Int.gcd_comm];exact h
theorem Zb1{a b c:Int}(e:Int.gcd c a=1)(d:Int.gcd c b=1):Int.gcd c (a*b)=1:=Zdw<|Zco (Zdw e)<|Zdw d
theorem ZmH{a b c:Int}(h:Int.gcd (a*b) c=1):Int.gcd a c=1:=by
 rw[Int.gcd_eq_natAbs_gcd_natAbs] at *;rw[Qs] at h;exact Nat.Coprime.coprime_dvd_left ⟨b.natAbs,rfl⟩ h
theorem Zdd{a b c:Int}(h:Int.gcd (a*b) c=1):Int.gcd b c=1:=ZmH (b:=a) (by rw[W0];exact h)
theorem Zdx{a b c:Int}(h:Int.gcd c (a*b)=1):Int.gcd c b=1:=Zdw<|Zdd<|Zdw h
theorem Zhn{a b:Int}(g:Int.gcd a b≠0):∃x y:Int,a=(Int.gcd a b:Int)*x/\b=(Int.gcd a b:Int)*y/\Int.gcd x y=1:=by
 obtain ⟨x,d⟩:=Wk a b;obtain ⟨y,c⟩:=W1 a b;refine ⟨x,y,d,c,?_⟩;have e:Int.gcd ((Int.gcd a b:Int)*x) ((Int.gcd a b:Int)*y)=Int.gcd a b*Int.gcd x y:=by
  rw[Int.gcd_mul_left]
  simp
 rw[<-d,<-c] at e;have f:Int.gcd a b*Int.gcd x y=Int.gcd a b*1:=⋯;exact Nat.eq_of_mul_eq_mul_left (Ub g) f
theorem gcd_ne{a b:Int}(h:b≠0):Int.gcd a b≠0:=λz=>h (Int.gcd_eq_zero_iff.mp z).2
theorem Zby{g x:Int}(a:g≠0):(g*x).fdiv g=x:=Int.mul_fdiv_cancel_left x a
theorem Zfb{g x:Int}(a:0<g)(h:0<g*x):0<x:=by
 refine Uq λz=>?_;have:=Int.mul_nonneg (Int.le_of_lt a) (show 0 <= -x by omega);rw[Uo] at this;omega
theorem low{t b:Int}(i:0<b):Int.gcd (t.fdiv<|Int.gcd t b) (b.fdiv<|Int.gcd t b)=1/\0<b.fdiv (Int.gcd t b)/\t.fdiv (Int.gcd t b)*b=t*b.fdiv (Int.gcd t b) ∧
    (t.fdiv<|Int.gcd t b).natAbs<=t.natAbs/\(b.fdiv<|Int.gcd t b).natAbs<=b.natAbs:=by
  have f:=gcd_ne (a:=t) (b:=b) ⋯;obtain ⟨x,y,j,h,c⟩:=Zhn f;generalize Int.gcd t b=g at *;have d:(g:Int)≠0:=⋯;subst j h;rw[Zby d,Zby d];have e:=Zfb (show (0:Int)<g by omega) i;refine ⟨c,e,by ac_rfl,?_,?_⟩
  · rw[Qs]; exact Ue _ ⋯
  · rw[Qs]; exact Ue _ ⋯
theorem ZjU(g x:Int)(a:g≠0):x.natAbs<=(g*x).natAbs:=by
 rw[Qs];exact Ue _ ⋯
theorem plus_ok{m d o c:Int}(J:0<d)(B:0<c)(c1:Int.gcd m d=1)(c2:Int.gcd o c=1){top:Int}
    (n:top=m*c.fdiv (Int.gcd d c)+o*d.fdiv (Int.gcd d c)) :
    Int.gcd top (Int.gcd d c)≠0/\0<d.fdiv (Int.gcd d c)*c.fdiv (Int.gcd top<|Int.gcd d c) ∧
    Int.gcd (top.fdiv<|Int.gcd top<|Int.gcd d c) (d.fdiv (Int.gcd d c)*c.fdiv (Int.gcd top<|Int.gcd d c))=1 ∧
    top.fdiv (Int.gcd top<|Int.gcd d c)*(d*c)=(m*c+o*d)*(d.fdiv (Int.gcd d c)*c.fdiv (Int.gcd top<|Int.gcd d c)):=by
  have F:=gcd_ne (a:=d) (b:=c) ⋯;obtain ⟨p,q,i,k,j⟩:=Zhn F;generalize hG:Int.gcd d c=g at *;have e:(g:Int)≠0:=⋯;have x:d.fdiv g=p:=by rw[i]; exact Zby e
  have H:c.fdiv g=q:=by rw[k]; exact Zby e
  rw[x,H] at n;rw[x];have u:=gcd_ne (a:=top) (b:=(g:Int)) e;obtain ⟨t,r,f,z,s⟩:=Zhn u;generalize hL:Int.gcd top g=l at *;have h:(l:Int)≠0:=⋯;have C:top.fdiv l=t:=by rw[f]; exact Zby h
  have y:c=l*(r*q):=by rw[k,z]; ac_rfl
  have E:c.fdiv l=r*q:=by rw[y]; exact Zby h
  rw[C,E];have D:0<p:=Zfb (show (0:Int)<g by omega) (by rw[<-i]; exact J);have G:0<r*q:=Zfb (show (0:Int)<l by omega) (by rw[<-y]; exact B);have v:Int.gcd top p=1:=by
    rw[n,Int.gcd_add_mul_right_left];exact Zco (Zdx (a:=g) (by rw[<-i]; exact c1))<|Zdw j
  have w:Int.gcd top q=1:=by
    rw[n,Int.add_comm,Int.gcd_add_mul_right_left];exact Zco (Zdx (a:=g) (by rw[<-k]; exact c2)) j
  rw[f] at v w;refine ⟨u,W2 D G,Zb1 (Zdd v)<|Zb1 s<|Zdd w,?_⟩;have I:m*c+o*d=g*(l*t):=by
    rw[<-f,n,Int.mul_add,i,k]
    congr 1 <;> ac_rfl
  rw[I,i,k];have A:(g:Int)*(l*t)*(p*(r*q))=g*t*p*q*(l*r):=by ac_rfl
  rw[A,<-z]
  ac_rfl
theorem times_ok{e c g d:Int}(C:0<c)(u:0<d)(c1:Int.gcd e c=1)(c2:Int.gcd g d=1) :
    0<c.fdiv (Int.gcd g c)*d.fdiv (Int.gcd e d) ∧
    Int.gcd (e.fdiv (Int.gcd e d)*g.fdiv (Int.gcd g c)) (c.fdiv (Int.gcd g c)*d.fdiv (Int.gcd e d))=1 ∧
    e.fdiv (Int.gcd e d)*g.fdiv (Int.gcd g c)*(c*d)=e*g*(c.fdiv (Int.gcd g c)*d.fdiv (Int.gcd e d)):=by
  have B:=gcd_ne (a:=e) (b:=d) ⋯;have D:=gcd_ne (a:=g) (b:=c) ⋯;obtain ⟨x,y,n,j,l⟩:=Zhn B;obtain ⟨z,w,o,k,m⟩:=Zhn D;generalize Int.gcd e d=f at *;generalize Int.gcd g c=r at *;have i:(f:Int)≠0:=⋯;have h:(r:Int)≠0:=⋯;have q:e.fdiv f=x:=by rw[n]; exact Zby i
  have A:d.fdiv f=y:=by rw[j]; exact Zby i
  have v:g.fdiv r=z:=by rw[o]; exact Zby h
  have t:c.fdiv r=w:=by rw[k]; exact Zby h
  rw[q,A,v,t];have p:=Zfb (show (0:Int)<f by omega) (by rw[<-j]; exact u);have s:=Zfb (show (0:Int)<r by omega) (by rw[<-k]; exact C);rw[n,k] at c1;rw[o,j] at c2;refine ⟨W2 s p,Zco (Zb1 (Zdx<|Zdd c1) l)<|Zb1 m<|Zdx<|Zdd c2,?_⟩;rw[n,j,o,k]
  ac_rfl
theorem fdiv_le{a:Int}{g:Int}(h:g ∣ a)(b:g≠0):(a.fdiv g).natAbs<=a.natAbs:=by
 obtain ⟨x,rfl⟩:=h;rw[Zby b];exact ZjU g x b
end M3
namespace L2
open PySem PySem.Spec PyProof.Rows
structure XCls (K:ZZfg) (C:Addr):Prop where
 ga:PySem.W.findIn K (.ref C) "__getattribute__"=some (some (.builtin "BaseException.__getattribute__"))
 ha:PySem.W.findIn K (.ref C) "__getattr__"=some none
 cl:PySem.W.findIn K (.ref C) "__class__"=some (some (.builtin "object.__class__"))
 hn:PySem.W.specialIn K (.builtin "object.__class__") "__get__"=some (some (.builtin "getset_descriptor.__get__"))
 tk:PySem.W.takesIn K (.builtin "object.__class__")=some true
 ob:PySem.W.mroIn K C (.type "object")=some true
 be:PySem.W.mroIn K C (.type "BaseException")=some true
 hd:PySem.W.hasDictIn K C=true
section
variable{prog:Program}{w:World}{A:Around}{E:Value->Shared->Prop}{s:Shared}{K:ZZfg}{x C:Addr}{ox:Obj}{od:Option Obj}
theorem Zh2{K:ZZfg}{C:Addr}{od:Option Obj}{name:Str}{a g:Value}(b:(PySem.W.clsIn K C).isSome=true)(d:PySem.W.findIn K (.ref C) name=some (some a))(c:PySem.W.specialIn K a "__get__" = some (some g)) (e:PySem.W.takesIn K a=some true) :
    PySem.W.findObj K C od name=some (.bind g a):=by
  obtain ⟨f,b⟩:=Uk.mp b;unfold PySem.W.findObj;rw[b,Option.bind_some,d,Option.bind_some]
  simp[c,e]
theorem Zk4(c:XCls K C){b:Tok}{R:Result->Shared->Prop}(X:K.In s.heap)(I:PySem.W.InstAt s.heap x ox C od)(h:R (.ok<|.ret<|.ref C) s) :
    codeAny (model prog w) A (.call (.builtin "BaseException.__getattribute__") ⟨[.ref x,.str "__class__" b],[]⟩) R s:=by
  have m:PySem.W.findObj K C od "__class__" = some (.bind (.builtin "getset_descriptor.__get__")<|.builtin "object.__class__"):=Zh2 (by obtain ⟨p,n,_⟩:=PySem.W.any_some c.hd; rw[n]; rfl) c.cl c.hn c.tk;obtain ⟨f,l,d,t,o⟩:=s;have e:=I.type (M:=model prog w);have k:=PySem.W.looks_find (M:=model prog w) X I m;have j:PySem.W.Looks (model prog w) f (isInstance (.ref x)<|.type "BaseException") true:=e.andThen<|PySem.W.looks_mroIn X c.be;have q:=PySem.W.looks_mroIn (M:=model prog w) X c.be;refine codeAny_call_builtin F.excAttr_ValueError.ga.plain F.entry_bexc_ga ?_;have i:builtinKind "BaseException.__getattribute__" = some .slot:=by decide +kernel
  have a:splitId "BaseException.__getattribute__" = some ("BaseException", "__getattribute__"):=by decide +kernel
  have g:=F.args_bexc_ga (.ref x)<|.str "__class__" b
  simp only[checkBuiltinCall,i,a]
  refine wpAny_bind<|j.at ?_
  simp only[Bool.not_true,Bool.false_eq_true,if_false]
  refine wpAny_of_eq g ?_;refine wpAny_bind<|wpAny_pure<|wpAny_bind<|wpAny_pure<|wpAny_bind<|e.at<|wpAny_bind<|k.at ?_;show wpAny _ _ (holding [Value.builtin "object.__class__"] (call (.builtin "getset_descriptor.__get__") [.builtin "object.__class__", .ref x,.ref C]) >>= ret) _ _ _;exact wpAny_bind<|wpAny_holding<|wpAny_call<|PySem.W.class_get (s:=⟨f,l,d,t,o⟩) X I c.ob<|wpAny_pure h
theorem Zk5(c:XCls K C){Q:Option Value->Shared->Prop}(X:K.In s.heap)(I:PySem.W.InstAt s.heap x ox C od)(h:Q (some<|.ref C) { s with toks:=s.toks+1 }):wpAny (model prog w) A (getAttr? (.ref x) "__class__") Q E s:=by
 have f:=I.type (M:=model prog w);have a:=PySem.W.looks_findIn (M:=model prog w) X c.ga;have e:=PySem.W.looks_findIn (M:=model prog w) X c.ha;obtain ⟨b,g,d,t,i⟩:=s;unfold getAttr? getAttrBy? getAttrBy;refine wpAny_bind<|wpAny_mkText<|wpAny_bind<|wpAny_attempt<|wpAny_holding<|wpAny_bind<|f.at<|wpAny_bind<|a.at ?_;show wpAny _ _ (getAttrByItsOwn _ _ _ _ _ _) _ _ _;unfold getAttrByItsOwn;refine wpAny_bind<|e.at ?_;refine wpAny_bind<|wpAny_attempt<|wpAny_holding ?_;show wpAny _ _ (boundAndCalled _ _ _) _ _ _;unfold boundAndCalled;refine wpAny_bind<|wpAny_of_eq (F.excAttr_ValueError.ga.bind<|.ref x) ?_;refine wpAny_call<|Zk4 (s:=⟨b,g,d,t+1,i⟩) c X I ?_;exact PySem.W.handed_on rfl<|wpAny_pure h
theorem ZmI(c:XCls K C):PySem.W.KitX K (.ref x) (.ref C) (λh=>∃ox od,PySem.W.InstAt h x ox C od) where
 ty:=λ_ _ _ ⟨_,_,I⟩=>I.type
 it:=λ_ _ X _=>by
  obtain ⟨i,a,_⟩:=PySem.W.any_some c.hd;unfold PySem.W.clsIn at a
  split at a
  ·rename_i o l g d b
   intro y t u r k q;unfold isType loadHead;exact wpAny_bind<|wpAny_loadPart (k _ _<|X _ _ b)<|wpAny_pure q
  ·cases a
 ne:=λh m p j n v X f=>by
  obtain ⟨i,a,_⟩:=PySem.W.any_some c.hd;refine Bool.eq_false_iff.mpr λq=>?_;have e:C=m:=Value.ref.inj<|beq_iff_eq.mp q;subst e;unfold PySem.W.clsIn at a
  split at a
  ·rename_i o l g d b
   exact nomatch (X _ _ b).symm.trans f
  ·cases a
 ca:=λX ⟨_,_,I⟩ k=>Zk5 c X I k
end
def Tr(h B:Heap)(e:Addr)(b i:Value)(dd:Option Addr)(g:Value):Prop :=
 ∃a c T f d,h.get? e=some a/\a.cls=b/\a.dict=dd/\a.data = .fields c/\c[0]?=some i/\c[1]?=some (.ref T)/\B.get? T=none/\T≠e/\h.get? T=some f/\f.data = .fields d/\d[3]?=some g
theorem ZfM(o:Obj)(f):(o.mapFields f).dict=o.dict:=by
 obtain ⟨c,d,a,b⟩:=o
 cases a <;> rfl
theorem ZcK{h:Heap}{a:Addr}{o:Obj}{vs:Array Value}(f:Array Value->Array Value)(c:h.get? a=some o)(d:o.data = .fields vs):h.UpToSlots (h.update a<|Obj.mapFields f):=λb u e n =>
 ⟨u.slots,by
  rw[Heap.get?_update_other _ _ λz=>by subst z;rw[c] at e;cases e;exact n vs d];exact e⟩
theorem Zd3{h h' B:Heap}{l:List Env}(u:h.UpToSlots h')(f:h.FunFrames B l):h'.FunFrames B l:=f.of_keeps λb o e n=>let ⟨sl,q⟩:=u b o e n;⟨_,q,rfl⟩
section
variable{M:Model}{A:Around}{E:Value->Shared->Prop}{s:Shared}{B:Heap}{env:Env}{outer:List Env}{L e:Addr}{oe:Obj}{vs:Array Value}{cls a0:Value}{dd:Option Addr}{Q:Unit->Shared->Prop}
theorem Zho{g:Value}{F:Bool}(w:A.frames=some (env::outer))(m:s.heap.FunFrames B (env::outer))(H:env.frame=some L)(y:s.heap.get? e=some oe)(I:B.StaysIn s.heap)(G:B.get? e=none)(f:oe.data = .fields vs)
    (J:vs[0]?=some a0) (C:1<vs.size) (k:∀h',B.StaysIn h'->h'.FunFrames B (env::outer)->Tr h' B e oe.cls a0 oe.dict (rawInt L)->s.heap.UpToSlots h'->Q () { s with heap:=h' }) :
    wpAny M A (do let a ← frameOf env; let pl ← entryPlaceOf L F; let b ← EntryCells.newEntry g a .none (rawInt L) .none pl; setField (.ref e) 1 b) Q E s:=by
  have i:e∉(env::outer).filterMap (·.frame):=λu=>by
    obtain ⟨_,o,x,n⟩:=m.mem u;rw[y] at x; cases x; exact n vs f
  refine wpAny_bind<|wpAny_frameOf_fun w m H λd v=>wpAny_bind<|wpAny_entryPlaceOf λpl r=>?_;have u1:s.heap.UpToSlots d:=λb o q _=>v.2.2 b o q;have l:B.StaysIn d:=λb o q=>(v.2.1 b λu=>by rw[(m.mem u).1] at q; cases q).trans<|I b o q;have j:d.get? e=some oe:=(v.2.1 e i).trans y;unfold EntryCells.newEntry newFields;refine wpAny_bind<|wpAny_newObj_type ?_<|r.sizeOk5 _ _ _ _ _;generalize ht:([g,Value.ref L,.none,rawInt L,.none]++(if pl.isEmpty then List.replicate 6 Value.none else pl)).toArray=p;have t:p[3]?=some (rawInt L):=by rw[<-ht]; simp
  have c:=Heap.get?_push_of_some (h:=d) { cls:=.type "traceback", dict:=none,data:=.fields p } j;refine wpAny_setField c f C<|k _ ?_ ?_ ?_ ?_
  · intro b o q
    rw[Heap.get?_update_other _ _ λz=>by subst z; rw[G] at q; cases q];exact Heap.get?_push_of_some _<|l b o q
  · exact Zd3 ((u1.trans<|.of_keeps λb o q=>Heap.get?_push_of_some _ q).trans<|ZcK _ c f) m
  · have D:d.objs.size≠e:=Wi<|Heap.lt_size j
    refine ⟨_,_,d.objs.size,{ cls:=.type "traceback", dict:=none,data:=.fields p },p,Heap.get?_update_self _ c<|Obj.isFreed_of_fields<|Obj.data_mapFields f _,Obj.cls_mapFields _ _,ZfM _ _,Obj.data_mapFields f _,?_,?_,l.fresh,D,?_,rfl,t⟩
    · rw[Array.getElem?_setIfInBounds_ne ∅]; exact J
    · simp[C]
    · rw[Heap.get?_update_other _ _<|Ne.symm D]
      exact Heap.get?_push_size d rfl
  · exact (u1.trans<|.of_keeps λb o q=>Heap.get?_push_of_some _ q).trans (ZcK _ c f)
theorem ZjV(a:A.frames=some (env::outer))(h:s.heap.FunFrames B (env::outer))(b:env.frame=some L)(c:s.heap.get? e=some oe)(i:B.StaysIn s.heap)(g:B.get? e=none)(f:oe.data = .fields vs)
    (j:vs[0]?=some a0) (d:vs[1]?=some .none) (k:∀h',B.StaysIn h'->h'.FunFrames B (env::outer)->Tr h' B e oe.cls a0 oe.dict (rawInt L)->s.heap.UpToSlots h'->Q () { s with heap:=h' }) :
    wpAny M A (noteFrame (.ref e) env) Q E s:=by
  unfold noteFrame
  simp only[b]
  refine wpAny_bind<|wpAny_field c f d ?_;rw[if_neg ∅];exact Zho a h b c i g f j (Array.getElem?_eq_some_iff.mp d).1 k
theorem Zk6(i:A.frames=some (env::outer))(v:s.heap.FunFrames B (env::outer))(m:env.frame=some L)(r:Tr s.heap B e cls a0 dd .none)(x:B.StaysIn s.heap)(t:B.get? e=none)
    (k:∀h',B.StaysIn h'->h'.FunFrames B (env::outer)->Tr h' B e cls a0 dd (rawInt L)->s.heap.UpToSlots h'->Q () { s with heap:=h' }):wpAny M A (noteFrame (.ref e) env) Q E s:=by
  obtain ⟨oe,vs,T,C,D,j,rfl,rfl,p,y,n,w,h,g,f,l⟩:=r;unfold noteFrame
  simp only[m]
  refine wpAny_bind<|wpAny_field j p n ?_;rw[if_pos (show (Value.ref T != Value.none)=true from by simp)];refine wpAny_bind<|wpAny_field g f l ?_;rw[if_neg (show ¬((Value.none==rawInt L)=true) from by simp[rawInt])];have u:=ZcK (·.setIfInBounds 3 Value.none) g f;refine wpAny_bind<|wpAny_setField g f (Array.getElem?_eq_some_iff.mp l).1<|Zho (s:={ s with heap:=s.heap.update T (Obj.mapFields (·.setIfInBounds 3 Value.none)) }) i (Zd3 u v) m (by rw[Heap.get?_update_other _ _ h]; exact j) (λb o q=>?_) t p y (Array.getElem?_eq_some_iff.mp n).1 λh' a b c d=>k h' a b c<|u.trans d;rw[Heap.get?_update_other _ _ λz=>by subst z; rw[w] at q; cases q];exact x b o q
theorem ZmJ{g:Value}{l:List Env}(r:s.heap.FunFrames B l)(p:Tr s.heap B e cls a0 dd g)(w:B.StaysIn s.heap)
    (k:∀h',B.StaysIn h'->h'.FunFrames B l->Tr h' B e cls a0 dd .none->s.heap.UpToSlots h'->Q () { s with heap:=h' }):wpAny M A (setFlight (.ref e) none) Q E s:=by
  obtain ⟨oe,vs,T,y,v,i,rfl,rfl,n,x,j,m,c,h,a,t⟩:=p;have d:3<v.size:=(Array.getElem?_eq_some_iff.mp t).1;have u:=ZcK (·.setIfInBounds 3 ((none:Option Addr).elim Value.none λf=>rawInt f)) h a;unfold setFlight;refine wpAny_bind<|wpAny_field i n j ?_;rw[if_pos (show (Value.ref T != Value.none)=true from by simp)];refine wpAny_setField h a d<|k _ (λb o q=>?_) (Zd3 u r) ⟨oe,vs,T,_,_,?_,rfl,rfl,n,x,j,m,c,Heap.get?_update_self _ h<|Obj.isFreed_of_fields<|Obj.data_mapFields a _,Obj.data_mapFields a _,by simp[d]⟩ u
  · rw[Heap.get?_update_other _ _ λz=>by subst z; rw[m] at q; cases q]
    exact w b o q
  · rw[Heap.get?_update_other _ _ c]; exact i
end
structure Air (P:Program) (w:World) (B:Heap) (l:List Env) (H:Hp) (h:Heap) (e t:Addr) (cls:Value) (dd:Option Addr) (fl:Value):Prop where
 hok:HOk P w H h
 st:B.StaysIn h
 nb:B.get? e=none
 fr:h.FunFrames B l
 tr:Tr h B e cls (.ref t) dd fl
 tk:∀b u,H b=some u->∃o,B.get? b=some o
theorem Air.free{P:Program}{w:World}{B:Heap}{l:List Env}{H:Hp}{h:Heap}{e t:Addr}{b:Value}{dd:Option Addr}{c:Value}(a:Air P w B l H h e t b dd c):H e=none:=by
 cases q:H e with
 |none=>rfl
 |some u=>obtain ⟨o,z⟩:=a.tk e u q;rw[a.nb] at z;cases z
theorem Zk7{P:Program}{w:World}{B:Heap}{H:Hp}{h h':Heap}(x:HOk P w H h)(j:B.StaysIn h)(c:B.StaysIn h')(f:∀b u,H b=some u->∃o,B.get? b=some o):HOk P w H h':=λa o e =>
 (x a o e).stay (λb u hb q=>by
  have:∃v,H b=some v:=by
   rcases hb with rfl|hb
   ·exact ⟨o,e⟩
   ·exact ⟨_,hb⟩
  obtain ⟨v,d⟩:=this;obtain ⟨g,z⟩:=f b v d;have i:=(j b g z).symm.trans q
  cases i
  exact c b _ z) (λ_ q=>q) λ_ _ q=>q
def CXx(P:Program)(w:World):CXT:=λa H s E i d =>
 ∃(e t:Addr) (c:Value) (g:Option Addr) (f:Hp) (B:Heap),i = .ref e/\d.os=s.os/\AllBare d.gens/\Un (frs a) [] H f s.heap d.heap/\Air P w B a f d.heap e t c g .none ∧
  (∀b o,s.heap.get? b=some o->H b=none->b∉frs a->B.get? b=some o)/\(∀b o,s.heap.get? b=some o->b∉frs a->∃h,B.get? b=some h)/\E c g f
section
variable{M:Model}{A:Around}{E:Value->Shared->Prop}{s:Shared}{P:Program}{w:World}{B:Heap}{env:Env}{outer:List Env}{H:Hp}{L e t:Addr}{cls:Value}{dd:Option Addr}{fl:Value}{Q:Unit->Shared->Prop}{B0:Heap}
theorem Air.note(a:Air P w B (env::outer) H s.heap e t cls dd .none)(b:A.frames=some (env::outer))(g:env.frame=some L)(k:∀h',Air P w B (env::outer) H h' e t cls dd (rawInt L)->s.heap.UpToSlots h'->Q () { s with heap:=h' }) :
    wpAny M A (noteFrame (.ref e) env) Q E s :=
  Zk6 b a.fr g a.tr a.st a.nb λh' c f d h=>k h' ⟨Zk7 a.hok a.st c a.tk,c,a.nb,f,d,a.tk⟩ h
theorem Air.off{l:List Env}(a:Air P w B l H s.heap e t cls dd fl)(k:∀h',Air P w B l H h' e t cls dd .none->s.heap.UpToSlots h'->Q () { s with heap:=h' }):wpAny M A (setFlight (.ref e) none) Q E s :=
 ZmJ a.fr a.tr a.st λh' b d c f=>k h' ⟨Zk7 a.hok a.st b a.tk,b,a.nb,d,c,a.tk⟩ f
theorem Air.leave(a:Air P w B (env::outer) H s.heap e t cls dd .none)(c:A.frames=some (env::outer))(h:env.frame=some L)(k:∀h',Air P w B outer H h' e t cls dd .none->s.heap.UpToSlots h'->Q () { s with heap:=h' }) :
    wpAny M A (leaving env<|.ref e) Q E s:=by
  unfold leaving;refine wpAny_bind<|a.note c h λi f u1=>?_;refine Air.off (s:={ s with heap:=i }) f λd b j=>?_;obtain ⟨_,_,g⟩:=b.fr;exact k d ⟨b.hok,b.st,b.nb,g,b.tr,b.tk⟩<|u1.trans j
theorem ZoP{c:Heap}{vs:List Value}(d:HOk P w H c)(i:c.FunFrames B0 (env::outer))(g:Heap.MadeExcOf c s.heap e cls vs)(I:∀b∈frs (env::outer),H b=none)(l:A.frames=some (env::outer))(K:env.frame=some L)
    (k:∀h' t,Air P w (PySem.W.hideAll c<|frs (env::outer)) (env::outer) H h' e t cls none (rawInt L)->c.UpToSlots h'->Q () { s with heap:=h' }):wpAny M A (noteFrame (.ref e) env) Q E s:=by
  obtain ⟨t,G,_,_⟩:=g.there;have st0:(PySem.W.hideAll c<|frs (env::outer)).StaysIn c:=λb o q=>PySem.W.of_hideAll _ q;have T:(PySem.W.hideAll c<|frs (env::outer)).StaysIn s.heap:=λb o q=>g.keeps b o<|st0 b o q;have p:∀b u,H b=some u->∃o,(PySem.W.hideAll c<|frs (env::outer)).get? b=some o:=λb u q=>by
    have Y:=d.lt q;obtain ⟨o,ho⟩:∃o,c.get? b=some o:=by
      have x:=d b u q
      cases u with
      | lst N=>obtain ⟨_,_,_,_,z⟩:=x; exact ⟨_,z⟩
      | tup N=>obtain ⟨_,_,_,o,z,_⟩:=x; exact ⟨_,z⟩
      | dK m=>obtain ⟨_,_,_,_,o,_,_,z,_⟩:=x; exact ⟨_,z⟩
      | dT m=>obtain ⟨_,_,_,_,o,_,_,z,_⟩:=x; exact ⟨_,z⟩
      | set S n=>obtain ⟨o,_,_,_,z,_⟩:=x; exact ⟨_,z⟩
      | ins C Z J=>obtain ⟨_,_,_,z,_⟩:=x; exact ⟨_,z⟩
      | own y=>obtain ⟨_,z⟩:=x; exact ⟨_,z⟩
      | xd J=>obtain ⟨_,⟨_,_,_,z,_⟩,_⟩:=x; exact ⟨_,z⟩
      | rng W hi=>obtain ⟨_,_,_,z⟩:=x; exact ⟨_,z⟩
      | frz X v=>obtain ⟨z,_⟩:=x; exact ⟨_,z⟩
      | tbl ps=>exact Or.elim x (λz=>⟨_,z⟩) λ⟨_,_,_,_,_,_,_,_,_,z,_⟩=>⟨_,z⟩
      | met f y=>exact ⟨_,(show c.get? b=some _ from x)⟩
      | ext φ=>obtain ⟨_,⟨_,z⟩,_⟩:=x; exact ⟨_,z⟩
    exact ⟨o,PySem.W.hideAll_get _ ho λg=>by rw[I b g] at q; cases q⟩
  have r:(PySem.W.hideAll c<|frs (env::outer)).get? e=none:=by
    cases q:(PySem.W.hideAll c<|frs (env::outer)).get? e with
    | none=>rfl
    | some o=>have:=st0 e o q; rw[g.new] at this; cases this
  have j:c.FunFrames (PySem.W.hideAll c<|frs (env::outer)) (env::outer):=PySem.W.funFrames_hide i λx F a D=>Uy.mpr ⟨x,F,D⟩;refine ZjV l (Zd3 (.of_keeps g.keeps) j) K G T r rfl rfl rfl λh' h R O U=>?_;exact k h' t ⟨Zk7 d st0 h p,h,r,R,O,p⟩<|(Heap.UpToSlots.of_keeps g.keeps).trans U
end
theorem Zk8{env:Env}{a:List Env}{L b:Addr}(c:env.frame=some L):b∈frs (env::a)↔b=L\/b∈frs a:=by
 unfold frs;rw[Uw,c,Qe]
section
variable{X:Cx}{pins:List (Addr×Obj)}{σ:St}{H1 H2:Hp}{s1:Shared}{B h2 h3:Heap}
theorem Zh3(U:Un (frs X.stack) [] H1 H2 s1.heap h2)(l:h2.FunFrames B X.stack)(p:h2.UpToSlots h3)(m:B.StaysIn h3)(i:∀b o,s1.heap.get? b=some o->H1 b=none->b∉frs X.stack->B.get? b=some o)
    (h:∀b o,s1.heap.get? b=some o->b∉frs X.stack->∃c,B.get? b=some c):Un (frs X.stack) [] H1 H2 s1.heap h3 where
  keep:=λb o q n a _=>m b o<|i b o q n a
  slot:=λb o q n a k=>by
    obtain ⟨r,e⟩:=U.slot b o q n a k;obtain ⟨_,c,d,j⟩:=l.mem a;rw[e] at d
    cases d
    obtain ⟨f,g⟩:=p b _ e j;exact ⟨f,g⟩
  free:=U.free
  there:=λb o q k=>by
    by_cases a:b∈frs X.stack
    · obtain ⟨_,c,d,j⟩:=l.mem a
      obtain ⟨r,g⟩:=p b _ d j;exact ⟨_,g⟩
    · obtain ⟨c,z⟩:=h b o q a
      exact ⟨c,m b c z⟩
  tups:=U.tups
  frzs:=U.frzs
  tbls:=U.tbls
theorem Zk9(I:Inv X pins σ H1 s1)(a:X.ex=[])(l:X.stack=X.env::X.outer)(m:X.env.frame=some X.env.locals)(U:Un (frs X.stack) [] H1 H2 s1.heap h2)(y:h2.FunFrames B X.stack)(D:h2.UpToSlots h3)(C:B.StaysIn h3)
    (h:∀b o,s1.heap.get? b=some o->H1 b=none->b∉frs X.stack->B.get? b=some o) (g:∀b o,s1.heap.get? b=some o->b∉frs X.stack->∃f,B.get? b=some f) :
    Un X.fs [] X.H₀ H2 X.s₀.heap h3/\(∀b o,X.s₀.heap.get? b=some o->X.H₀ b=none->b∉X.fs->B.get? b=some o)/\∀b o,X.s₀.heap.get? b=some o->b∉X.fs->∃f,B.get? b=some f:=by
  have V:=Zh3 U y D C h g;have d:Un X.fs [] X.H₀ H1 X.s₀.heap s1.heap:=by have:=I.base; rw[a] at this; exact this
  have w:∀b o,X.s₀.heap.get? b=some o->b≠X.env.locals:=λb o q z=>by
    subst z;exact absurd (Q5 (Heap.lt_size q) I.ok.above)<|Qf _
  have i:∀b o,X.s₀.heap.get? b=some o->b∉X.fs->b∉frs X.stack:=λb o q c z=>by
    rw[l] at z;rcases (Zk8 m).mp z with e | e
    · exact w b o q e
    · exact c e
  have k:∀b,b∈X.fs->b∈frs X.stack:=λb c=>by rw[l]; exact (Zk8 m).mpr<|.inr c
  refine ⟨⟨λb o q n c a=>?_,λb o q n c a=>?_,λb o q n a=>?_,λb o q a=>?_,λb p q=>V.tups b p<|d.tups b p q,λb o u q=>V.frzs b o u<|d.frzs b o u q,λb t q=>?_⟩,λb o q n c=>?_,λb o q c=>?_⟩
  · exact V.keep b o (d.keep b o q n c a) (d.free b o q n a) (i b o q c) a
  · obtain ⟨E,e⟩:=d.slot b o q n c a
    obtain ⟨j,A⟩:=V.slot b _ e (d.free b o q n a) (k b c) a;exact ⟨j,A⟩
  · obtain ⟨f,e⟩:=d.there b o q a
    exact V.free b f e (d.free b o q n a) a
  · obtain ⟨f,e⟩:=d.there b o q a
    exact V.there b f e a
  · obtain ⟨v,r⟩:=d.tbls b t q
    obtain ⟨s,x⟩:=V.tbls b _ r;exact ⟨v++s,by rw[x,Array.append_assoc]⟩
  · exact h b o (d.keep b o q n c (by simp)) (d.free b o q n (by simp)) (i b o q c)
  · obtain ⟨f,e⟩:=d.there b o q (by simp)
    exact g b f e<|i b o q c
end
section
variable{P:Program}{w:World}{K:ZZfg}{mg:ZZmg}{base:Heap}{N:List Str}{qual:Str}{scope:Scope}{f:Addr}{cd:Value}{A:Around}{outer:List Env}{s:Shared}{H:Hp}{E:XK}
abbrev cxX(P:Program)(w:World)(K:ZZfg)(mg:ZZmg)(base:Heap)(N:List Str)(qual:Str)(scope:Scope)(f:Addr)(cd:Value)(A:Around)(outer:List Env)(s:Shared)(H:Hp)(E:XK):Cx :=
 ZoD (CXx P w) P w K mg base N qual scope f cd A outer s H E
def Zh4(X:Cx)(E:St->XK):Prop:=∀(a:List (Addr×Obj)) (c:St) (H:Hp) (s:Shared) (e:Value) (b:Shared),Inv X a c H s->CXx X.prog X.w X.stack H s (E c) e b->X.xe e b
theorem ZoQ:Zh4 (cxX P w K mg base N qual scope f cd A outer s H E) λ_=>E:=by
 intro k D y x C p I h;obtain ⟨e,t,d,l,m,B,rfl,v,b,U,a,i,g,q⟩:=h;show wpAny (model P w) (A.deeper<|envOfC qual scope s.heap.objs.size f cd) (leaving (envOfC qual scope s.heap.objs.size f cd)<|.ref e) _ _ p;have c:=I.ok.frames;refine Air.leave (L:=s.heap.objs.size) a c rfl λz j r=>?_;obtain ⟨u,n,o⟩:=Zk9 I rfl rfl rfl U a.fr r j.st i g;exact ⟨e,t,d,l,m,B,rfl,v.trans I.os,b,u,j,n,o,q⟩
theorem Zgh{X:Cx}:Zh4 X λ_=>E0:=λ_ _ _ _ _ _ _ ⟨_,_,_,_,_,_,_,_,_,_,_,_,_,q⟩=>q.elim
def Zla(X:Cx)(E:XK):Prop:=∀(b:List (Addr×Obj)) (d:St) (H:Hp) (s:Shared) (c:Heap) (e:Addr) (a:Value) (g:List Value),Inv X b d H s->Heap.MadeExcOf s.heap c e a g->E a none H->X.xe (.ref e) { s with heap:=c }
theorem ZfY:Zla (cxX P w K mg base N qual scope f cd A outer s H E) E:=by
 intro k L B d v e h G I n q;show wpAny (model P w) (A.deeper<|envOfC qual scope s.heap.objs.size f cd) (leaving (envOfC qual scope s.heap.objs.size f cd)<|.ref e) _ _ _;have j:=I.ok.frames;unfold leaving;refine wpAny_bind<|ZoP (s:={ d with heap:=v }) I.hok I.stack n I.stkFree j rfl λr t F D=>?_;refine Air.off (s:={ d with heap:=r }) F λJ c C=>?_;obtain ⟨_,_,z⟩:=c.fr;have g:d.heap.FunFrames (PySem.W.hideAll d.heap<|frs (cxX P w K mg base N qual scope f cd A outer s H E).stack) (cxX P w K mg base N qual scope f cd A outer s H E).stack:=PySem.W.funFrames_hide I.stack λx m a l=>Uy.mpr ⟨x,m,l⟩;obtain ⟨u,p,y⟩:=Zk9 I rfl rfl rfl .refl g (D.trans C) c.st (λb o e _ i=>PySem.W.hideAll_get _ e i)<|λb o e i=>⟨o,PySem.W.hideAll_get _ e i⟩;exact ⟨e,t,h,none,B,_,rfl,I.os,I.bare,u,⟨c.hok,c.st,c.nb,z,c.tr,c.tk⟩,p,y,q⟩
theorem FnOk.toX{k:Nat}{f:Addr}{b:FuncData}{ps:List Str}{sp:Sp}(F:FnOk P w K mg base CX0 k f b ps sp):FnOk P w K mg base (CXx P w) k f b ps sp :=
 ⟨F.len,λA outer s H a m g Q E l d j c h=>codeAny_mono (F.run A outer s H a m g Q E l d j c h) λr n q=>by
  cases r with
  |error e=>exact False.elim q
  |ok i=>cases i <;> exact q⟩
theorem Fun.okx{x qual:Str}{c:Stmt}{f:Addr}{h:FuncData}{N ps:List Str}{k:Nat}{sp:Sp}(F:Fun K x qual c f h)(S:FnScope N ps (Zab c))(g:∀vs H Q E,sp vs H Q E->vs.length=ps.length)
    (b:∀(a:Value) (A:Around) (outer:List Env) (s:Shared) (H:Hp) (vs:List V) (Q:VK) (E:XK),Room k (A.deeper<|envOfC qual (Zab c) s.heap.objs.size f a)->sp vs H Q E →
      ∃t,PSs (cxX P w K mg base N qual (Zab c) f a A outer s H E) (Za4 c) t/\t { nx:=λ_ i=>Q .non i,rt:=Q } (start N vs) H):FnOk P w K mg base (CXx P w) (k+1) f h ps sp:=by
  obtain ⟨r,q,kV,l,o,u,a,p,n,rfl,j,e⟩:=F.ex;exact ZeN j e S g λA outer s H vs Q E m d=>b a A outer s H vs Q E m d
end
structure HasX (P:Program) (w:World) (K:ZZfg) (mg:ZZmg) (base:Heap) (x:Str) (k:Nat) (ps:List Str) (sp:Sp):Prop where
 ex:∃(f:Addr) (fd:FuncData),FnOk P w K mg base (CXx P w) k f fd ps sp/\mg x=some (.ref f)/\PySem.W.keepIn K (.ref f)=true/\Binds K fd ps []
structure HasMX (P:Program) (w:World) (K:ZZfg) (mg:ZZmg) (base:Heap) (C:Addr) (m:Str) (k:Nat) (ps:List Str) (dvs:List V) (sp:Sp):Prop where
 ex:∃(f:Addr) (fd:FuncData) (ds:List Value),FnOk P w K mg base (CXx P w) k f fd ps sp/\Meth K C m f/\Binds K fd ps ds/\Vals dvs ds
section
variable{P:Program}{w:World}{K:ZZfg}{mg:ZZmg}{base:Heap}{x m qual:Str}{C:Addr}{st:Stmt}{j k:Nat}{ps:List Str}{dvs:List V}{sp:Sp}
theorem Has.toX(h:Has P w K mg base x k ps sp):HasX P w K mg base x k ps sp:=let ⟨f,fd,a,b,c,d⟩:=h.ex;⟨f,fd,a.toX,b,c,d⟩
theorem HasM.toX(h:HasM P w K mg base C m k ps dvs sp):HasMX P w K mg base C m k ps dvs sp:=let ⟨f,fd,ds,a,b,c,d⟩:=h.ex;⟨f,fd,ds,a.toX,b,c,d⟩
theorem HasX.mono(h:HasX P w K mg base x j ps sp)(e:j<=k):HasX P w K mg base x k ps sp:=let ⟨f,fd,a,b,c,d⟩:=h.ex;⟨f,fd,a.mono e,b,c,d⟩
theorem HasMX.mono(h:HasMX P w K mg base C m j ps dvs sp)(e:j<=k):HasMX P w K mg base C m k ps dvs sp:=let ⟨f,fd,ds,a,b,c,d⟩:=h.ex;⟨f,fd,ds,a.mono e,b,c,d⟩
theorem Here.hasX(h:Here K mg x st)(b:∀f a,Fun K x x st f a->Binds K a ps [])(c:∀f a,Fun K x x st f a->FnOk P w K mg base (CXx P w) k f a ps sp):HasX P w K mg base x k ps sp :=
 let ⟨f,a,F,m⟩:=h.ex
 ⟨f,a,c f a F,m,F.kp,b f a F⟩
theorem HereM.hasMX(h:HereM K C m qual st)(b:∀f a,Fun K m qual st f a->Binds K a ps [])(c:∀f a,Fun K m qual st f a->FnOk P w K mg base (CXx P w) k f a ps sp):HasMX P w K mg base C m k ps [] sp :=
 let ⟨f,a,F,M⟩:=h.ex
 ⟨f,a,[],c f a F,M,b f a F,.nil⟩
end
section
variable{X:Cx}{k:Nat}{f C:Addr}{fd:FuncData}{ps:List Str}{sp:Sp}{dvs:List V}{ds:List Value}{E:St->XK}{x m:Str}{p pos apos:Pos}{e o:Expr}{es:List Expr}{ta:TE}{t:TA}
theorem Zlb{a:List (Addr×Obj)}{c:St}{H:Hp}{s:Shared}{Q:VK}{us:List Value}{vs:List V}(F:FnOk X.prog X.w X.K X.mg X.base (CXx X.prog X.w) k f fd ps sp)(v:Room k X.A)(l:Binds X.K fd ps ds)(n:Vals dvs ds)(j:Zh4 X E)
    (I:Inv X a c H s) (r:Vals vs us) (h:sp (vs++dvs) H Q (E c)):wpAny (model X.prog X.w) X.A (call (.ref f) us) (EP X a c Q) X.xe s:=by
  have d:Vals (vs++dvs) (us++ds):=r.append n;have i:(us++ds).length=ps.length:=by rw[<-d.length]; exact F.len _ _ _ _ h
  refine wpAny_call<|codeAny_mono (F.run X.A X.stack s H ⟨us,[]⟩ (us++ds) (vs++dvs) Q (E c) v I.env0 (l s us I.kIn i) d h) λr g b=>?_
  cases r with
  | error e=>exact j a c H s e g I b
  | ok q =>
    cases q with
    | ret u=>exact I.after b
    | next=>exact False.elim b
    | brk=>exact False.elim b
    | cont=>exact False.elim b
theorem Zbs(h:HasX X.prog X.w X.K X.mg X.base x k ps sp)(n:Zh4 X E)(z:Room k X.A)(j:Gl X x)(l:PA X (e::es) t)(d:(x==("__debug__" : Str))=false:=by decide)
    (u:starEach (e::es) X.env=(false,eval e X.env)::starEach es X.env:=by rfl) (c:(backTo pos<|starEach es X.env).any (·.1)=false:=by rfl) :
    PE X (.Call (.Name x p) (e::es) [] pos) (λb H Q=>t b H λvs i=>sp vs i Q<|E b):=by
  obtain ⟨f,fd,F,w,v,y⟩:=h.ex;intro a s b H Q I h;refine wpAny_Call_Name_kw<|ZdH I j w ?_ d;refine PySem.W.callWith_K (h₀:=X.base) I.ok.mod.kin v (thn (l pos a s b H _ I h) λB A ⟨vs,i,g,r,q⟩=>⟨g.kIn,?_⟩) u c;exact Zlb (dvs:=[]) F z y .nil n g r (by rw[Wq]; exact q)
inductive Zlc (P:Program) (w:World) (K:ZZfg) (mg:ZZmg) (base:Heap) (m:Str) (k:Nat) (x:V) (H1:Hp) (R:List V->Sp->Prop):Prop
 |mk (a C:Addr) (dx:_) (fs:_) (ps:List Str) (dvs:List V) (sp:Sp) (_:x = .ref a) (_:H1 a=some (.ins C dx fs)) (_:Cls K C) (_:HasMX P w K mg base C m k ps dvs sp) (_:fs.lookup m=none) (_:R dvs sp):Zlc P w K mg base m k x H1 R
def Zqr(P:Program)(w:World)(K:ZZfg)(c:ZZmg)(base:Heap)(m:Str)(k:Nat)(E:St->XK)(ta:TE)(t:TA):TE:=λa H Q=>ta a H λx b=>Zlc P w K c base m k x b λdvs sp=>t a b λg d=>sp (x::(g++dvs)) d Q<|E a
theorem Zi8{pl:Sem Bool}(A:PE X o ta)(z:Zh4 X E)(O:Room k X.A)(y:PA X (e::es) t)
    (g:starEach (e::es) X.env=(false,eval e X.env)::starEach es X.env:=by rfl) (d:(backTo pos<|starEach es X.env).any (·.1)=false:=by rfl)
    (B:eval (.Call (.Attribute o m apos) (e::es) [] pos) X.env=(do
      let ov ← eval o X.env
      standAt apos.atName
      let (f,first) ← holding [ov] (getMethod ov m pl)
      callWith pos f first (backTo pos<|starEach (e::es) X.env) (backToKw pos<|keywordEach [] X.env)):=by rfl) :
    PE X (.Call (.Attribute o m apos) (e::es) [] pos) (Zqr X.prog X.w X.K X.mg X.base m k E ta t):=by
  intro b s v H Q I h;refine PySem.W.methodCall_KW (pl:=pl) (thn (A b s v H _ I h) λu D ⟨x,J,i,w,a,C,S,U,ps,dvs,sp,N,P,c,M,l,q⟩=>?_) B;subst N;obtain rfl:u=Value.ref a:=w;obtain ⟨f,fd,ds,F,j,K,L⟩:=M.ex;refine ZfU i P c j l ?_;refine PySem.W.callWith_K (first:=[.ref a]) (h₀:=X.base) I.ok.mod.kin j.kp (thn (y pos b D v J _ i q) λus T ⟨vs,R,n,r,G⟩=>⟨n.kIn,?_⟩) g d;exact Zlb (us:=.ref a::us) (vs:=.ref a::vs) F O K L z n (.cons rfl r) G
end
abbrev bmV:List Value:=[.type "ValueError", .type "Exception", .type "BaseException", .type "object"]
structure ExcC (K:ZZfg) (mg:ZZmg) (x:Str) (C:Addr):Prop where
 cls:XCls K C
 mgx:mg x=some (.ref C)
 ein:PySem.W.excIn K C bmV "ValueError.__new__"=true
theorem ExcC.obj{K:ZZfg}{k:ZZmg}{x:Str}{C:Addr}(c:ExcC K k x C){h:Heap}(X:K.In h):OwnCls x C bmV "ValueError.__new__" k h:=by
 refine ⟨c.mgx,?_⟩;have q:=c.ein;unfold PySem.W.excIn at q
 split at q
 ·rename_i r B J s
  split at q
  ·rename_i L z j p g i n o m G
   simp only[Bool.and_eq_true,beq_iff_eq,Bool.not_eq_true'] at q
   obtain ⟨⟨⟨⟨⟨rfl,rfl⟩,a⟩,w⟩,b⟩,d⟩:=q;obtain ⟨u,I,H,t,E,A,F,f,D,e,y⟩:=B
   dsimp only at m a b d
   subst m a;obtain ⟨l⟩:=J;have v:l=[j,p,g,i,some<|.builtin "ValueError.__new__",o]:=G;subst v;exact ⟨z,t,u,E,I,A,F,f,D,e,r,j,p,g,i,o,_,X _ _ s,.of_isNs<|PySem.W.isNs_of_in X b,PySem.W.nsMap_none_of_in X b d,PySem.W.tail_of_in X w⟩
  ·cases q
 ·cases q
section
variable{X:Cx}{k:Nat}{C:Addr}{ps:List Str}{sp:Sp}{x m:Str}{p pos np cpos:Pos}{e:Expr}{es:List Expr}{t:TA}
theorem Zdy{E:XK}(c:ExcC X.K X.mg x C)(M:Zla X E)(b:X.calm=true)(F:Gl X x)(u:PA X (e::es) t)(O:(e::es).length<=1000:=by decide)
    (l:starEach (e::es) X.env=(false,eval e X.env)::starEach es X.env:=by rfl) (g:(backTo cpos<|starEach es X.env).any (·.1)=false:=by rfl) (i:(x==("__debug__" : Str))=false:=by decide) :
    PS X (.Raise (some<|.Call (.Name x np) (e::es) [] cpos) none pos) (λ_ f H=>t f H λvs w=>vs.length<=1000/\E (.ref C) none w):=by
  intro a s f H D I h;obtain ⟨bm,N,nm,q,bs,hdct,sn,sub,ab,col,dd,k0,k1,k2,k3,k5,mN,L,B,j,T⟩:=(c.obj I.mod.kin).obj;refine wpAny_Raise_call_subT (C:=C) (nm:=nm) (q:=q) (N:=N) (bs:=bs) (bm:=bm) (hdct:=hdct) (sn:=sn) (sub:=sub) (ab:=ab) (col:=col) (dd:=dd) (k0:=k0) (k1:=k1) (k2:=k2) (k3:=k3) (k5:=k5) PySem.F.excBase_ValueError
    (mN:=mN) (T.hasType PySem.F.excBase_ValueError.hasBase) (I.ok.hd b) (by rw[l]; show (false||(backTo cpos<|starEach es X.env).any (·.1))=false; rw[g]; rfl) j (ZdH I F c.mgx ⟨rfl,?_⟩ i)
  have z:=u cpos a s f H _ I h;rw[l] at z ⊢;refine Calls.evalArgs_plain<|wpAny_mono z (λP K ⟨vs,o,d,r,n,v⟩=>⟨rfl,?_,d.bk _ _ L,B.keeps d.bk,T.keeps d.bk,λJ A G=>M a f o K J A _ _ d G v⟩) λ_ _ y=>y;rw[<-r.length];exact Qx<|ZaR n
end
def ZoR(e C:Addr)(dd:Option Addr):HO:=.ext λh=>∃a b,h.get? e=some a/\a.cls = .ref C/\a.dict=dd/\a.data = .fields b
section
variable{X:Cx}{pins:List (Addr×Obj)}{σ σ1:St}{H H1:Hp}{s s1:Shared}{e C:Addr}{dd:Option Addr}
theorem Inv.track(I:Inv X pins σ H s)(l:Inv X pins σ1 H1 s1)(D:s1.heap.get? e=none)(B:H e=none){h:Obj}{vs:Array Value}(w:s.heap.get? e=some h)(L:h.cls = .ref C)(E:h.dict=dd)(A:h.data = .fields vs):Inv X pins σ (upd H e<|ZoR e C dd) s:=by
 have i:∀b u,H b=some u->b≠e:=λb u q z=>by subst z;rw[B] at q;cases q
 have j:∀b o,s1.heap.get? b=some o->b≠e:=λb o q z=>by subst z;rw[D] at q;cases q
 have g:=I.base;refine ⟨I.ok,I.os,I.bare,⟨g.keep,g.slot,λb o q n t=>?_,g.there,λb y q=>?_,λb o u q=>?_,λb J q=>?_⟩,I.loc,I.cell,?_,λx c q=>?_,λp r=>?_,λb u q=>?_,I.len⟩
 ·obtain ⟨F,z⟩:=l.base.there b o q t;rw[Zaj<|j b F z];exact g.free b o q n t
 ·have z:=g.tups b y q;rw[Zaj<|i b _ z];exact z
 ·have z:=g.frzs b o u q;rw[Zaj<|i b _ z];exact z
 ·obtain ⟨m,z⟩:=g.tbls b J q;exact ⟨m,by rw[Zaj<|i b _ z];exact z⟩
 ·obtain ⟨m,⟨o,N,P,z,_⟩,_⟩:=l.loc;rw[Zaj<|j _ o z];exact I.free
 ·obtain ⟨v,o,z,_⟩:=l.cell x c q;rw[Zaj<|j _ o z];exact I.freeC x c q
 ·obtain ⟨a,b,c,d,f⟩:=I.pin p r;exact ⟨a,by rw[Zaj<|j _ _ (l.pin p r).1];exact b,c,d,f⟩
 ·by_cases hb:b=e
  ·subst hb;rw[Zah] at q
   cases q
   refine ⟨⟨h,vs,w,L,E,A⟩,⟨h,w⟩,λO M=>?_⟩;rintro ⟨K,G,a,b,c,d⟩ k;exact ⟨K,G,k _ a,b,c,d⟩
  ·rw[Zaj hb] at q;exact (I.hok b u q).stay (λc v _ z=>z) (λc z=>by rw[Zaj<|i c _ z];exact z) λc y z=>by rw[Zaj<|i c _ z];exact z
def Cx.suite(X:Cx)(e:Addr):Cx:={ X with A:=X.A.mark<|some<|.ref e,calm:=false,xe:=λ_ _=>False }
theorem Inv.suite(I:Inv X pins σ H s)(e:Addr):Inv (X.suite e) pins σ H s :=
 ⟨⟨I.ok.mod,I.ok.kind,I.ok.glob,I.ok.blt,I.ok.above,I.ok.inj,I.ok.has,I.ok.cab,(λz=>nomatch z),I.ok.frames,I.ok.stk,I.ok.exf,I.ok.bs,I.ok.bsz,I.ok.noex,I.ok.exfs,I.ok.funs,I.ok.frf⟩,I.os,I.bare,I.base,I.loc,I.cell,I.free,I.freeC,I.pin,I.hok,I.len⟩
theorem Inv.unsuite(a:X.Ok)(I:Inv (X.suite e) pins σ H s):Inv X pins σ H s:=⟨a,I.os,I.bare,I.base,I.loc,I.cell,I.free,I.freeC,I.pin,I.hok,I.len⟩
abbrev Cx.tryB(X:Cx)(pn:List (Addr×Obj))(xe:Value->Shared->Prop):Cx:={ X with pn:=pn,xe:=xe }
theorem Inv.tryB(I:Inv X pins σ H s)(b:Value->Shared->Prop):Inv (X.tryB (X.pn++pins) b) [] σ H s :=
 ⟨⟨I.ok.mod,I.ok.kind,I.ok.glob,I.ok.blt,I.ok.above,I.ok.inj,I.ok.has,I.ok.cab,I.ok.hd,I.ok.frames,I.ok.stk,I.ok.exf,I.ok.bs,I.ok.bsz,I.ok.noex,I.ok.exfs,I.ok.funs,I.ok.frf⟩,I.os,I.bare,I.base,I.loc,I.cell,I.free,I.freeC,λp a=>I.pin p (by rw[Wq] at a;exact a),I.hok,I.len⟩
theorem Inv.untryB{a:Value->Shared->Prop}{pins':List (Addr×Obj)}(b:X.Ok)(I:Inv (X.tryB (X.pn++pins) a) pins' σ H s):Inv X pins σ H s :=
 ⟨b,I.os,I.bare,I.base,I.loc,I.cell,I.free,I.freeC,λp c=>I.pin p<|Wn _ c,I.hok,I.len⟩
theorem Inv.drop{i:Nat}{n:Str}{h':Heap}{v:Option Value}{m:Str->Option Value}{t':Nat}(I:Inv X pins σ H s)(N:X.N.Nodup)(E:X.N[i]?=some n)(S:s.heap.Ns X.env.locals m)
    (J:∀(j:Nat) (x:Str) (u:V),X.N[j]?=some x->σ[j]?=some (some u)->Vis X.env.scope x->∃z,RelV u z/\ZsR X.env s.heap m x z)
    (L:h'.Ns X.env.locals (λx=>if x=n then v else m x)) (R:Heap.SameBut X.env.locals s.heap h'):Inv X pins (σ.set i none) H { s with heap:=h',toks:=t' }:=by
  have g:∀b o,b≠X.env.locals->s.heap.get? b=some o->h'.get? b=some o:=λb o M q=>R.extBut b o M q;have h:∀b o,X.s₀.heap.get? b=some o->b≠X.env.locals:=λb o q z=>by
    subst z;exact absurd (Q5 (Heap.lt_size q) I.ok.above)<|Qf _
  have G:∀b u,H b=some u->b≠X.env.locals:=λb u q z=>by subst z; rw[I.free] at q; cases q
  have k:=I.base;have B:i<σ.length:=by rw[I.len]; exact (Qn.mp E).1
  refine ⟨I.ok,I.os,I.bare,⟨λb o q a c d=>g b o (h b o q)<|k.keep b o q a c d,λb o q a c d=>?_,k.free,λb o q d=>?_,k.tups,k.frzs,k.tbls⟩,⟨_,L,λj x u a b c=>?_⟩,λx c q=>?_,I.free,I.freeC,λp K=>?_,λb u q=>?_,?_⟩
  · obtain ⟨Q,z⟩:=k.slot b o q a c d
    exact ⟨Q,g b _ (h b o q) z⟩
  · obtain ⟨F,z⟩:=k.there b o q d
    exact ⟨F,g b F (h b o q) z⟩
  · have l:j≠i:=λz=>by
      subst z;rw[List.getElem?_set_self B] at b
      cases b
    rw[List.getElem?_set_ne<|Ne.symm l] at b;obtain ⟨z,r,O⟩:=J j x u a b c;have t:x≠n:=λz=>by
      subst z;exact l<|(List.getElem?_inj (Qn.mp a).1 N).mp<|a.trans E.symm
    refine ⟨z,r,?_⟩;rcases O with ⟨k1,k2⟩ | ⟨k1,cc,k2,D,A,y⟩
    · exact .inl ⟨k1,by show (if x=n then v else m x)=some z; rw[if_neg t]; exact k2⟩
    · exact .inr ⟨k1,cc,k2,D,g _ _ (I.cne x cc k2) A,y⟩
  · obtain ⟨P,D,A,y⟩:=I.cell x c q
    exact ⟨P,D,g _ _ (I.cne x c q) A,y⟩
  · obtain ⟨a,b,c,d,f⟩:=I.pin p K
    exact ⟨g _ _ c a,b,c,d,f⟩
  · exact (I.hok b u q).stay (λc w hc z=>g c w (by rcases hc with rfl | hc; exact G _ _ q; exact G _ _ hc) z) (λ_ z=>z) λ_ _ z=>z
  · rw[We]; exact I.len
theorem Zh5{prog:Program}{w:World}{A:Around}{E:Value->Shared->Prop}{K:ZZfg}{CE:Addr}{Q:Bool->Shared->Prop}{i:Obj}(KX:K.In s.heap)(l:PySem.W.typeIn K (.ref CE)=some (.type "type")) (p:PySem.W.mroIn K CE (.type "BaseException")=some true)
    (c:(PySem.W.clsIn K CE).isSome=true) (u:PySem.W.mroIn K C (.ref CE)=some true) (n:s.heap.get? e=some i) (F:i.cls = .ref C) (h:Q true s):wpAny (model prog w) A (excMatches (.ref e)<|.ref CE) Q E s:=by
  obtain ⟨b,g,d,I,L⟩:=s;have x:=PySem.W.looks_typeIn (M:=model prog w) KX l;have t:=PySem.W.looks_mroIn (M:=model prog w) KX p;have r:=PySem.W.looks_mroIn (M:=model prog w) KX u;have v:PySem.W.Looks (model prog w) b (typeOf<|.ref e) (.ref C):=F ▸ (PySem.W.Looks.ld n).andThen .now;have f:=tc_notTuple;have B:PySem.W.Looks (model prog w) b (isInstance (.ref CE)<|.type "tuple") false:=x.andThen<|PySem.W.Looks.of_pure f;have o:PySem.W.Looks (model prog w) b (isType<|.ref CE) true:=by
    obtain ⟨N,z⟩:=Uk.mp c;unfold PySem.W.clsIn at z
    split at z
    · rename_i S O D y j
      intro R P J G k q;unfold isType loadHead;exact wpAny_bind<|wpAny_loadPart (k _ _<|KX _ _ j)<|wpAny_pure q
    · cases z
  unfold excMatches;refine wpAny_bind (m:=isInstance (.ref CE)<|.type "tuple")<|B.at ?_;refine wpAny_bind (m:=(pure [Value.ref CE]:Sem (List Value)))<|wpAny_pure ?_;refine wpAny_bind ?_;rw[List.forIn_cons];refine wpAny_bind<|wpAny_bind (m:=isExcClass<|.ref CE) ?_;unfold isExcClass;refine wpAny_bind<|o.at<|t.at ?_;refine wpAny_pure<|wpAny_pure (a:=PUnit.unit) ?_;refine wpAny_bind<|v.at<|wpAny_bind ?_;rw[List.forIn_cons];refine wpAny_bind<|wpAny_bind<|r.at ?_;refine wpAny_pure<|wpAny_pure<|wpAny_pure h
def ZnR(K:ZZfg)(CE:Addr)(i:Nat)(d:Addr->TS)(D:Ends):St->XK:=λσ1 a dd H1=>∃C,a = .ref C/\PySem.W.mroIn K C (.ref CE)=some true ∧
 ∀e,H1 e=none->d e { nx:=λb c=>D.nx (b.set i none) c,rt:=λ_ _=>False } (σ1.set i<|some<|.ref e) (upd H1 e<|ZoR e C dd)
def Ztu(K:ZZfg)(CE:Addr)(i:Nat)(a:(St->XK)->List (Addr×Obj)->(Value->Shared->Prop)->TS)(d:Addr->TS):TS:=λD σ H=>∀b c,a (ZnR K CE i d D) b c D σ H
structure CatC (K:ZZfg) (mg:ZZmg) (x:Str) (CE:Addr):Prop where
 mgx:mg x=some (.ref CE)
 ty:PySem.W.typeIn K (.ref CE)=some (.type "type")
 be:PySem.W.mroIn K CE (.type "BaseException")=some true
 cl:(PySem.W.clsIn K CE).isSome=true
theorem Zqs{body:List Stmt}{j:Stmt}{d:List Stmt}{Q n:Str}{np L a8:Pos}{i:Nat}{CE:Addr}{tb:(St->XK)->List (Addr×Obj)->(Value->Shared->Prop)->TS}{ts:Addr->TS}(W:CatC X.K X.mg Q CE)(hN:X.N.Nodup)(hi:X.N[i]?=some n)(Z:X.env.scope.names.lookup n=some .local)(hg:Gl X Q)
    (M:∀(E:St->XK) (pn:List (Addr×Obj)) (xe:Value->Shared->Prop),Zh4 (X.tryB pn xe) E->PSs (X.tryB pn xe) body (tb E pn xe)) (hs:∀e,PSs (X.suite e) (j::d)<|ts e)
    (g:X.stack=X.env::X.outer:=by rfl) (hf:X.env.frame=some X.env.locals:=by rfl) (a1:(Q==("__debug__" : Str))=false:=by decide) :
    PS X (.Try body [.ExceptHandler (some<|.Name Q np) (some n) (j::d) L] [] [] a8) (Ztu X.K CE i tb ts):=by
  intro pins s σ H D I h
  let EE:=ZnR X.K CE i ts D
  let XE:Value->Shared->Prop:=λev x=>∃σ1 H1 s1,Inv X pins σ1 H1 s1/\CXx X.prog X.w X.stack H1 s1 (EE σ1) ev x
  have P:Zh4 (X.tryB (X.pn++pins) XE) EE:=λa7 σ1 H1 s1 ev x I' h'=>⟨σ1,H1,s1,I'.untryB I.ok,h'⟩;have O:∀f x,SP (X.tryB (X.pn++pins) XE) [] D f x->SP X pins D f x:=λf x q=>by
    cases f with
    | next=>obtain ⟨c,p,J,q⟩:=q; exact ⟨c,p,J.untryB I.ok,q⟩
    | brk=>obtain ⟨c,p,J,q⟩:=q; exact ⟨c,p,J.untryB I.ok,q⟩
    | cont=>obtain ⟨c,p,J,q⟩:=q; exact ⟨c,p,J.untryB I.ok,q⟩
    | ret u=>obtain ⟨v,c,p,J,r,q⟩:=q; exact ⟨v,c,p,J.untryB I.ok,r,q⟩
  refine wpAny_Try_except<|wpAny_mono (M EE _ XE P [] s σ H D (I.tryB XE)<|h _ _) (λf s1 q=>?_) λev A hx=>?_
  · have R:=O f s1 q
    cases f with
    | next=>exact wpAny_execs_nil R
    | brk=>exact R
    | cont=>exact R
    | ret u=>exact R
  obtain ⟨σ1,H1,s1,I1,e,t,b4,dd,H2,B,rfl,os,l,U,a,K,w,C,rfl,hm,k⟩:=hx;have N:=I.ok.frames;rw[g] at N;have a':Air X.prog X.w B (X.env::X.outer) H2 A.heap e t (.ref C) dd .none:=by rw[<-g]; exact a
  refine a'.note N hf λh4 a4 u4=>?_;refine Air.off (s:={ A with heap:=h4 }) a4 λY S u5=>?_;have U5:=Zh3 U a.fr (u4.trans u5) S.st K w;have I5:Inv X pins σ1 H2 { A with heap:=Y }:=I1.call' (ch:=[]) os U5 S.hok l λb z=>absurd z (by simp);refine wpAny_handleBy_cons (codeAny_handlers_test<|ZdH (X:=X.suite e) (I5.suite e) hg W.mgx ?_ a1) (by intro q; cases q);obtain ⟨oe,vs,T,oT,b7,a2,a0,_⟩:=id S.tr;refine Zh5 (s:={ A with heap:=Y }) I5.kIn W.ty W.be W.cl hm a2 a0 ?_;refine codeAny_handlers_suite_as<|Air.off (s:={ A with heap:=Y }) S λh6 y u6=>?_;have U6:=Zh3 U a.fr ((u4.trans u5).trans u6) y.st K w;have I6:Inv X pins σ1 H2 { A with heap:=h6 }:=I1.call' (ch:=[]) os U6 y.hok l λb z=>absurd z (by simp);obtain ⟨b5,b6,T6,b8,b2,F,b1,a3,G,_⟩:=id y.tr;have a9:s1.heap.get? e=none:=by
    cases q:s1.heap.get? e with
    | none=>rfl
    | some o =>
      by_cases M:e∈frs X.stack
      · obtain ⟨_,o',z,nf⟩:=y.fr.mem (by rw[g] at M; exact M)
        rw[F] at z; cases z; exact absurd G<|nf _
      · obtain ⟨o',z⟩:=w e o q M
        rw[a.nb] at z; cases z
  have I7:=I6.track I1 a9 y.free F b1 a3 G;refine Zds (X:=X) (v:=.ref e) I7 hN hi (.inl Z) rfl (λs8 I8=>?_)<|.inr Z;refine wpAny_mono (hs e pins s8 _ _ _ (I8.suite e)<|k e y.free) (λf s9 q=>?_) λ_ _ z=>False.elim z
  cases f with
  | brk=>obtain ⟨_,_,_,z⟩:=q; exact False.elim z
  | cont=>obtain ⟨_,_,_,z⟩:=q; exact False.elim z
  | ret u=>obtain ⟨_,_,_,_,_,z⟩:=q; exact False.elim z
  | next =>
    obtain ⟨b3,H9,J,q⟩:=q;have I9:=J.unsuite I.ok;obtain ⟨m,hn,lk⟩:=id I9.loc;refine wpAny_nameGoes_keeps Z hn (by rw[I.ok.kind]; rfl) λh' v b0 sb=>?_;exact ⟨_,_,I9.drop hN hi hn lk b0 sb,q⟩
end
inductive TyX (K:ZZfg) (H:Hp):V->Value->Prop where
 |of {x:V} {t:Value} (h:Zi2 K H x t):TyX K H x t
 |exc {e C:Addr} (h:H e=some (ZoR e C none)) (c:XCls K C):TyX K H (.ref e) (.ref C)
inductive ZrK (K:ZZfg) (H:Hp) (t:Value):V->Bool->Prop where
 |ty {T:String} {b:Bool} (h:PySem.W.kitOne K t (.type T)=some b):ZrK K H t (.ty T) b
 |ref {C:Addr} {b:Bool} (h:PySem.W.kitOne K t (.ref C)=some b):ZrK K H t (.ref C) b
 |tup {tp:Addr} {cs:ZZla} {b:Bool} (h:H tp=some (.tup (cs.map V.ref))) (q:PySem.W.kitAny K t (cs.map Value.ref)=some b):ZrK K H t (.ref tp) b
theorem Zhp:∀ {a:ZZla} {us:List Value},Vals (a.map V.ref) us->us=a.map Value.ref
 | [],_,.nil=>rfl
 |_::_,_,.cons r t=>by cases (show _=Value.ref _ from r);rw[Zhp t];rfl
section
variable{X:Cx}
theorem ZaK:ZdZ X (.builtin "isinstance") (λxs H Q=>∃x c t b,xs=[x,c]/\TyX X.K H x t/\ZrK X.K H t c b/\Q (.bl b) H):=by
 intro m s Y H xs us Q I r h;obtain ⟨x,c,t,b,rfl,ty,v,q⟩:=h;obtain ⟨u,w,rfl,d,A⟩:=ZkD r;have l:∀B,EP X m Y Q (.bool b) { s with toks:=B }:=λB=>⟨.bl b,H,I.tok _,rfl,q⟩;obtain ⟨G,Z,g,hb⟩:∃G:Heap->Prop,PySem.W.KitX X.K u t G/\G s.heap/\u ≠ .builtin "__main__.__loader__#opaque":= by
  cases ty with
  |exc M c =>
   rename_i e C
   cases (show u=Value.ref e from d)
   obtain ⟨⟨L,W,E,R,N,K⟩,_,_⟩:=(show ObjOk X.prog X.w H s.heap e (ZoR e C none) from I.hok e _ M);refine ⟨_,ZmI c,⟨L,none,E,R,?_,?_⟩,λz=>nomatch z⟩
   ·unfold PySem.W.notCls;rw[K]
   ·rw[N];trivial
  |of ty =>
   cases ty with
   |non=>cases (show u=Value.none from d);exact ⟨_,PySem.W.kitx_none,True.intro,λz=>nomatch z⟩
   |bl y=>cases (show u=Value.bool y from d);exact ⟨_,PySem.W.kitx_bool,True.intro,λz=>nomatch z⟩
   |int i=>obtain ⟨t,q⟩:=(show ∃t,u=Value.int i t from d);cases q;exact ⟨_,PySem.W.kitx_int,True.intro,λz=>nomatch z⟩
   |str y=>obtain ⟨t,q⟩:=(show ∃t,u=Value.str y t from d);cases q;exact ⟨_,PySem.W.kitx_str,True.intro,λz=>nomatch z⟩
   |flt y=>obtain ⟨t,q⟩:=(show ∃t,u=Value.float y t from d);cases q;exact ⟨_,PySem.W.kitx_float,True.intro,λz=>nomatch z⟩
   | @lst a xs ea =>
    cases (show u=Value.ref a from d)
    obtain ⟨_,_,n,_,f⟩:=(show ObjOk X.prog X.w H s.heap a (.lst xs) from I.hok a _ ea);exact ⟨_,PySem.W.kitx_list,⟨_,f,rfl⟩,λz=>nomatch z⟩
   | @frz a ob xs ea =>
    cases (show u=Value.ref a from d)
    obtain ⟨_,_,_,n,_,f⟩:=(show ObjOk X.prog X.w H s.heap a (.frz ob<|.lst xs) from I.hok a _ ea);exact ⟨_,PySem.W.kitx_list,⟨_,f,rfl⟩,λz=>nomatch z⟩
   | @tup a xs ea =>
    cases (show u=Value.ref a from d)
    obtain ⟨_,_,_,p⟩:=(show ObjOk X.prog X.w H s.heap a (.tup xs) from I.hok a _ ea);obtain ⟨o,f,j,_⟩:=p;exact ⟨_,PySem.W.kitx_tuple,⟨o,f,j⟩,λz=>nomatch z⟩
   | @dK a kvs ea =>
    cases (show u=Value.ref a from d)
    obtain ⟨_,_,W,_,p⟩:=(show ObjOk X.prog X.w H s.heap a (.dK kvs) from I.hok a _ ea);obtain ⟨o,S,ep,f,j,_⟩:=p;exact ⟨_,PySem.W.kitx_dict,⟨o,f,j.1⟩,λz=>nomatch z⟩
   | @dT a kvs ea =>
    cases (show u=Value.ref a from d)
    obtain ⟨_,_,xs,_,o,S,ep,f,j,_⟩:=(show ObjOk X.prog X.w H s.heap a (.dT kvs) from I.hok a _ ea);exact ⟨_,PySem.W.kitx_dict,⟨o,f,j.1⟩,λz=>nomatch z⟩
   | @ins a C dx fs ea cl ha hn htk hm =>
    cases (show u=Value.ref a from d)
    obtain ⟨mA,O,_⟩:=Ze6 I.hok ea;obtain ⟨P,J,_⟩:=O.look;exact ⟨_,PySem.W.kitx_own (cl.get _) cl.hd ha hn htk hm,J,λz=>nomatch z⟩
 cases v with
 |ty k=>cases (show w=Value.type _ from A);exact PySem.W.kia_one Z I.kIn g k hb l
 |ref k=>cases (show w=Value.ref _ from A);exact PySem.W.kia_one Z I.kIn g k hb l
 | @tup tp cs b ht k =>
  cases (show w=Value.ref tp from A)
  obtain ⟨_,T,F,o,f,j,n,D⟩:=(show ObjOk X.prog X.w H s.heap tp (.tup<|cs.map V.ref) from I.hok tp _ ht);obtain ⟨oc,P,U,a0⟩:=o
  dsimp only at j D
  subst j D;exact PySem.W.kia_tup Z I.kIn g f (by rw[Zhp F];exact k) hb l
end
theorem ZoS{K:ZZfg}{C D:Addr}{b:Bool}(e:(PySem.W.clsIn K D).isSome=true)(c:PySem.W.typeIn K (.ref D)=some (.type "type")) (d:PySem.W.mroIn K C (.ref D)=some b) (a:C≠D):PySem.W.kitOne K (.ref C) (.ref D)=some b:=by
 unfold PySem.W.kitOne PySem.W.kitCls;rw[if_neg<|λz=>a<|Value.ref.inj<|beq_iff_eq.mp z];show (if ((PySem.W.clsIn K D).isSome&&PySem.W.typeIn K (.ref D)==some (.type "type"))=true then PySem.W.subIn K (.ref C) (.ref D) else none)=some b;rw[e,c];exact d
theorem ZmK{K:ZZfg}{C:Addr}:PySem.W.kitOne K (.ref C) (.ref C)=some true:=by
 unfold PySem.W.kitOne;rw[if_pos<|beq_iff_eq.mpr rfl]
theorem ZoT{K:ZZfg}{C:Addr}{T:String}{b:Bool}(c:PySem.W.kitMeta T=true)(a:PySem.W.mroIn K C (.type T)=some b):PySem.W.kitOne K (.ref C) (.type T)=some b:=by
 unfold PySem.W.kitOne PySem.W.kitCls;rw[if_neg (λz=>nomatch (beq_iff_eq.mp z:Value.ref C=Value.type T))];show (if PySem.W.kitMeta T=true then PySem.W.subIn K (.ref C) (.type T) else none)=some b;rw[if_pos c];exact a
theorem Zr4(K:ZZfg){C:Addr}(a:PySem.W.mroIn K C (.type "ValueError")=some true):PySem.W.kitOne K (.ref C) (.type "ValueError")=some true:=ZoT ‹4› a
structure FunD (K:ZZfg) (x qual:Str) (st:Stmt) (f:Addr) (fd:FuncData) (T:Addr) (items:Array Value):Prop where
 ex:∃(oc:Value) (od:Option Addr) (kV doc pm:Value) (an:Option Addr) (cdv ct:Value) (osl:Array (Option Value)),
  fd=PySem.W.fnOf x qual (Zbw st) (Za4 st) (Zab st) (.ref T) kV doc pm an cdv ct/\K.lookup f=some ⟨oc,od,.func fd,osl⟩/\PySem.W.codeIn K cdv qual=true
 tp:∃(tc:Value) (td:Option Addr) (n:Nat) (tsl:Array (Option Value)),K.lookup T=some ⟨tc,td,.seq items n,tsl⟩
 kp:PySem.W.keepIn K (.ref f)=true
section
variable{P:Program}{w:World}{K:ZZfg}{mg:ZZmg}{base:Heap}{x qual m:Str}{st:Stmt}{f C T:Addr}{fd:FuncData}{items:Array Value}{N ps:List Str}{k:Nat}{sp:Sp}{ds:List Value}{dvs:List V}
theorem FunD.okx(F:FunD K x qual st f fd T items)(S:FnScope N ps (Zab st))(g:∀vs H Q E,sp vs H Q E->vs.length=ps.length)
    (c:∀(b:Value) (A:Around) (a:List Env) (s:Shared) (H:Hp) (vs:List V) (Q:VK) (E:XK),Room k (A.deeper<|envOfC qual (Zab st) s.heap.objs.size f b)->sp vs H Q E →
      ∃t,PSs (cxX P w K mg base N qual (Zab st) f b A a s H E) (Za4 st) t/\t { nx:=λ_ i=>Q .non i,rt:=Q } (start N vs) H):FnOk P w K mg base (CXx P w) (k+1) f fd ps sp:=by
  obtain ⟨q,u,kV,j,o,r,b,p,n,rfl,h,e⟩:=F.ex;exact ZeN h e S g λA a s H vs Q E l d=>c b A a s H vs Q E l d
theorem FunD.binds(F:FunD K x qual st f fd T items)(h:∀ (kV a c:Value) (e:Option Addr) (b d:Value) (us:List Value),(us ++ ds).length = ps.length →
      ∃g:Option (Array Value)->Sem (List<|Str×Value),bindArgs (PySem.W.fnOf x qual (Zbw st) (Za4 st) (Zab st) (.ref T) kV a c e b d) ⟨us,[]⟩=seqItems? (.ref T) >>= g/\g (some items)=pure (ps.zip<|us++ds)):Binds K fd ps ds:=by
  obtain ⟨y,z,kV,a,c,e,b,d,r,rfl,u,o⟩:=F.ex;obtain ⟨t,v,n,i,j⟩:=F.tp;intro s us KX l;obtain ⟨g,q,p⟩:=h kV a c e b d us l;exact .of_defaults rfl (KX _ _ j) rfl q p
structure HereD (K:ZZfg) (C:Addr) (m qual:Str) (st:Stmt) (items:Array Value):Prop where
 ex:∃(f:Addr) (fd:FuncData) (T:Addr),FunD K m qual st f fd T items/\Meth K C m f
theorem HereD.hasM(h:HereD K C m qual st items)(a:Vals dvs ds)(b:∀f fd T,FunD K m qual st f fd T items->Binds K fd ps ds)(c:∀f fd T,FunD K m qual st f fd T items->FnOk P w K mg base CX0 k f fd ps sp):HasM P w K mg base C m k ps dvs sp :=
 let ⟨f,fd,T,F,M⟩:=h.ex
 ⟨f,fd,ds,c f fd T F,M,b f fd T F,a⟩
theorem HereD.hasMX(h:HereD K C m qual st items)(a:Vals dvs ds)(b:∀f fd T,FunD K m qual st f fd T items->Binds K fd ps ds)(c:∀f fd T,FunD K m qual st f fd T items->FnOk P w K mg base (CXx P w) k f fd ps sp):HasMX P w K mg base C m k ps dvs sp :=
 let ⟨f,fd,T,F,M⟩:=h.ex
 ⟨f,fd,ds,c f fd T F,M,b f fd T F,a⟩
theorem hereD_mk{q:Value}{s r:Option Addr}{g:Array (Option Value)}{kV e o b p h:Value}{j:Option Addr}{n:Nat}{d:Array (Option Value)}(a:PySem.W.findIn K (.ref C) m=some (some<|.ref f))(i:PySem.W.isFn K (.ref f)=true)
    (l:K.lookup f=some ⟨q,s,.func<|PySem.W.fnOf m qual (Zbw st) (Za4 st) (Zab st) (.ref T) kV e o r b p,g⟩) (t:K.lookup T=some ⟨h,j,.seq items n,d⟩)
    (c:PySem.W.codeIn K b qual=true) (k:PySem.W.keepIn K (.ref f)=true):HereD K C m qual st items:=⟨f,_,T,⟨⟨q,s,kV,e,o,r,b,p,g,rfl,l,c⟩,⟨h,j,n,d,t⟩,k⟩,a,i,k⟩
end
theorem Zh6{us:List Value}(h:us.length=1):∃a,us=[a]:=match us,h with| [a],_=>⟨a,rfl⟩
theorem Zcv{us:List Value}(h:us.length=2):∃a b,us=[a,b]:=match us,h with| [a,b],_=>⟨a,b,rfl⟩
theorem Zc1{us:List Value}(h:us.length=3):∃a b c,us=[a,b,c]:=match us,h with| [a,b,c],_=>⟨a,b,c,rfl⟩
theorem ZmL{us:List Value}(h:us.length=4):∃a b c d,us=[a,b,c,d]:=match us,h with| [a,b,c,d],_=>⟨a,b,c,d,rfl⟩
section
variable{K:ZZfg}{x qual:Str}{st:Stmt}{f:Addr}{fd:FuncData}{p q r s:Str}
theorem Fun.b1(F:Fun K x qual st f fd)(h:∀(kV b g:Value) (e:Option Addr) (c i a:Value),bindArgs (PySem.W.fnOf x qual (Zbw st) (Za4 st) (Zab st) .none kV b g e c i) ⟨[a],[]⟩=pure ([p].zip [a])):Binds K fd [p] []:=F.binds λ_ _ _ _ _ _ j d=>by obtain ⟨_,rfl⟩:=Zh6 d;exact h _ _ _ _ _ _ _
theorem Fun.b2(F:Fun K x qual st f fd)(h:∀(kV c i:Value) (g:Option Addr) (d j a b:Value),bindArgs (PySem.W.fnOf x qual (Zbw st) (Za4 st) (Zab st) .none kV c i g d j) ⟨[a,b],[]⟩=pure ([p,q].zip [a,b])):Binds K fd [p,q] []:=F.binds λ_ _ _ _ _ _ k e=>by obtain ⟨_,_,rfl⟩:=Zcv e;exact h _ _ _ _ _ _ _ _
theorem Fun.b3(F:Fun K x qual st f fd)(h:∀(kV d i:Value) (k:Option Addr) (e j a b c:Value),bindArgs (PySem.W.fnOf x qual (Zbw st) (Za4 st) (Zab st) .none kV d i k e j) ⟨[a,b,c],[]⟩=pure ([p,q,r].zip [a,b,c])):Binds K fd [p,q,r] []:=F.binds λ_ _ _ _ _ _ l g=>by obtain ⟨_,_,_,rfl⟩:=Zc1 g;exact h _ _ _ _ _ _ _ _ _
theorem Fun.b4(F:Fun K x qual st f fd)(h:∀(kV e j:Value) (l:Option Addr) (g k a b c d:Value),bindArgs (PySem.W.fnOf x qual (Zbw st) (Za4 st) (Zab st) .none kV e j l g k) ⟨[a,b,c,d],[]⟩=pure ([p,q,r,s].zip [a,b,c,d])):Binds K fd [p,q,r,s] []:=F.binds λ_ _ _ _ _ _ m i=>by obtain ⟨_,_,_,_,rfl⟩:=ZmL i;exact h _ _ _ _ _ _ _ _ _ _
end
section
variable{X:Cx}{pins:List (Addr×Obj)}{σ:St}{H:Hp}{s:Shared}{h':Heap}{fp:ZZla}{t':Nat}
theorem Inv.multi(I:Inv X pins σ H s)(f:∀b∈fp,ZhP X pins H b)(k:∀c o,c∉fp->s.heap.get? c=some o->h'.get? c=some o):Inv X pins σ H { s with heap:=h',toks:=t' }:=by
 refine I.call (ch:=fp) ⟨λb o q n g e=>k b o e q,λb o q n g e=>⟨o.slots,k b o e q⟩,λb o q n e=>n,λb o q e=>⟨o,k b o e q⟩,λ_ _ q=>q,λ_ _ _ q=>q,λb h q=>⟨#[],by rw[q];simp⟩⟩ (λb u q=>?_) I.bare λb g=>?_
 ·refine (I.hok b u q).stay (λc v hc z=>k c v (λm=>?_) z) (λ_ z=>z) λ_ _ z=>z;rcases hc with rfl|hc
  ·rw[(f c m).1] at q;cases q
  ·rw[(f c m).1] at hc;cases hc
 ·obtain ⟨_,a,_,b,c,d⟩:=f b g;exact ⟨b,a,c,d⟩
theorem Inv.multiT{T:Addr}{xs:List V}{its:List Value}(I:Inv X pins σ H s)(h:∀b∈fp,ZhP X pins H b)(k:∀c o,c∉fp->s.heap.get? c=some o->h'.get? c=some o)(i:s.heap.objs.size<=T)(j:IsTup h' T its.toArray)(r:Vals xs its)(l:xs.length<=sizeLine) :
    Inv X pins σ (upd H T<|.tup xs) { s with heap:=h',toks:=t' }:=by
  have p:=I.hok.fresh i;have g:∀b u,H b=some u->b≠T:=λb u q z=>by subst z; rw[p] at q; cases q
  refine I.call (ch:=fp) ⟨λb o q n f e=>k b o e q,λb o q n f e=>⟨o.slots,k b o e q⟩,λb o q n e=>?_,λb o q e=>⟨o,k b o e q⟩,λb _ q=>by rw[Zaj<|g b _ q]; exact q,λb _ _ q=>by rw[Zaj<|g b _ q]; exact q,λb t q=>⟨#[],by rw[Zaj<|g b _ q,q]; simp⟩⟩ (λb u q=>?_) I.bare λb f=>?_
  · rw[Zaj<|Q8<|Q5 (Heap.lt_size q) i]; exact n
  · by_cases f:b=T
    · subst f
      rw[Zah] at q
      cases q
      exact ⟨l,its,r,j⟩
    · rw[Zaj f] at q
      refine (I.hok b u q).stay (λc v hc z=>k c v (λm=>?_) z) (λc z=>by rw[Zaj<|g c _ z]; exact z) λc _ z=>by rw[Zaj<|g c _ z]; exact z
      rcases hc with rfl | hc
      · rw[(h c m).1] at q; cases q
      · rw[(h c m).1] at hc; cases hc
  · obtain ⟨_,a,_,b,c,d⟩:=h b f
    exact ⟨b,a,c,d⟩
end
def Itz(K:ZZfg)(a b:Addr):It :=
  ⟨λi H=>∃d c x y,SqL K H a d/\SqL K H b c/\d[i]?=some x/\c[i]?=some y,
   λi H v e=>∃T,H T=none/\v = .ref T/\∃x y,(∀d,SqL K H a d->d[i]?=some x)/\(∀c,SqL K H b c->c[i]?=some y)/\e=upd H T (.tup [x,y]),
   λi H=>∃d c,SqL K H a d/\SqL K H b c/\(d.length<=i\/c.length<=i)⟩
theorem ZmM{P:Program}{w:World}{K:ZZfg}{J:List Expr}{k0}{a0:Pos}{a b z TI TO i1 i2:Addr}(D:ZipApart z TI TO i1 i2 a b) :
    Turn P w K (.Tuple J k0 a0) (Itz K a b) [z,TI,TO,i1,i2] z (λi h=>IsZip h z TI TO .none/\IsPair h TI (.ref i1) (.ref i2)/\(∃p q,IsPair h TO p q)/\h.IsListIter i1 a i/\h.IsListIter i2 b i) where
  mem:=by simp
  obj:=λi h ⟨j,d,⟨p,q,f⟩,⟨o1,S,_,d1⟩,⟨o2,W,_,d2⟩⟩ c g=>by
    simp only[Qe,Wc,or_false] at g
    rcases g with rfl | rfl | rfl | rfl | rfl
    · exact ⟨_,j,λv e=>nomatch (show Data.fields _=Data.cell v from e)⟩
    · exact ⟨_,d,λv e=>nomatch (show Data.seq _ _=Data.cell v from e)⟩
    · exact ⟨_,f,λv e=>nomatch (show Data.seq _ _=Data.cell v from e)⟩
    · exact ⟨o1,S,λv e=>by rw[d1] at e; cases e⟩
    · exact ⟨o2,W,λv e=>by rw[d2] at e; cases e⟩
  keep:=λi h U ⟨j,d,⟨p,q,f⟩,C,F⟩ k =>
    ⟨k z (by simp) _ j,k TI (by simp) _ d,⟨p,q,k TO (by simp) _ f⟩,C.at λo e=>k i1 (by simp) o e,F.at λo e=>k i2 (by simp) o e⟩
  item:=by
    intro X O Q hK g i n s σ H E I L ⟨j,d,⟨p,q,f⟩,C,F⟩ T;subst O Q hK;obtain ⟨xs,ys,x,y,l,m,hx,hy⟩:=T;obtain ⟨its,Z,pl,_⟩:=I.list l;obtain ⟨Y,A,r,_⟩:=I.list m;obtain ⟨u,hu,ru⟩:=Z.get hx;obtain ⟨v,hv,a8⟩:=A.get hy;refine wpAny_pyNext_zip_item D j d f C F pl.isList r.isList (x:=u) (y:=v) (by simpa using hu) (by simpa using hv) λU a1 a2 a3 a4 a5 a6 a7=>?_;refine ⟨_,rfl,wpAny_letOwnedTupleGo_zip (s:={ s with heap:=U }) a1 λG b1 B=>?_⟩;have kz:∀c o,c∉[z,TI,TO,i1,i2]->s.heap.get? c=some o->G.get? c=some o:=λc o g e=>by
      simp only[Qe,Wc,or_false,not_or] at g
      obtain ⟨M,n2,n3,n4,R⟩:=g;exact B.extBut _ _ M<|a7 c o M n3 n4 R e
    have N:s.heap.objs.size≠z:=Wi<|Heap.lt_size j;have t:=I.hok.fresh<|Q2 s.heap.objs.size;have I2:Inv X n σ (upd H s.heap.objs.size<|.tup [x,y]) { s with heap:=G }:=I.multiT (t':=s.toks) (its:=[u,v]) L kz (Q2 _) ⟨_,B.extBut _ _ N a5,rfl,_,rfl⟩ (.cons ru<|.cons a8 .nil) (by show 2<=sizeLine; decide);refine ⟨.ref s.heap.objs.size,_,I2,rfl,⟨_,t,rfl,x,y,λa9 e=>by rw[I.list_inj e l]; exact hx,λb0 e=>by rw[I.list_inj e m]; exact hy,rfl⟩,⟨b1,?_,⟨u,v,?_⟩,a3.extBut B.extBut D.i1z,a4.extBut B.extBut D.i2z⟩,λc g=>?_⟩
    · exact B.extBut _ _ D.TIz (a7 _ _ D.TIz D.TITO D.TIi1 D.TIi2 d)
    · exact B.extBut _ _ D.TOz a2
    · have lt:c<s.heap.objs.size:=by
        simp only[Qe,Wc,or_false] at g
        obtain ⟨_,S,_⟩:=id C;obtain ⟨_,W,_⟩:=id F;rcases g with rfl | rfl | rfl | rfl | rfl
        · exact Heap.lt_size j
        · exact Heap.lt_size d
        · exact Heap.lt_size f
        · exact Heap.lt_size S
        · exact Heap.lt_size W
      rw[Zaj<|Q8 lt];exact (L c g).1
  done:=by
    intro X O Q hK g i n s σ H E I L ⟨j,d,⟨p,q,f⟩,C,F⟩ T;subst O Q hK;obtain ⟨xs,ys,l,m,hx⟩:=T;obtain ⟨its,Z,pl,_⟩:=I.list l;obtain ⟨Y,A,r,_⟩:=I.list m;have l1:=Z.length;have l2:=A.length;refine wpAny_pyNext_zip_end (I.ok.hd g) D j d f C F pl.isList r.isList ?_ λU k=>⟨rfl,I.multi (t':=s.toks) L λc o g e=>?_⟩
    · rcases hx with hx | hx
      · left; simp; omega
      · right; simp; omega
    · simp only[Qe,Wc,or_false,not_or] at g
      obtain ⟨M,n2,n3,n4,R⟩:=g;exact k c o M n3 n4 R e
  self:=λ_ _ _ _ _ ⟨j,_⟩ h=>wpAny_pyIter_zip j h
section
variable{X:Cx}
inductive Zqt (K:ZZfg) (vs:List V) (H1:Hp) (R:It->Hp->Prop):Prop
 |mk (a b:Addr) (_:vs=[.ref a,.ref b]) (_:∃xs,SqL K H1 a xs) (_:∃ys,SqL K H1 b ys) (_:R (Itz K a b) H1):Zqt K vs H1 R
def Ztv(K:ZZfg)(b:TA):TI:=λa H R=>b a H λd c=>Zqt K d c R
theorem Zld{e1 e2:Expr}{r:List Expr}{k0}{j:Pos}{z:TA}{p g:Pos}(L:Gl X "zip") (M:X.mg "zip" = none) (D:PA X [e1,e2] z) (Q:starEach [e1,e2] X.env=[(false,eval e1 X.env),(false,eval e2 X.env)]:=by rfl) (i:starEach [e2] X.env=[(false,eval e2 X.env)]:=by rfl) :
    PI X (.Tuple r k0 j) (.Call (.Name "zip" p) [e1,e2] [] g) (Ztv X.K z):=by
  intro m s U H R I h;refine wpAny_Call_Name_kw<|ZdE I L M PyProof.Rows.Boot.«zip»<|PyProof.Rows.callWith_type1 (thn (D g m s U H _ I h) λus d ⟨vs,J,n,O,N⟩=>?_) (by rw[Q,i]) (by rw[i]; rfl);obtain ⟨a,b,e,⟨Z,x⟩,⟨Y,w⟩,q⟩:=N;subst e;obtain ⟨u,v,rfl,E,C⟩:=ZkD O
  cases (show u=Value.ref a from E)
  cases (show v=Value.ref b from C)
  obtain ⟨K,_,pl,_⟩:=n.list x;obtain ⟨W,_,f,_⟩:=n.list w;have S:a<d.heap.objs.size:=by obtain ⟨o,e,_⟩:=pl.isList; exact Heap.lt_size e
  have lb:b<d.heap.objs.size:=by obtain ⟨o,e,_⟩:=f.isList; exact Heap.lt_size e
  refine call_zip_2 pl.isList f.isList λP A t y T F G k=>?_;refine wpAny_pyIter_zip (s:={ d with heap:=P }) A ?_;refine ⟨_,[d.heap.objs.size+4,d.heap.objs.size+2,d.heap.objs.size+3,d.heap.objs.size,d.heap.objs.size+1],_,_,J,rfl,n.kept (t':=d.toks) k,ZmM<|zipApart_new S lb,⟨A,t,⟨_,_,y⟩,T,F⟩,λc B=>?_,q⟩;have l:d.heap.objs.size<=c:=by
    simp only[Qe,Wc,or_false] at B
    rcases B with rfl | rfl | rfl | rfl | rfl <;> omega
  exact n.fpOk l<|n.hok.fresh l
end
theorem ZoU{K:ZZfg}{a b:Addr}{xs ys:List V}{g:TG}{o:TS}{D:Ends}{c:St}{H:Hp}(d:Nat->St->Hp->Prop)(t:d 0 c H)(r:∀i c H,d i c H->SqL K H a xs/\SqL K H b ys)
    (z:∀i x y T c H,xs[i]?=some x->ys[i]?=some y->H T=none->d i c H->g (.ref T) c (upd H T<|.tup [x,y]) λf j=>o { D with nx:=d<|i+1,ct:=d<|i+1,bk:=D.nx } f j) (s:∀i c H,i=min xs.length ys.length->d i c H->D.nx c H) :
    ∃W:Nat->Nat->St->Hp->Prop,(∃m,W 0 m c H)/\∀i m c H,W i m c H →
      ((Itz K a b).stop i H/\D.nx c H)\/((Itz K a b).go i H/\∃N:St->Hp->Prop,(∀h e,N h e->∃n,n<m/\W (i+1) n h e)/\∀x e,(Itz K a b).yld i H x e->g x c e λf j=>o { D with nx:=N,ct:=N,bk:=D.nx } f j):=by
  refine ⟨λi m c H=>m=min xs.length ys.length-i/\i<=min xs.length ys.length/\d i c H,⟨_,rfl,Q6 _,t⟩,?_⟩;rintro i m c H ⟨rfl,F,p⟩;obtain ⟨l,k⟩:=r i c H p
  by_cases hlt:i<min xs.length ys.length
  · have q:i<xs.length:=⋯
    have A:i<ys.length:=⋯;refine .inr ⟨⟨xs,ys,xs[i],ys[i],l,k,by simp[q],by simp[A]⟩,d<|i+1,λh e C=>⟨min xs.length ys.length-(i+1),⋯,rfl,hlt,C⟩,λx e y=>?_⟩;obtain ⟨T,E,rfl,u,v,w,B,rfl⟩:=y;exact z i u v T c H (w xs l) (B ys k) E p
  · exact .inl ⟨⟨xs,ys,l,k,⋯⟩,s i c H ⋯ p⟩
section
variable{caps:List (Nat×Str)}{te:TE}
theorem ZoV{x y:V}{a:List (Option V)}:∀(i:Nat) v,((none:Option V)::none::a)[i]?=some (some v)->((some x)::(some y)::a)[i]?=some (some v)
 |0,v,h=>by simp at h
 |1,v,h=>by simp at h
 |i+2,v,h=>by simpa using h
end
theorem ZdG(n:Nat):(List.range n).all (λ_=>true)=true:=by simp
def Bits(n:Nat)(i:Int):Prop:=Builtin.Int.intBits i<=n
theorem Bits.lt{n:Nat}{i:Int}(h:Bits n i):i.natAbs<2^n:=by
 unfold Bits Builtin.Int.intBits at h
 by_cases h0:i=0
 ·subst h0;exact Ub (by simp)
 ·have:i.natAbs.log2+1<=n:=by simpa [h0] using h
  exact (Nat.log2_lt ⋯).mp ⋯
theorem Bits.of{n:Nat}{i:Int}(h:i.natAbs<2^n):Bits n i:=ZdI h
theorem Bits.mul{i j:Int}(h:Bits 2097152 i)(h':Bits 2097152 j):IntMulOk i j:=by
 have c:Builtin.Int.intBits i<=2097152:=h;have b:Builtin.Int.intBits j<=2097152:=h';have a:Builtin.Int.intTooBig (Builtin.Int.intBits i+Builtin.Int.intBits j)=false:=by
  unfold Builtin.Int.intTooBig;rw[bitsLine_eq];exact decide_eq_false ⋯
 unfold IntMulOk;rw[a]
 simp
section
variable{X:Cx}
theorem Zgi(K:ZZfg)(h:X.K=K):ZdZ X (.type "list") (λxs H Q=>∃p ys,xs=[.ref p]/\(SqL K H p ys\/SqT K H p ys)/\∀l,H l=none->Q (.ref l) (upd H l<|.lst ys)):=by subst h;exact ZeE
variable{o e:Expr}{es:List Expr}{m:Str}{apos pos:Pos}{ta:TE}{t:TA}{k:Nat}{E:St->XK}
end
theorem ZoW{X:Cx}{b:Pos}(K:ZZfg)(h:X.K=K){a:List Expr}{k:Nat}{t:TGs}{n:Nat}(f:X.calm=true)(e:PGs X a t)
    (d:(assignEach a X.env).length=n:=by rfl) (c:(assignEach a X.env).findIdx? (·.1)=none:=by rfl):PG X (.Tuple a k b) (ZnH K n t):=by subst h; exact ZfT f e d c
theorem Zle{caps:List (Nat×Str)}{k:TE}{K:ZZfg}{a b:Addr}{xs ys:List V}{n:St}{H:Hp}{QL:List V->Hp->Prop}(d:Nat->List V->Hp->Prop)(z:xs.length<=1000)(s:d 0 [] H)(q:∀i c H,d i c H->SqL K H a xs/\SqL K H b ys)
    (A:∀i x y T c H,xs[i]?=some x->ys[i]?=some y->c.length=i->H T=none->d i c H->k (some x::some y::caps.map λp=>(n[p.1]?).join) (upd H T<|.tup [x,y]) λv f=>d (i+1) (c++[v]) f)
    (r:∀c H,c.length=min xs.length ys.length->d (min xs.length ys.length) c H->QL c H) :
    Ze9 2 caps (ZnH K 2<|ZeM (Zcm 0)<|ZeM (Zcm 1) ZpV) k n (Itz K a b) H QL:=by
  have t:xs.length<sizeLine:=ZaR z;refine ⟨λi m c H=>m=min xs.length ys.length-i/\i<=min xs.length ys.length/\c.length=i/\d i c H,⟨_,rfl,Q6 _,rfl,s⟩,?_⟩;rintro i m c f ⟨rfl,G,g,p⟩;obtain ⟨j,h⟩:=q i c f p;refine ⟨⋯,?_⟩
  by_cases hlt:i<min xs.length ys.length
  · have o:i<xs.length:=⋯
    have B:i<ys.length:=⋯;refine .inr ⟨⟨xs,ys,xs[i],ys[i],j,h,by simp[o],by simp[B]⟩,⋯,λv l=>d (i+1) (c++[v]) l,λv l D=>⟨min xs.length ys.length-(i+1),⋯,rfl,hlt,by rw[Qc,g]; rfl,D⟩,λx F y=>?_⟩;obtain ⟨T,E,rfl,u,v,w,C,rfl⟩:=y;exact ⟨T,[u,v],rfl,SqT.of Zah,rfl,u,_,rfl,v,_,rfl,rfl,ZoV,A i u v T c f (w xs j) (C ys h) g E p⟩
  · have e:i=min xs.length ys.length:=⋯
    subst e;exact .inl ⟨⟨xs,ys,j,h,⋯⟩,r c f g p⟩
theorem ZoX:10^1000<2^4000:=by decide +kernel
theorem ZpW{i j:Int}(h:i.natAbs<=10^1000)(h':j.natAbs<=10^1000):IntMulOk i j :=
 .of_bits (Q1 (ZdI (n:=4000)<|Qq h ZoX) ∅) (Q1 (ZdI (n:=4000)<|Qq h' ZoX) ∅)
theorem ZmN{j:Int}(h:j.natAbs<=10^1000):j.natAbs.log2<9000:=by
 rcases Nat.eq_zero_or_pos j.natAbs with z|z
 ·rw[z];decide
 ·exact Ua ((Nat.log2_lt<|Wi z).mpr<|Qq h ZoX) ∅
section
variable{X:Cx}
theorem ZeU:OpR X (binaryOp .FloorDiv) (rI (λ_ j=>j≠0/\j.natAbs<=10^1000) λi j => .int<|i.fdiv j):=opI λ_ _ _ _ _ _ _ a q=>floordiv_int a.1 q<|.inl<|PyProof.noPylong_of_log2<|ZmN a.2
theorem ZeJ:∀ {a:List Int} {us:List Value},Vals (a.map V.int) us->IntsAre us a
 | [],_,.nil => .nil
 |_::_,_,.cons r t=>by obtain ⟨k,rfl⟩:=r;exact .cons _ _<|ZeJ t
theorem ZmO(n:X.calm=true):ZdZ X (.builtin "sum") (λxs H Q=>∃(p:Addr) (a:List Int),xs=[.ref p]/\SqL X.K H p (a.map V.int)/\Q (.int a.sum) H):=by
 intro f s w H xs x Q I r h;obtain ⟨p,a,rfl,m,q⟩:=h;obtain ⟨u,rfl,i⟩:=ZfJ r
 cases i
 obtain ⟨b,k,pl,t⟩:=I.list m;have c:=ZeJ k;obtain ⟨xs,e⟩:=c.allInts.items;have d:(numsOf b).sum=a.sum:=by rw[c.numsOf]
 have l:b=(intItems xs).toList:=by rw[<-e]
 rw[l,nums_intItems] at d;refine sum_intListG (xs:=xs) (I.ok.hd n) (by rw[<-e];exact pl.isList) λv o g j=>?_;rw[preSum_eq,List.take_of_length_le (by simp)];rw[d];exact ⟨.int a.sum,H,I.kept j,⟨g,rfl⟩,q⟩
end
theorem Zgj{a:Scope}{env:Env}{x:Str}(b:(relabel a env).names.lookup x=some .cell\/(relabel a env).names.lookup x=some .free):(x,NameKind.free)∈a.names\/(x,NameKind.cell)∈a.names:=by
 unfold relabel at b;have b:(a.names.map λ(n,k)=>if (k==NameKind.free&&env.scope.kind == .function&&env.kindOf n==some .cell) then (n,NameKind.cell) else (n,k)).lookup x=some .cell\/(a.names.map λ(n,k)=>if (k==NameKind.free&&env.scope.kind == .function&&env.kindOf n==some .cell) then (n,NameKind.cell) else (n,k)).lookup x=some .free:=b;generalize a.names=f at b
 induction f with
 |nil=>simp at b
 |cons p r g =>
  obtain ⟨n,k⟩:=p;rw[W9] at b
  by_cases hn:x=n
  ·subst hn
   by_cases hk:k=NameKind.free
   ·subst hk;exact .inl Qm
   ·have d:(k==NameKind.free)=false:=by simpa using hk
    simp only[d,Bool.false_and,Bool.false_eq_true,if_false,Qr,beq_self_eq_true,Option.some.injEq] at b
    rcases b with e|e
    ·rw[e];exact .inr Qm
    ·exact absurd e hk
  ·have d:(x==n)=false:=beq_eq_false_iff_ne.mpr hn;have c:List.lookup x ((if (k==NameKind.free&&env.scope.kind == .function&&env.kindOf n==some .cell)=true then (n,NameKind.cell) else (n,k))::List.map (λ(p:Str×NameKind)=>match p with|(n,k)=>if (k==NameKind.free&&env.scope.kind == .function&&env.kindOf n==some .cell)=true then (n,NameKind.cell) else (n,k)) r)=some .cell\/List.lookup x ((if (k==NameKind.free&&env.scope.kind == .function&&env.kindOf n==some .cell)=true then (n,NameKind.cell) else (n,k))::List.map (λ(p:Str×NameKind)=>match p with|(n,k)=>if (k==NameKind.free&&env.scope.kind == .function&&env.kindOf n==some .cell)=true then (n,NameKind.cell) else (n,k)) r)=some .free:=b;have:=g (by split at c <;> (simp only[Qr,d] at c;exact c));rcases this with h|h
   ·exact .inl (Qy _ h)
   ·exact .inr (Qy _ h)
def Zbk(X:Cx)(b:Str)(a:Scope)(N:List Str)(s₀:Shared)(H₀:Hp)(C:Addr)(c:ZZla):Cx where
 prog:=X.prog
 w:=X.w
 K:=X.K
 mg:=X.mg
 base:=X.base
 A:=X.A
 N:=N
 s₀:=s₀
 H₀:=H₀
 env:=compEnvC a ((b,C+1)::ZfL X.env.cells a.names []) C X.env
 outer:=X.stack
 stack:=X.stack
 ex:=c
 fn:=λx=>x==b
 calm:=X.calm
 pn:=[]
 xe:=λ_ _=>False
theorem Zh7{a x:Str}{n c:Addr}{b:List (Str×Addr)}(h:((a,n)::b).lookup x=some c):(x=a/\c=n)\/(x≠a/\b.lookup x=some c):=by
 by_cases hx:x=a
 ·subst hx
  simp only[Qr,beq_self_eq_true,Option.some.injEq] at h
  exact .inl ⟨rfl,h.symm⟩
 ·have d:(x==a)=false:=beq_eq_false_iff_ne.mpr hx
  simp only[Qr,d] at h
  exact .inr ⟨hx,h⟩
structure OneCell (scope:Scope) (x0:Str):Prop where
 one:∀y∈scope.names,y.2 = .cell->y.1=x0
 lk:scope.names.lookup x0=some .cell
 cf:∀n acc,cellsFrom n scope.names acc=(x0,n)::acc
 pc:∀h,pushCells h scope.names=h.push { cls:=.type "cell", data:=.cell none }
theorem ZoY{prog:Program}{w:World}{A:Around}{E:Value->Shared->Prop}{s:Shared}{scope:Scope}{c:Str}{globals:Addr}{a:List (Str×Addr)}{qual:Str}{env:Env}{Q:Env->Shared->Prop}(O:OneCell scope c)
    (e:Q { scope,locals:=s.heap.objs.size,globals,cells:=(c,s.heap.objs.size+1)::a,qual,func:=none,code:=env.code,frame:=env.frame,builtins:=env.builtins } { s with heap:=(s.heap.push { cls:=.type "dict", data:=.dict #[] }).push { cls:=.type "cell", data:=.cell none } }) :
    wpAny (model prog w) A (newFunctionEnv scope globals a [] qual none .none<|some env) Q E s:=by
  simp only[newFunctionEnv,Option.isSome_some,if_true]
  refine wpAny_bind<|wpAny_alloc ?_;refine wpAny_bind<|wpAny_layCells _ (λd b cells=>by cases hkc:b==NameKind.cell <;> simp[hkc]) _ _ _ _ ?_;rw[O.cf,O.pc,Heap.size_push];refine wpAny_bind ?_;rw[List.forIn_nil];exact wpAny_pure<|wpAny_pure e
section
variable{X:Cx}{tg iter elt:Expr}{scope:Scope}{pos:Pos}{wi:TI}{g:TG}{te:TE}{own:List Str}{caps:List (Nat×Str)}{x0:Str}
theorem ZjW{j:List (Addr×Obj)}{G:St}{H:Hp}{s:Shared}{t:ZZla}{C:Addr}{N:List Str}(I:Inv X j G H s)(k:scope.kind = .function)(O:OneCell scope x0)
    (l:∀y,(y,NameKind.free)∈scope.names->∃c,X.env.cells.lookup y=some c) (m:s.heap.objs.size<=C) (r:∀b∈t,ZhP X j H b) (q:∀b∈t,b<s.heap.objs.size):(Zbk X x0 scope N s H C t).Ok:=by
  have f:∀x c,(ZfL X.env.cells scope.names []).lookup x=some c->X.env.cells.lookup x=some c:=λx c e=>Zdt scope.names [] (λp D=>(nomatch D)) (x,c)<|PySem.mem_of_lookup e;have n:∀x c,X.env.cells.lookup x=some c->c<s.heap.objs.size:=λx c e=>by
    obtain ⟨v,o,B,_⟩:=I.cell x c e;exact Heap.lt_size B
  refine ⟨I.ok.mod,k,I.ok.glob,I.ok.blt,m,λx y c J E=>?_,λx u=>?_,λx c u h=>?_,I.ok.hd,I.ok.frames,.inl rfl,λb i=>⟨?_,λx c e=>?_⟩,I.bs,Q1 I.ok.bsz I.sz,λb o e i=>?_,λb i z=>?_,I.stack,I.stkFree⟩
  · rcases Zh7 J with ⟨a1,a2⟩ | ⟨_,a⟩ <;> rcases Zh7 E with ⟨b1,b2⟩ | ⟨_,b⟩
    · rw[a1,b1]
    · have:=n y c<|f y c b; rw[a2] at this; exact absurd this<|U1.mpr<|Uc m
    · have:=n x c<|f x c a; rw[b2] at this; exact absurd this<|U1.mpr<|Uc m
    · exact I.ok.inj x y c (f x c a) (f y c b)
  · by_cases h0:x=x0
    · exact ⟨C+1,by subst h0; show List.lookup x ((x,C+1)::_)=_; simp[Qr]⟩
    · rcases Zgj u with h | h
      · obtain ⟨c,K⟩:=Zdu scope.names [] h<|l x h
        obtain ⟨d,F⟩:=Zbg K;have i:(x==x0)=false:=beq_eq_false_iff_ne.mpr h0;exact ⟨d,by show List.lookup x ((x0,C+1)::_)=_; simp only[Qr,i]; exact F⟩
      · exact absurd (O.one _ h rfl) h0
  · have w:x=x0:=by simpa [Zbk] using u
    rcases Zh7 h with ⟨_,a⟩ | ⟨a,_⟩
    · show s.heap.objs.size<=c; rw[a]; exact Uc m
    · exact absurd w a
  · exact Q8 (Q5 (q b i) m)
  · rcases Zh7 e with ⟨_,a⟩ | ⟨_,a⟩
    · rw[a]; exact λz=>by
        have A:=q b i;rw[<-z] at A;exact absurd A<|U1.mpr<|Uc m
    · exact (r b i).2.2.2.2.1 x c (f x c a)
  · rcases (r b i).2.2.2.1 with z | z
    · exact I.ok.noex b o e z
    · exact absurd (Q5 (Heap.lt_size e)<|Q1 I.ok.bsz z) (Qf _)
  · rcases Qe.mp (I.stkSub b z) with e | e
    · exact (r b i).2.1 e
    · exact (r b i).2.2.1 e
theorem ZfZ{R:List (Addr×Obj)}{σ:St}{H:Hp}{s:Shared}{B:ZZla}{it:Addr}{tn:Nat->Heap->Prop}{J:It}{E:Value->Shared->Prop}{RR:Value->Addr->Result->Shared->Prop}{QL:List V->Hp->Prop}
    (I:Inv X R σ H s) (hc:X.calm=true) (T:Turn X.prog X.w X.K tg J B it tn) (st:tn 0 s.heap) (hf:∀b∈B,ZhP X R H b)
    (b1:scope.kind = .function) (O:OneCell scope x0) (a9:∀y,(y,NameKind.free)∈scope.names->∃c,X.env.cells.lookup y=some c) (b5:CapsOk X scope caps)
    (hg:∀S N C,PG (Zbk X x0 scope (own++caps.map (·.2)) S N C B) tg g) (he:∀S N C,PE (Zbk X x0 scope (own++caps.map (·.2)) S N C B) elt te)
    (hB:Ze9 own.length caps g te σ J H QL)
    (d1:∀D C M m ys t,s.heap.objs.size<=C->D≠C->M.heap.Ns C m->Inv X R σ (upd t D<|.lst ys) M->t D=none->t C=none->QL ys t->RR (.ref D) C (.ok .next) M) :
    wpAny (model X.prog X.w) X.A (newList []) (λc7 w=>wpAny (model X.prog X.w) X.A (newFunctionEnv scope X.env.globals (ZfL X.env.cells scope.names []) [] X.env.qual none .none<|some X.env) (λa7 b9 =>
      codeAny (model X.prog X.w) X.A (.compStart (.ListComp elt [⟨tg,iter,[],0⟩] scope pos) 0 (.ref it) c7 { a7 with scope:=relabel scope X.env }) (RR c7 a7.locals) b9) E w) E s:=by
  refine wpAny_newObj_type<|ZoY O ?_;generalize hH2:s.heap.push { cls:=.type "list", dict:=none,data:=.seq ([]:List Value).toArray }=P;have hC:P.objs.size=s.heap.objs.size+1:=by rw[<-hH2,Heap.size_push]
  generalize hCC:P.objs.size=C at *;have F:s.heap.objs.size<=C:=by rw[hC]; exact U9 _
  generalize hDD:s.heap.objs.size=D at *;have b2:D≠C:=by rw[hC]; exact Q8<|Wp _
  have h:∀b,b<D->b≠C/\b≠D:=λb a=>⟨by rw[hC]; exact Q8<|Um a,Q8 a⟩;have G:∀ {b o},s.heap.get? b=some o->b<D:=fun {b o} e=>by rw[<-hDD]; exact Heap.lt_size e
  have s1:(P.push { cls:=.type "dict", data:=.dict #[] }).objs.size=C+1:=by rw[Heap.size_push,hCC]
  have a4:∀b o,P.get? b=some o->((P.push { cls:=.type "dict", data:=.dict #[] }).push { cls:=.type "cell", data:=.cell none }).get? b=some o:=λb o e=>Heap.get?_push_of_some _<|Heap.get?_push_of_some _ e;have A:∀b o,s.heap.get? b=some o->((P.push { cls:=.type "dict", data:=.dict #[] }).push { cls:=.type "cell", data:=.cell none }).get? b=some o:=λb o e=>a4 b o<|hH2 ▸ Heap.get?_push_of_some _ e;have c6:((P.push { cls:=.type "dict", data:=.dict #[] }).push { cls:=.type "cell", data:=.cell none }).get? D=some { cls:=.type "list", data:=.seq ([]:List Value).toArray 0 }:=a4 _ _<|hH2 ▸ (hDD ▸ Heap.get?_push_size _ rfl);have a2:((P.push { cls:=.type "dict", data:=.dict #[] }).push { cls:=.type "cell", data:=.cell none }).Ns C (λ_=>none):=by rw[<-hCC]; exact (Heap.Ns.new P _).push _
  have d4:((P.push { cls:=.type "dict", data:=.dict #[] }).push { cls:=.type "cell", data:=.cell none }).get? (C+1)=some { cls:=.type "cell", data:=.cell none }:=by rw[<-s1]; exact Heap.get?_push_size _ rfl
  generalize (P.push { cls:=.type "dict", data:=.dict #[] }).push { cls:=.type "cell", data:=.cell none }=L at *;have a3:∀b∈B,b<D:=λb a=>let ⟨o,e,_⟩:=T.obj 0 _ st b a; G e;have c9:∀b,D<=b->s.heap.get? b=none:=λb a=>by
    cases e:s.heap.get? b with
    | none=>rfl
    | some o=>exact absurd (G e)<|U1.mpr a
  have nH:∀b,D<=b->H b=none:=λb a=>I.hok.fresh (by rw[hDD]; exact a)
  let Y:Cx:=Zbk X x0 scope (own++caps.map (·.2)) s H C B
  have Z:Y.Ok:=ZjW I b1 O a9 (by rw[hDD]; exact F) hf (by rw[hDD]; exact a3);have a1:∀x c,(ZfL X.env.cells scope.names []).lookup x=some c->X.env.cells.lookup x=some c:=λx c e=>Zdt scope.names [] (λp j=>(nomatch j)) (x,c)<|PySem.mem_of_lookup e;have a0:∀x c,X.env.cells.lookup x=some c->c<D:=λx c e=>by
    obtain ⟨v,o,ho,_⟩:=I.cell x c e;exact G ho
  have b3:∀b∈frs X.stack,b<D:=λb a=>by
    rcases Qe.mp (I.stkSub b a) with e | e
    · rw[e,<-hDD]; exact I.lt
    · obtain ⟨_,o,ho,_⟩:=I.funs.mem e
      exact G ho
  have I0:Inv Y [] (st0 own.length caps σ) H { s with heap:=L }:=by
    refine ⟨Z,rfl,I.bare,Un.kept A,⟨_,a2,λi x v h1 h2 h3=>?_⟩,λx c e=>?_,nH C F,λx c e=>?_,λp j=>?_,I.hok.kept A,?_⟩
    · obtain ⟨U,p,j,hv⟩:=Zh1 h2
      have c5:caps[i-own.length]?.map (·.2)=some x:=by
        have:(own++caps.map (·.2))[i]?=some x:=h1;rw[Wa U,Q4] at this;exact this
      rw[j] at c5
      cases c5
      obtain ⟨q1,q2,q3⟩:=b5.mem p<|Qp j;obtain ⟨m,hn,hl⟩:=I.loc;obtain ⟨u,r,l⟩:=hl p.1 p.2 v q1 hv (by rcases q3 with z | z; exact .inr<|.inl z; exact .inr<|.inr z);refine ⟨u,r,.inr ⟨Zdb q2,?_⟩⟩;rcases l with ⟨z,_⟩ | ⟨_,c,hc',z⟩
      · rcases q3 with y | y <;> (rw[y] at z; cases z)
      · have hm:(p.2,NameKind.free)∈scope.names:=PySem.mem_of_lookup q2
        obtain ⟨d,hd⟩:=Zdu scope.names [] hm ⟨c,hc'⟩;obtain ⟨d',c2⟩:=Zbg hd;have e:=a1 _ _ c2;rw[hc'] at e
        cases e
        obtain ⟨oc,ho,e3⟩:=z;have d9:(p.2==x0)=false:=beq_eq_false_iff_ne.mpr λz=>by rw[z,O.lk] at q2; cases q2
        exact ⟨c,by show List.lookup p.2 ((x0,C+1)::_)=_; simp only[Qr,d9]; exact c2,oc,A _ _ ho,e3⟩
    · rcases Zh7 e with ⟨_,z⟩ | ⟨_,z⟩
      · exact ⟨none,_,by rw[z]; exact d4,rfl⟩
      · obtain ⟨v,o,ho,hd⟩:=I.cell x c<|a1 x c z
        exact ⟨v,o,A _ _ ho,hd⟩
    · rcases Zh7 e with ⟨_,z⟩ | ⟨_,z⟩
      · rw[z]; exact nH _ ⋯
      · exact I.freeC x c (a1 x c z)
    · exact absurd (show p∈([]:List (Addr×Obj)) from j) (by simp)
    · rw[Zh0]
      show _=(own++caps.map (·.2)).length;rw[Qc,Q0]
  have a5:∀ {f:List Value} {n:Nat} {a8:St} {t:Hp} {M:Shared},Inv Y [] a8 t M->t D=none->M.heap.get? D=some { cls:=.type "list", data:=.seq f.toArray n }->Inv Y [(D,{ cls:=.type "list", data:=.seq f.toArray n })] a8 t M:=fun {f n a8 t M} J hn e =>
    J.pins_of λp j=>by
      have ep:p=(D,{ cls:=.type "list", data:=.seq f.toArray n }):=Qh.mp j;subst ep;refine ⟨e,hn,b2,λz=>?_,λv z=>by cases z⟩;exact absurd (b3 D z)<|Qf _
  obtain ⟨W,⟨m0,w0⟩,Q⟩:=hB;have c1:∀ {t:Hp} {pins':List (Addr×Obj)},(∀b∈B,t b=none)->(∀p∈pins',∀b∈B,p.1≠b)->∀b∈B,ZhP Y pins' t b:=fun {t pins'} hn j b a =>
    ⟨hn b a,(Z.exf b a).1,Z.exfs b a,.inl a,(Z.exf b a).2,λp q=>j p (by simpa [Y,Zbk] using q) b a⟩
  have a6:∀w:Shared,w={ s with heap:=L } →
      codeAny (model X.prog X.w) X.A (.compLoop (.ListComp elt [⟨tg,iter,[],0⟩] scope pos) 0 (.ref it) (.ref D)<|compEnvC scope ((x0,C+1)::ZfL X.env.cells scope.names []) C X.env) (RR (.ref D) C) w:=by
    rintro w rfl;refine ZeH (λk M=>∃(i:Nat) (ys:List V) (f:List Value) (n:Nat) (t:Hp),Inv Y [(D,{ cls:=.type "list", data:=.seq f.toArray n })] (st0 own.length caps σ) t M/\tn i M.heap/\(∀b∈B,t b=none)/\Vals ys f/\W i k ys t) ?_ m0
      ⟨0,[],[],0,H,a5 I0 (nH D<|Q2 _) c6,T.keep _ _ _ st λb _ o e=>A b o e,λb a=>(hf b a).1,.nil,w0⟩
    rintro k s3 ⟨i,ys,f,n,H3,I3,c8,e1,rv,w3⟩;obtain ⟨pD,nD,_⟩:=I3.pin (D,{ cls:=.type "list", data:=.seq f.toArray n })<|Qb _ Qm;have ff:=c1 (pins':=[(D,{ cls:=.type "list", data:=.seq f.toArray n })]) e1 (λp j b a=>by
      rw[Qh.mp j]; exact (Ne.symm (h b<|a3 b a).2))
    obtain ⟨b6,Q⟩:=Q i k ys H3 w3;rcases Q with ⟨stop,q⟩ | ⟨go,hsz',NN,hNN,step⟩
    · refine thn (T.done Y rfl rfl rfl hc i _ s3 _ H3 _ I3 ff c8 stop) λr s4 ⟨hr,I4⟩=>?_
      subst hr;obtain ⟨m4,e2,_⟩:=I4.loc;obtain ⟨e5,b8,_⟩:=I4.pin (D,{ cls:=.type "list", data:=.seq f.toArray n })<|Qb _ Qm;refine d1 D C s4 m4 ys H3 F b2 e2 ?_ b8 I4.free q;have U:=I4.base;have b4:HOk X.prog X.w H3 s4.heap:=I4.hok;have K:∀b u,H3 b=some u->b≠D:=λb u e z=>by rw[z,b8] at e; cases e
      refine I.call' (ch:=B) I4.os ⟨λb o e n a hx=>U.keep b o e n a hx,λb o e n a hx=>U.slot b o e n a hx,λb o e n hx=>?_,λb o e hx=>U.there b o e hx,λb xs e=>?_,λb o u e=>?_,λb ps e=>?_⟩ ?_ I4.bare ?_
      · rw[Zaj (h b<|G e).2]; exact U.free b o e n hx
      · have:=U.tups b xs e
        rw[Zaj<|K b _ this]; exact this
      · have:=U.frzs b o u e
        rw[Zaj<|K b _ this]; exact this
      · obtain ⟨c0,e'⟩:=U.tbls b ps e
        exact ⟨c0,by rw[Zaj<|K b _ e']; exact e'⟩
      · intro b u e
        by_cases a:b=D
        · subst a
          rw[Zah] at e
          cases e
          exact ⟨b6,f,n,rv,e5⟩
        · rw[Zaj a] at e
          exact (b4 b u e).stay (λc v _ q=>q) (λc q=>by rw[Zaj<|K c _ q]; exact q) λc xs q=>by rw[Zaj<|K c _ q]; exact q
      · intro b a
        obtain ⟨_,f1,_,f3,f4,f5⟩:=hf b a;exact ⟨f3,f1,f4,f5⟩
    · refine thn (T.item Y rfl rfl rfl hc i _ s3 _ H3 _ I3 ff c8 go) λr s4 ⟨u,hr,h4⟩=>?_
      subst hr;refine thn h4 λ_ s5 ⟨x,H5,I5,r5,y5,b0,d8⟩=>?_;have d2:=c1 (pins':=[(D,{ cls:=.type "list", data:=.seq f.toArray n })]) d8 (λp j b a=>by
        rw[Qh.mp j]; exact (Ne.symm (h b<|a3 b a).2))
      have d5:=I5.pinned d2<|T.obj _ _ b0;refine thn (hg s H C _ s5 _ H5 x u _ d5 r5<|step x H5 y5) λ_ s6 ⟨c3,H6,I6,wk,q6⟩=>?_;refine thn (he s H C _ s6 c3 H6 _ I6 q6) λy s7 ⟨v,H7,I7,r7,n7⟩=>?_;obtain ⟨m',hm,w7⟩:=hNN v H7 n7;obtain ⟨e4,c4,_,_,_⟩:=I7.pin (D,{ cls:=.type "list", data:=.seq f.toArray n })<|Qb _<|Wn _ Qm;refine append_at (n:=n) e4 (λh' b7 d3=>?_) (by rw[Qd,<-rv.length]; exact b6);have d7:tn (i+1) s7.heap:=T.keep _ _ _ b0 λb a o e=>(I7.pin (b,o)<|Qb _<|Qb _<|Za7 a e).1;have e0:∀b∈B,H7 b=none:=λb a=>by
        obtain ⟨o,e,d⟩:=T.obj _ _ b0 b a;exact (I7.pin (b,o)<|Qb _<|Qb _<|Za7 a e).2.1
      have I8:Inv Y [] c3 H7 s7:=I7.pins_of λp j=>(nomatch j);have I9:Inv Y [] (st0 own.length caps σ) H7 s7:=I8.weak (by rw[I0.len,I8.len]) wk;have d0:Inv Y [] (st0 own.length caps σ) H7 { s7 with heap:=h' }:=I9.turned (t':=s7.toks) (it:=D) (λb o a e=>b7.extBut b o a e) c4 b2 (.inr<|U0 hDD) (λx c e=>by
        rcases Zh7 e with ⟨_,z⟩ | ⟨_,z⟩
        · rw[z,hC]; exact Wi<|Um<|Wp _
        · exact Q8 (a0 x c<|a1 x c z))<|λp j=>absurd (show p∈([]:List (Addr×Obj)) from j) (by simp)
      refine ⟨m',hm,i+1,ys++[v],f++[y],n+1,H7,a5 d0 c4 ?_,?_,e0,rv.append<|.cons r7 .nil,w7⟩
      · rw[d3,List.push_toArray]
      · exact T.keep _ _ _ d7 λb a o e=>b7.extBut b o (h b<|a3 b a).2 e
  have d6:tn 0 L:=T.keep _ _ _ st λb _ o e=>A b o e;exact codeAny_compStart_list (a6 _ rfl)<|T.self _ 0 _ _ _ d6<|a6 _ rfl
theorem ZmP(x0:Str)(own:List Str)(caps:List (Nat×Str))(hc:X.calm=true)(N:PI X tg iter wi)(U:∀n i d C,PG (Zbk X x0 scope (own++caps.map (·.2)) i d C n) tg g)(he:∀n i d C,PE (Zbk X x0 scope (own++caps.map (·.2)) i d C n) elt te)
    (r:CapsOk X scope caps) (O:OneCell scope x0)
    (E:(scope.names.all λy=>!(y.2==NameKind.free)||(X.env.cells.lookup y.1).isSome)=true:=by rfl)
    (f:scope.kind = .function:=by rfl)
    (j:∀y∈scope.names,y.2 = .local->scope.names.lookup y.1=some .local:=by decide +kernel) (hs:∀x,foldedSetIterable iter X.env x=pure x:=by intro _; rfl) :
    PE X (.ListComp elt [⟨tg,iter,[],0⟩] scope pos) (ZhZ own.length caps wi g te):=by
  intro k s G H Q I h;have a:=Zd2 E;have l:=ZcC a;rw[eval_ListComp];refine wpAny_comprehension_free (use:=none) rfl hs l f j<|thn (N k s G H _ I h) λv s1 Z=>thn Z λS s2 h2=>?_;obtain ⟨it,n,tn,J,H2,e,t,T,w,f2,hB⟩:=h2;subst e;refine ZfZ (RR:=λF C=>compPost (model X.prog X.w) X.A X.xe none (EP X k G Q) F C) t hc T w f2 f O a r (U n) (he n) hB ?_;intro D C s' m L R u B P Y nD W q;refine ⟨m,P,λh' A=>⟨.ref D,upd R D<|.lst L,?_,rfl,q D nD⟩⟩;exact Y.turned (t':=s'.toks) (it:=C) (λb o hb e=>A.extBut b o hb e) (by rw[Zaj<|Ne.symm B]; exact W) (Ne.symm<|Q8<|Q5 t.lt u) (.inr<|Q1 t.sz u)
    (λx c e z=>by
      obtain ⟨v,o,K,_⟩:=t.cell x c e;rw[z] at K;exact absurd (Q5 (Heap.lt_size K) u)<|Qf _)
    (λp M z=>by
      have:=(t.pin p M).1;rw[z] at this;exact absurd (Q5 (Heap.lt_size this) u)<|Qf _)
end
@[irreducible] def PEI (X:Cx) (e:Expr) (t:TE):Prop:=PE X e t
@[irreducible] def PSI (X:Cx) (st:Stmt) (t:TS):Prop:=PS X st t
@[irreducible] def PSsI (X:Cx) (st:List Stmt) (t:TS):Prop:=PSs X st t
theorem Zf0:∀ {bs:List Bool} {us:List Value},Vals (bs.map V.bl) us->us=bs.map Value.bool
 | [],_,.nil=>rfl
 |_::_,_,.cons r t=>by rw[show _=Value.bool _ from r,Zf0 t];rfl
theorem Zlf(bs:List Bool):(List.range bs.length).all (λi=>bs.getD i true)=bs.all id:=by
 rw[U8,Ul,Ul]
 constructor
 ·intro h b c;obtain ⟨i,a,rfl⟩:=List.getElem_of_mem c;have:=h i<|W3.mpr a
  rwa [Q3,Q7 a] at this
 ·intro h i a;have a:=W3.mp a;rw[Q3,Q7 a];exact h _<|Wl a
section
variable{X:Cx}
theorem ZmQ(x:X.calm=true):ZdZ X (.builtin "all") (λxs H Q=>∃(p:Addr) (bs:List Bool),xs=[.ref p]/\SqL X.K H p (bs.map V.bl)/\Q (.bl<|bs.all id) H):=by
 intro d s K H xs D Q I r h;obtain ⟨p,bs,rfl,t,q⟩:=h;obtain ⟨u,rfl,g⟩:=ZfJ r
 cases g
 obtain ⟨n,l,pl,F⟩:=I.list t;obtain rfl:=Zf0 l;have m:X.A.in1.handled=none:=I.ok.hd x;refine call_all_walk<|PySem.Flt.iter_list_ pl.isList λJ e w B k=>?_;subst e;refine ⟨_,_,_,_,_,_,λi=>bs.getD i true,rfl,Walks.list m _ _ k _,w,?_,λG A j=>?_⟩
 ·intro i v y E C f c;have e:v = .bool (bs.getD i true):=by
   have:(bs.map Value.bool)[i]?=some v:=by simpa using f
   rw[Q4] at this
   cases e:bs[i]? with
   |none=>rw[e] at this;cases this
   |some b=>rw[e] at this;cases this;rw[Q3,e];rfl
  rw[e];exact wpAny_truthy_bool c
 ·have e:(bs.map Value.bool).toArray.size=bs.length:=by simp
  rw[e,Zlf];refine ⟨.bl<|bs.all id,H,I.kept λb o a=>?_,rfl,q⟩;refine j b o ?_<|Heap.get?_push_of_some _ a;intro z;rw[Qh.mp z] at a;exact absurd (Heap.lt_size a)<|Qf _
end
def Fl(H:Hp)(x:V)(d:PyData):Prop:=(x = .non/\d = .none)\/(∃b,x = .bl b/\d = .bool b)\/(∃i,x = .int i/\d = .int i)\/(∃y,x = .str y/\d = .str y)\/(∃a,x = .ref a/\d = .dict []/\H a=some (.dK []))
def Rp(H:Hp):Nat->V->PyData->Prop
  | 0,x,d=>Fl H x d
  | n+1,x,d=>Fl H x d\/(∃a b c,x = .ref a/\d = .list c/\H a=some (.lst b)/\b.length=c.length/\∀(i:Nat) u e,b[i]?=some u->c[i]?=some e->Rp H n u e) ∨
      (∃a b c,x = .ref a/\d = .tuple c/\H a=some (.tup b)/\b.length=c.length/\∀(i:Nat) u e,b[i]?=some u->c[i]?=some e->Rp H n u e)
theorem Fl.same{H b:Hp}{x:V}{d:PyData}(h:Fl H x d)(S:Same H b):Fl b x d:=by
 rcases h with h|h|h|h|⟨a,e1,e2,h⟩
 ·exact .inl h
 ·exact .inr (.inl h)
 ·exact .inr (.inr<|.inl h)
 ·exact .inr (.inr<|.inr<|.inl h)
 ·exact .inr (.inr<|.inr<|.inr ⟨a,e1,e2,S _ _ h⟩)
theorem Rp.same{H c:Hp}(S:Same H c):∀ {n:Nat} {x:V} {d:PyData},Rp H n x d->Rp c n x d
 |0,_,_,h=>Fl.same h S
 |n+1,x,d,h=>by
  rcases h with h|⟨a,xs,ds,e1,e2,h,l,r⟩|⟨a,xs,ds,e1,e2,h,l,r⟩
  ·exact .inl (Fl.same h S)
  ·exact .inr (.inl ⟨a,xs,ds,e1,e2,S _ _ h,l,λi u e a b=>Rp.same S<|r i u e a b⟩)
  ·exact .inr (.inr ⟨a,xs,ds,e1,e2,S _ _ h,l,λi u e a b=>Rp.same S<|r i u e a b⟩)
theorem Rp.up{H:Hp}:∀ {n:Nat} {x:V} {d:PyData},Rp H n x d->Rp H (n+1) x d
 |0,_,_,h => .inl h
 |n+1,x,d,h=>by
  rcases h with h|⟨a,xs,ds,e1,e2,h,l,r⟩|⟨a,xs,ds,e1,e2,h,l,r⟩
  ·exact .inl h
  ·exact .inr (.inl ⟨a,xs,ds,e1,e2,h,l,λi u e a b=>Rp.up<|r i u e a b⟩)
  ·exact .inr (.inr ⟨a,xs,ds,e1,e2,h,l,λi u e a b=>Rp.up<|r i u e a b⟩)
theorem Rp.mono{H:Hp}{x:V}{d:PyData}{n m:Nat}(h:Rp H n x d)(l:n<=m):Rp H m x d:=by
  induction m with
  | zero => obtain rfl:n = 0:=⋯
            exact h
  | succ m a =>
    by_cases e:n=m+1
    · subst e; exact h
    · exact (a ⋯).up
section
variable{X:Cx}{pins:List (Addr×Obj)}{σ:St}{H:Hp}{s:Shared}
theorem Zqu(I:Inv X pins σ H s){a:Addr}(h:H a=some (.dK [])):(a==sysModules)=false/\s.heap.DictOf (ZaS X.prog X.w) a []:=by
 obtain ⟨_,z,c,b,p⟩:=(show ObjOk X.prog X.w H s.heap a (.dK []) from I.hok a _ h)
 cases b
 exact ⟨z,p⟩
theorem ZeV{P n:Program}{w g:World}{h:Heap}{a:Addr}(d:h.DictOf (ZaS P w) a []):h.DictOf (ZaS n g) a []:=by
  obtain ⟨o,c,m,l,j,k,p,b,i⟩:=d;refine ⟨o,c,m,l,j,k,?_,?_,i⟩
  · have:c.toList=[]:=by cases q:c.toList with
      | nil=>rfl
      | cons x r=>rw[q] at b; cases b
    intro e f;rw[Array.mem_def,this] at f
    cases f
  · cases q:c.toList with
    | nil=>exact .nil
    | cons x r=>rw[q] at b; cases b
theorem Fl.rc{A:Around}{x y:V}{v u:Value}{d:PyData}(I:Inv X pins σ H s)(m:A.units<cLine)(t:Fl H x d)(p:Fl H y d)(f:RelV x v)(g:RelV y u):SeqAt.RcAt A s v u true/\SeqAt.RcNeAt A s v u false:=by
 rcases t with ⟨rfl,rfl⟩|⟨b,rfl,rfl⟩|⟨i,rfl,rfl⟩|⟨z,rfl,rfl⟩|⟨a,rfl,rfl,ha⟩ <;> rcases p with ⟨rfl,e⟩|⟨b',rfl,e⟩|⟨i',rfl,e⟩|⟨z',rfl,e⟩|⟨a',rfl,e,ha'⟩ <;> cases e
 ·cases f;cases g;exact ⟨SeqAt.RcAt.none_none,SeqAt.RcNeAt.none_none⟩
 ·cases f;cases g
  exact ⟨by have:=SeqAt.RcAt.bool_bool (A:=A) (s:=s) b b;simpa using this,by have:=SeqAt.RcNeAt.bool_bool (A:=A) (s:=s) b b;simpa using this⟩
 ·obtain ⟨h,rfl⟩:=f;obtain ⟨j,rfl⟩:=g;exact ⟨by have:=SeqAt.RcAt.int_int (A:=A) (s:=s) i h i j;simpa using this,by have:=SeqAt.RcNeAt.int_int (A:=A) (s:=s) i h i j;simpa using this⟩
 ·obtain ⟨h,rfl⟩:=f;obtain ⟨j,rfl⟩:=g;exact ⟨by have:=SeqAt.RcAt.str_str (A:=A) (s:=s) z h z j;simpa using this,by have:=SeqAt.RcNeAt.str_str (A:=A) (s:=s) z h z j;simpa using this⟩
 ·cases f;cases g
  obtain ⟨l,n⟩:=Zqu I ha;obtain ⟨k,o⟩:=Zqu I ha';refine ⟨λc w E Q q=>?_,λc w E Q q=>?_⟩
  ·exact PySem.W.keq_eq (knd:=ZaS c w) (r:=true) l k (ZeV n) (ZeV o) m (λ_ => .nil) q
  ·exact PySem.W.keq_ne (knd:=ZaS c w) (r:=true) l k (ZeV n) (ZeV o) m (λ_ => .nil) q
theorem Fl.at{A:Around}{x y:V}{v u:Value}{d:PyData}(I:Inv X pins σ H s)(l:A.units<cLine)(k:Fl H x d)(j:Fl H y d)(c:RelV x v)(f:RelV y u):SeqAt.EqAt A s v u true:=by
 have m:=(Fl.rc I l k j c f).1;rcases k with ⟨rfl,rfl⟩|⟨b,rfl,rfl⟩|⟨i,rfl,rfl⟩|⟨z,rfl,rfl⟩|⟨a,rfl,rfl,ha⟩ <;> rcases j with ⟨rfl,e⟩|⟨b',rfl,e⟩|⟨i',rfl,e⟩|⟨z',rfl,e⟩|⟨a',rfl,e,ha'⟩ <;> cases e
 ·cases c;cases f;exact SeqAt.EqAt.same _
 ·cases c;cases f;exact SeqAt.EqAt.same _
 ·obtain ⟨h,rfl⟩:=c;obtain ⟨g,rfl⟩:=f;have:=SeqAt.EqAt.int_int (A:=A) (s:=s) i h i g
  simpa using this
 ·obtain ⟨h,rfl⟩:=c;obtain ⟨g,rfl⟩:=f;have:=SeqAt.EqAt.str_str (A:=A) (s:=s) z h z g
  simpa using this
 ·cases c;cases f
  by_cases hab:a=a'
  ·subst hab;exact SeqAt.EqAt.same _
  ·exact SeqAt.EqAt.of_refs hab m
theorem Vals.at2{xs:List V}{its:List Value}(r:Vals xs its){j:Nat}(h:j<its.toArray.size):∃x,xs[j]?=some x/\RelV x its.toArray[j]:=by
 have l:=r.length;have b:j<xs.length:=by simp at h;omega
 obtain ⟨c,a,d⟩:=r.get (i:=j) (x:=xs[j]) (by simp[b]);have e:its.toArray[j]=c:=by
  have:its[j]?=some its.toArray[j]:=by simp at h;simp[h]
  rw[this] at a;exact Option.some.inj a
 exact ⟨xs[j],by simp[b],by rw[e];exact d⟩
theorem Zd4{α a:Type}{xs:List α}{ds:List a}{j:Nat}{x:α}(h:xs[j]?=some x)(l:xs.length=ds.length):∃d,ds[j]?=some d:=by
 have:=(Qn.mp h).1;exact ⟨ds[j]'⋯,Q7 ⋯⟩
theorem Rp.both(I:Inv X pins σ H s):∀(n:Nat) (A:Around) (x y:V) (v u:Value) (d:PyData),A.units+n<cLine->Rp H n x d->Rp H n y d->RelV x v->RelV y u->SeqAt.EqAt A s v u true/\SeqAt.RcAt A s v u true/\SeqAt.RcNeAt A s v u false
  | 0,A,x,y,v,u,d,hu,hx,hy,rx,ry=>⟨Fl.at I hu hx hy rx ry,Fl.rc I hu hx hy rx ry⟩
  | n+1,A,x,y,v,u,d,hu,hx,hy,rx,ry=>by
    have f:A.units<cLine:=⋯;rcases hx with hx | ⟨a,xs,ds,rfl,rfl,ha,hl,hi⟩ | ⟨a,xs,ds,rfl,rfl,ha,hl,hi⟩
    · have o:Fl H y d:=by
        rcases hy with hy | ⟨b,c,k,rfl,rfl,hb,hm,hj⟩ | ⟨b,c,k,rfl,rfl,hb,hm,hj⟩
        · exact hy
        · rcases hx with ⟨_,e⟩ | ⟨_,_,e⟩ | ⟨_,_,e⟩ | ⟨_,_,e⟩ | ⟨_,_,e,_⟩ <;> cases e
        · rcases hx with ⟨_,e⟩ | ⟨_,_,e⟩ | ⟨_,_,e⟩ | ⟨_,_,e⟩ | ⟨_,_,e,_⟩ <;> cases e
      exact ⟨Fl.at I f hx o rx ry,Fl.rc I f hx o rx ry⟩
    · obtain ⟨b,c,rfl,hb,hm,hj⟩:∃b c,y = .ref b/\H b=some (.lst c)/\c.length=ds.length/\∀(i:Nat) u e,c[i]?=some u->ds[i]?=some e->Rp H n u e:=by
        rcases hy with hy | ⟨b,c,k,e1,e2,hb,hm,hj⟩ | ⟨b,c,k,e1,e2,hb,hm,hj⟩
        · rcases hy with ⟨_,e⟩ | ⟨_,_,e⟩ | ⟨_,_,e⟩ | ⟨_,_,e⟩ | ⟨_,_,e,_⟩ <;> cases e
        · cases e2; exact ⟨b,c,e1,hb,hm,hj⟩
        · cases e2
      cases rx
      cases ry
      obtain ⟨h,B,m,_⟩:=I.list<|SqL.of ha;obtain ⟨g,w,r,_⟩:=I.list<|SqL.of hb;have J:=B.length;have L:=w.length;have q:∀(j:Nat) (D:j<h.toArray.size) (p:j<g.toArray.size),SeqAt.EqAt A.in1 s h.toArray[j] g.toArray[j] true:=λj D p=>by
        obtain ⟨K,C,G⟩:=B.at2 D;obtain ⟨M,E,F⟩:=w.at2 p;obtain ⟨d,t⟩:=Zd4 C hl;exact (Rp.both I n A.in1 _ _ _ _ d (by show A.units+1+n<cLine; omega) (hi j _ _ C t) (hj j _ _ E t) G F).1
      have l:=SeqAt.RcAt.lists (A:=A) (e:=λ_=>true) m.isList r.isList (by simp; omega) f q;have z:=SeqAt.RcNeAt.lists (A:=A) (e:=λ_=>true) m.isList r.isList (by simp; omega) f q;rw[ZdG] at l z;refine ⟨?_,l,z⟩
      by_cases hab:a=b
      · subst hab; exact SeqAt.EqAt.same _
      · exact SeqAt.EqAt.of_refs hab l
    · obtain ⟨b,c,rfl,hb,hm,hj⟩:∃b c,y = .ref b/\H b=some (.tup c)/\c.length=ds.length/\∀(i:Nat) u e,c[i]?=some u->ds[i]?=some e->Rp H n u e:=by
        rcases hy with hy | ⟨b,c,k,e1,e2,hb,hm,hj⟩ | ⟨b,c,k,e1,e2,hb,hm,hj⟩
        · rcases hy with ⟨_,e⟩ | ⟨_,_,e⟩ | ⟨_,_,e⟩ | ⟨_,_,e⟩ | ⟨_,_,e,_⟩ <;> cases e
        · cases e2
        · cases e2; exact ⟨b,c,e1,hb,hm,hj⟩
      cases rx
      cases ry
      obtain ⟨h,B,m,_⟩:=I.tuple<|SqT.of ha;obtain ⟨g,w,r,_⟩:=I.tuple<|SqT.of hb;have J:=B.length;have L:=w.length;have q:∀(j:Nat) (D:j<h.toArray.size) (p:j<g.toArray.size),SeqAt.EqAt A.in1 s h.toArray[j] g.toArray[j] true:=λj D p=>by
        obtain ⟨K,C,G⟩:=B.at2 D;obtain ⟨M,E,F⟩:=w.at2 p;obtain ⟨d,t⟩:=Zd4 C hl;exact (Rp.both I n A.in1 _ _ _ _ d (by show A.units+1+n<cLine; omega) (hi j _ _ C t) (hj j _ _ E t) G F).1
      have k:(h.toArray.size==g.toArray.size)=true:=by simp; omega
      have l:=SeqAt.RcAt.tuples (A:=A) (e:=λ_=>true) m r f q;have z:=SeqAt.RcNeAt.tuples (A:=A) (e:=λ_=>true) m r f q;rw[ZdG,k] at l z;refine ⟨?_,l,z⟩
      by_cases hab:a=b
      · subst hab; exact SeqAt.EqAt.same _
      · exact SeqAt.EqAt.of_refs hab l
end
section
variable{X:Cx}{k:Nat}
def Zr5:R2:=λx y H Q=>∃d,Rp H 8 x d/\Rp H 8 y d/\Q (.bl true) H
def Zr6:R2:=λx y H Q=>∃d,Rp H 8 x d/\Rp H 8 y d/\Q (.bl false) H
theorem ZnS(g:Room k X.A):OpR X (compareOp .Eq) Zr5:=by
 intro a s j H x y v u Q I b c h;obtain ⟨d,f,e,q⟩:=h;have i:=g.units;exact (Rp.both I 8 X.A x y v u d ⋯ f e b c).2.1 _ _ _ _ ⟨.bl true,H,I,rfl,q⟩
theorem ZnT(g:Room k X.A):OpR X (compareOp .NotEq) Zr6:=by
 intro a s j H x y v u Q I b c h;obtain ⟨d,f,e,q⟩:=h;have i:=g.units;exact (Rp.both I 8 X.A x y v u d ⋯ f e b c).2.2 _ _ _ _ ⟨.bl false,H,I,rfl,q⟩
end
def All2(R:V->PyData->Prop)(xs:List V)(ds:List PyData):Prop:=xs.length=ds.length/\∀(i:Nat) v d,xs[i]?=some v->ds[i]?=some d->R v d
section
variable{R R':V->PyData->Prop}{xs ys:List V}{ds es:List PyData}{x:V}{d:PyData}
theorem All2.nil:All2 R [] []:=⟨rfl,λi v d h=>by simp at h⟩
theorem All2.cons(h:R x d)(t:All2 R xs ds):All2 R (x::xs) (d::ds):=by
 refine ⟨by simp[t.1],λi v e a b=>?_⟩
 cases i with
 |zero=>cases a;cases b;exact h
 |succ i=>exact t.2 i v e (by simpa using a) (by simpa using b)
theorem Zqv{H:Hp}{n:Nat}{a:Addr}(h:H a=some (.tup xs))(g:All2 (Rp H n) xs ds):Rp H (n+1) (.ref a) (.tuple ds):=.inr<|.inr ⟨a,xs,ds,rfl,rfl,h,g.1,g.2⟩
end
theorem Bits.le{n:Nat}{i j:Int}(h:Bits n j)(l:i.natAbs<=j.natAbs):Bits n i:=Bits.of<|Qq l h.lt
theorem Bits.up{n m:Nat}{i:Int}(h:Bits n i)(l:n<=m):Bits m i:=Q1 h l
theorem Bits.mulT{i j:Int}(h:Bits 1000000 i)(h':Bits 1000000 j):IntMulOk i j:=Bits.mul (h.up ∅)<|h'.up ∅
theorem Bits.mulG{i j:Int}(h:Bits 1000000 i)(h':Bits 4000 j):IntMulOk i j:=h.mulT<|h'.up ∅
theorem Bits.times{n m:Nat}{i j:Int}(h:Bits n i)(h':Bits m j):Bits (n+m) (i*j):=Bits.of (by
 rw[Qs,Wf];exact Nat.mul_lt_mul'' h.lt h'.lt)
theorem Bits.log{n:Nat}{i:Int}(h:Bits n i)(a:i≠0):i.natAbs.log2<n:=by
 have:i.natAbs.log2+1<=n:=by unfold Bits Builtin.Int.intBits at h;simpa [a] using h
 omega
section
variable{X:Cx}
theorem Zb2:OpR X (binaryOp .FloorDiv) (rI (λ_ j=>j≠0/\Bits 4000 j) λi j => .int<|i.fdiv j):=opI λ_ _ _ _ _ _ _ a q=>floordiv_int a.1 q<|.inl<|PyProof.noPylong_of_log2<|Ua (a.2.log a.1) ∅
end
def AllG{a:Type}(R:V->a->Prop)(xs:List V)(ds:List a):Prop:=xs.length=ds.length/\∀(i:Nat) v d,xs[i]?=some v->ds[i]?=some d->R v d
section
variable{β:Type}{R R':V->β->Prop}{xs ys:List V}{ds es:List β}{x:V}{d:β}
theorem AllG.nil:AllG R [] []:=⟨rfl,λi v d h=>by simp at h⟩
theorem AllG.cons(h:R x d)(t:AllG R xs ds):AllG R (x::xs) (d::ds):=by
 refine ⟨by simp[t.1],λi v e a b=>?_⟩
 cases i with
 |zero=>cases a;cases b;exact h
 |succ i=>exact t.2 i v e (by simpa using a) (by simpa using b)
theorem AllG.mono(h:AllG R xs ds)(f:∀v d,R v d->R' v d):AllG R' xs ds:=⟨h.1,λi v d a b=>f v d<|h.2 i v d a b⟩
theorem AllG.append(h:AllG R xs ds)(g:AllG R ys es):AllG R (xs++ys) (ds++es):=by
 refine ⟨by rw[Qc,Qc,h.1,g.1],λi v e b a=>?_⟩;have l:=h.1
 by_cases hi:i<xs.length
 ·rw[Wd hi] at b;rw[Wd ⋯] at a;exact h.2 i v e b a
 ·rw[Wa ⋯] at b a;rw[<-l] at a;exact g.2 _ v e b a
theorem AllG.set(h:AllG R xs ds)(n:Nat)(g:R x d):AllG R (xs.set n x) (ds.set n d):=by
 refine ⟨by rw[We,We,h.1],λi v e a b=>?_⟩;rw[Ur] at a b;have l:=h.1
 split at a
 ·rename_i c
  rw[if_pos c] at b
  split at a
  ·rename_i f
   rw[if_pos ⋯] at b
   cases a;cases b;exact g
  ·cases a
 ·rename_i c
  rw[if_neg c] at b;exact h.2 i v e a b
theorem AllG.one(h:R x d):AllG R [x] [d]:=.cons h .nil
theorem AllG.get(h:AllG R xs ds){i:Nat}(a:xs[i]?=some x):∃d,ds[i]?=some d/\R x d:=by
 obtain ⟨d,e⟩:=Zd4 a h.1;exact ⟨d,e,h.2 i x d a e⟩
end
section
variable{X:Cx}{k:Nat}
theorem ZnU{x y:V}{us:List Value}(r:Vals [x,y] us):∃u v,us=[u,v]/\RelV x u/\RelV y v:=by
 cases r with
 |cons r t=>cases t with
  |cons b a=>cases a;exact ⟨_,_,rfl,r,b⟩
end
def Itv(K:ZZfg)(a:Addr)(n:Nat):It :=
 ⟨λi H=>i<n/\∃b,SqL K H a b/\b.length=n,λi H x c=>c=H/\∀b,SqL K H a b->b[n-1-i]?=some x,λi _=>i=n⟩
theorem ZmR{P:Program}{w:World}{K:ZZfg}{R:Expr}(a it:Addr)(n:Nat):Turn P w K R (Itv K a n) [it] it (λi h=>h.IsRevIter it a<|(n:Int)-1-(i:Int)) where
 mem:=by simp
 obj:=λi h f b l=>by
  have e:b=it:=by simpa using l
  subst e;obtain ⟨o,e,c,d⟩:=f;exact ⟨o,e,λv z=>by rw[d] at z;cases z⟩
 keep:=λi h r f k=>f.at λo e=>k it (by simp) o e
 item:=by
  intro X y B G Q i g s O H E I q f m;subst y B G;obtain ⟨hi,M,N,hn⟩:=m;obtain ⟨Z,S,p,hz⟩:=I.list N;have L:M[n-1-i]?=some (M[n-1-i]'⋯):=Q7 ⋯;obtain ⟨u,Y,U⟩:=S.get L;obtain ⟨A,F,W,J,t,C⟩:=q it (by simp);have D:(n:Int)-1-(i:Int)=((n-1-i:Nat):Int):=⋯;rw[D] at f;refine wpAny_pyNext_rev_item f p.isList (x:=u) (by simpa using Y) λr j sb=>?_;have e2:((n-1-i:Nat):Int)-1=(n:Int)-1-((i+1:Nat):Int):=⋯;rw[e2] at j;have I1:Inv X g O H { s with heap:=r }:=I.turned (t':=s.toks) (λb o l e=>(sb.2 b l).trans e) A F J t C;obtain ⟨o,e,c,d⟩:=id j;exact ⟨u,rfl,Zkw (s:={ s with heap:=r }) e c d ∅ ⟨_,H,I1,U,⟨rfl,λys T=>by rw[I.list_inj T N];exact L⟩,j,λb l=>(q b l).1⟩⟩
 done:=by
  intro X y B G Q i g s O H E I q f m;subst y B G;have m:i=n:=m;subst m;obtain ⟨A,F,W,J,t,C⟩:=q it (by simp);have D:(i:Int)-1-(i:Int) = -1:=⋯;rw[D] at f;exact wpAny_pyNext_rev_end (I.ok.hd Q) f λr eb=>⟨rfl,I.turned (t':=s.toks) (λb o l e=>eb b o l e) A F J t C⟩
 self:=λ_ _ _ _ _ f h=>wpAny_pyIter_revIter f h
section
variable{X:Cx}{tg:Expr}
inductive Zqw (K:ZZfg) (vs:List V) (H1:Hp) (R:It->Hp->Prop):Prop
 |mk (a:Addr) (xs:List V) (_:vs=[.ref a]) (_:SqL K H1 a xs) (_:R (Itv K a xs.length) H1):Zqw K vs H1 R
def Ztw(K:ZZfg)(b:TA):TI:=λa H R=>b a H λd c=>Zqw K d c R
theorem Zqx{e1:Expr}{l:TA}{p d:Pos}(w:Gl X "reversed") (x:X.mg "reversed" = none) (n:PA X [e1] l) (A:starEach [e1] X.env=[(false,eval e1 X.env)]:=by rfl) :
    PI X tg (.Call (.Name "reversed" p) [e1] [] d) (Ztw X.K l):=by
  intro f s C H R I h;refine wpAny_Call_Name_kw<|ZdE I w x PyProof.Rows.Boot.«reversed»<|PyProof.Rows.callWith_type1 (thn (n d f s C H _ I h) λE c ⟨F,t,i,z,y⟩=>?_) (by rw[A]; rfl) (by rfl);obtain ⟨a,j,e,B,q⟩:=y;subst e;obtain ⟨u,rfl,r⟩:=ZfJ z
  cases (show u=Value.ref a from r)
  obtain ⟨g,m,pl,_⟩:=i.list B;have D:=m.length;refine call_reversed_list pl.isList ?_;have k:({ c with heap:=c.heap.push (revObj a<|(g.toArray.size:Int)-1) }:Shared).heap.IsRevIter c.heap.objs.size a ((j.length:Int)-1-((0:Nat):Int)):=by
    refine ⟨_,Heap.get?_push_size _ rfl,rfl,?_⟩;have:(g.toArray.size:Int)-1=(j.length:Int)-1-((0:Nat):Int):=by rw[Qd]; omega
    rw[<-this]; rfl
  refine wpAny_pyIter_revIter k ?_;refine ⟨c.heap.objs.size,[c.heap.objs.size],_,_,t,rfl,i.kept (t':=c.toks) λb o e=>Heap.get?_push_of_some _ e,ZmR a _ j.length,k,λb v=>?_,q⟩;have e:b=c.heap.objs.size:=by simpa using v
  subst e;exact i.fpOk (Q2 _)<|i.hok.fresh<|Q2 _
end
section
variable{X:Cx}{tg iter elt:Expr}{scope:Scope}{pos:Pos}{wi:TI}{g:TG}{te:TE}{own:List Str}{caps:List (Nat×Str)}
theorem Zh8{i:Nat}{x:Str}{d t:Pos}(N:Str)(own:List Str)(caps:List (Nat×Str))(hN:X.N.Nodup)(W:X.N[i]?=some x)(Z:X.env.scope.names.lookup x=some .local)(hc:X.calm=true)(hi:PI X tg iter wi)
    (hg:∀w n j C,PG (Zbk X N scope (own++caps.map (·.2)) n j C w) tg g) (he:∀w n j C,PE (Zbk X N scope (own++caps.map (·.2)) n j C w) elt te)
    (A:CapsOk X scope caps) (O:OneCell scope N)
    (U:(scope.names.all λy=>!(y.2==NameKind.free)||(X.env.cells.lookup y.1).isSome)=true:=by rfl)
    (L:swapsWith (.ListComp elt [⟨tg,iter,[],0⟩] scope pos) (some<|.Name x d) t.line X.env=pure true:=by rfl)
    (k:scope.kind = .function:=by rfl)
    (r:∀y∈scope.names,y.2 = .local->scope.names.lookup y.1=some .local:=by decide +kernel) (hs:∀x,foldedSetIterable iter X.env x=pure x:=by intro _; rfl) :
    PS X (.Assign [.Name x d] (.ListComp elt [⟨tg,iter,[],0⟩] scope pos) t) (ZrH (ZhZ own.length caps wi g te)<|Zcm i):=by
  intro l s σ H D0 I h;have f:=Zd2 U;have u:=ZcC f;rw[exec_Assign_Name_used _ _ _ _ L];refine wpAny_bind<|wpAny_standAt<|wpAny_bind ?_;show wpAny _ X.A (do let _ ← comprehension (.ListComp elt [⟨tg,iter,[],0⟩] scope pos) scope X.env _ (newList []) false (eval iter X.env) (some<|assign (.Name x d) X.env)) _ _ s;refine wpAny_bind<|wpAny_mono (wpAny_comprehension_free (use:=some<|assign (.Name x d) X.env) (Q:=λ_ E=>SP X l D0 .next E) rfl hs u k r<|thn (hi l s σ H _ I h) λv s1 h1=>thn h1 λa0 s2 h2=>?_) (λ_ E hq=>wpAny_pure<|wpAny_pure hq) λ_ _ e=>e;obtain ⟨it,w,tn,J,H2,e,G,T,M,f2,hB⟩:=h2;subst e;refine ZfZ (RR:=λY C=>compPost (model X.prog X.w) X.A X.xe (some<|assign (.Name x d) X.env) (λ_ E=>SP X l D0 .next E) Y C) G hc T M f2 k O f A (hg w) (he w) hB ?_;intro D C E m ys H' K S hn I3 nD nC q;show wpAny _ X.A (assign (.Name x d) X.env<|.ref D) _ _ _;have F:C≠X.env.locals:=Ne.symm<|Q8<|Q5 G.lt K;have B:∀x c,X.env.cells.lookup x=some c->c≠C:=λx c e z=>by
    obtain ⟨v,o,ho,_⟩:=G.cell x c e;rw[z] at ho;exact absurd (Q5 (Heap.lt_size ho) K)<|Qf _
  refine wpAny_assign_Name<|Ze2 I3 hN W (.inl Z) (v:=.ref D) rfl (λs4 I4 ⟨a,sb,ha⟩=>?_)<|.inr Z;have R:C≠a:=by
    rcases ha with e | e
    · rw[e]; exact F
    · exact Ne.symm (B x a e)
  refine ⟨m,hn.sameBut sb R,λh' P=>⟨_,_,?_,q D nD⟩⟩;exact I4.turned (t':=s4.toks) (it:=C) (λb o hb e=>P.extBut b o hb e) (by rw[Zaj<|Ne.symm S]; exact nC) F (.inr<|Q1 G.sz K) B
    (λp hp z=>by
      have:=(G.pin p hp).1;rw[z] at this;exact absurd (Q5 (Heap.lt_size this) K)<|Qf _)
end
def ZmS(H:Hp)(x y:V)(b:Bool):Prop:=(∃i j:Int,x = .int i/\y = .int j/\b=decide (i=j)) ∨
 (∃(a c:Addr) (d e f g:Int),x = .ref a/\y = .ref c/\H a=some (.tup [.int d,.int e])/\H c=some (.tup [.int f,.int g])/\b=(decide (d=f)&&decide (e=g)))
section
variable{X:Cx}{k:Nat}
inductive Zr7 (x y:V) (H:Hp) (Q:VK):Prop
 |mk (b:Bool) (_:ZmS H x y b) (_:Q (.bl b) H):Zr7 x y H Q
inductive ZsY (x y:V) (H:Hp) (Q:VK):Prop
 |mk (b:Bool) (_:ZmS H x y b) (_:Q (.bl !b) H):ZsY x y H Q
theorem Zlg{f:List (Addr×Obj)}{s:Shared}{E:St}{H:Hp}{a c:Addr}{n1 d1 n2 d2:Int}{A:Around}(I:Inv X f E H s)(x:H a=some (.tup [.int n1,.int d1]))(F:H c=some (.tup [.int n2,.int d2]))(r:A.units<cLine) :
    SeqAt.RcAt A s (.ref a) (.ref c) (decide (n1=n2)&&decide (d1=d2))/\SeqAt.RcNeAt A s (.ref a) (.ref c) (!(decide (n1=n2)&&decide (d1=d2))):=by
  obtain ⟨B,D,p,_⟩:=I.tuple<|SqT.of x;obtain ⟨u1,K,rfl,l,i⟩:=ZnU D;obtain ⟨g,rfl⟩:=l;obtain ⟨d,rfl⟩:=i;obtain ⟨z,C,t,_⟩:=I.tuple<|SqT.of F;obtain ⟨J,G,rfl,o,n⟩:=ZnU C;obtain ⟨b,rfl⟩:=o;obtain ⟨h,rfl⟩:=n;have q:∀(j:Nat) (v:j<(#[Value.int n1 g,Value.int d1 d]:Array Value).size) (y:j<(#[Value.int n2 b,Value.int d2 h]:Array Value).size),SeqAt.EqAt A.in1 s (#[Value.int n1 g,Value.int d1 d]:Array Value)[j] (#[Value.int n2 b,Value.int d2 h]:Array Value)[j] (if j=0 then n1==n2 else d1==d2):=λj v y=>by
    have m:j<2:=v
    match j,m with
    | 0,_=>exact SeqAt.EqAt.int_int n1 g n2 b
    | 1,_=>exact SeqAt.EqAt.int_int d1 d d2 h
  have e:((List.range<|min (#[Value.int n1 g,Value.int d1 d]).size (#[Value.int n2 b,Value.int d2 h]).size).all (λj=>if j=0 then n1==n2 else d1==d2)&&(#[Value.int n1 g,Value.int d1 d]).size==(#[Value.int n2 b,Value.int d2 h]).size)=(decide (n1=n2)&&decide (d1=d2)):=by
    show ((n1==n2)&&((d1==d2)&&true)&&true)=_;rw[Bool.and_true,Bool.and_true]
    rfl
  have w:=SeqAt.RcAt.tuples (A:=A) (e:=λj=>if j=0 then n1==n2 else d1==d2) p t r q;have u:=SeqAt.RcNeAt.tuples (A:=A) (e:=λj=>if j=0 then n1==n2 else d1==d2) p t r q;rw[e] at w u;exact ⟨w,u⟩
theorem ZnV(n:Room k X.A):OpR X (compareOp .Eq) Zr7:=by
 intro d s m H x y v u Q I e f h;obtain ⟨b,l,q⟩:=h;rcases l with ⟨i,j,rfl,rfl,rfl⟩|⟨a,c,n1,d1,n2,d2,rfl,rfl,ha,hc,rfl⟩
 ·refine Za6 d s m H _ _ v u Q I e f ⟨rfl,?_⟩;have:decide (V.int i=V.int j)=decide (i=j):=by rw[Zf9];rfl
  rw[this];exact q
 ·cases e
  cases f
  have g:X.A.units<cLine:=by have:=n.units;omega
  exact (Zlg I ha hc g).1 _ _ _ _ ⟨.bl _,H,I,rfl,q⟩
theorem Zqy(n:Room k X.A):OpR X (compareOp .NotEq) ZsY:=by
 intro d s m H x y v u Q I e f h;obtain ⟨b,l,q⟩:=h;rcases l with ⟨i,j,rfl,rfl,rfl⟩|⟨a,c,n1,d1,n2,d2,rfl,rfl,ha,hc,rfl⟩
 ·refine Zda d s m H _ _ v u Q I e f ⟨rfl,?_⟩;have:decide (V.int i=V.int j)=decide (i=j):=by rw[Zf9];rfl
  rw[this];exact q
 ·cases e
  cases f
  have g:X.A.units<cLine:=by have:=n.units;omega
  exact (Zlg I ha hc g).2 _ _ _ _ ⟨.bl _,H,I,rfl,q⟩
end
theorem Zgk{prog:Program}{w:World}{A:Around}{R:Result->Shared->Prop}{s:Shared}{p a j g:Expr}{d:Scope}{y:Pos}{it q:Value}{env:Env}(I:Nat->Shared->Prop)
    (B:∀n s,I n s->wpAny (model prog w) A (pyNext it) (λr b=>match r with
      | none=>R (.ok .next) b
      | some v=>wpAny (model prog w) A (letOwnedTupleGo a it v) (λ_ b=>wpAny (model prog w) A (assign a env v) (λ_ k=>wpAny (model prog w) A (isTrue g env<|eval g env) (λC f =>
          match C with
          | true=>wpAny (model prog w) A (eval p env) (λx i=>wpAny (model prog w) A (call (.builtin "list.append") [q,x]) (λ_ o=>∃m,m<n/\I m o) (λ_ _=>False) i) (λ_ _=>False) f
          | false=>∃m,m<n/\I m f)
          (λ_ _=>False) k) (λ_ _=>False) b) (λ_ _=>False) b) (λ_ _=>False) s)
    (n:Nat) (h:I n s) :
    codeAny (model prog w) A (.compLoop (.ListComp p [⟨a,j,[g],0⟩] d y) 0 it q env) R s:=by
  refine codeAny_loop rfl I (λn s D=>?_) n h;show wpAny _ _ ((compTurn (.ListComp p [⟨a,j,[g],0⟩] d y) 0 it q env).onRaise (λx=>do noteFrame x env; theTreesLotGoes x)) _ _ s;refine wpAny_noted ?_;rw[compTurn_list];refine wpAny_bind<|wpAny_standAt<|wpAny_bind<|wpAny_mono (B n s D) (λr b c=>?_) λ_ _ e=>False.elim e
  cases r with
  | none=>exact wpAny_pure c
  | some v =>
    refine wpAny_bind<|wpAny_mono c (λ_ b c=>?_) λ_ _ e=>False.elim e;refine wpAny_bind<|wpAny_mono c (λ_ k t=>wpAny_bind<|wpAny_mono (wpAny_tests_one t) (λC f l=>?_) λ_ _ e=>False.elim e) λ_ _ e=>False.elim e
    cases C with
    | false=>exact wpAny_pure ⟨rfl,l⟩
    | true =>
      exact wpAny_bind<|wpAny_bind<|wpAny_mono l (λx i z=>wpAny_bind<|wpAny_mono z (λ_ o u=>wpAny_pure<|wpAny_pure ⟨rfl,u⟩) λ_ _ e=>False.elim e) λ_ _ e=>False.elim e
def Zlh(k:Nat)(caps:List (Nat×Str))(g:TG)(o:TT)(n:TE)(l:St)(J:It)(H:Hp)(Q:List V->Hp->Prop):Prop :=
 ∃W:Nat->Nat->List V->Hp->Prop,(∃m,W 0 m [] H)/\∀i m d f,W i m d f->d.length<=sizeLine/\((J.stop i f/\Q d f) ∨
  (J.go i f/\d.length<sizeLine/\∃(N:V->Hp->Prop) (j:Hp->Prop),(∀v a,N v a->∃e,e<m/\W (i+1) e (d++[v]) a)/\(∀a,j a->∃e,e<m/\W (i+1) e d a) ∧
   ∀x h,J.yld i f x h->g x (st0 k caps l) h λc p=>(∀(i:Nat) v,(st0 k caps l)[i]?=some (some v)->c[i]?=some (some v))/\o c p λb a=>match b with|true=>n c a N|false=>j a))
def ZnW(k:Nat)(caps:List (Nat×Str))(f:TI)(g:TG)(h:TT)(e:TE):TE:=λb H Q=>f b H λJ d=>Zlh k caps g h e b J d λc a=>∀D,a D=none->Q (.ref D) (upd a D<|.lst c)
section
variable{X:Cx}{tg iter elt cnd:Expr}{scope:Scope}{pos:Pos}{wi:TI}{g:TG}{tt:TT}{te:TE}{own:List Str}{caps:List (Nat×Str)}
theorem ZjX{a2:List (Addr×Obj)}{σ:St}{H:Hp}{s:Shared}{L:ZZla}{it:Addr}{tn:Nat->Heap->Prop}{J:It}{E:Value->Shared->Prop}{RR:Value->Addr->Result->Shared->Prop}{QL:List V->Hp->Prop}
    (I:Inv X a2 σ H s) (hc:X.calm=true) (T:Turn X.prog X.w X.K tg J L it tn) (st:tn 0 s.heap) (hf:∀b∈L,ZhP X a2 H b)
    (a0:scope.kind = .function) (S:∀y∈scope.names,y.2 ≠ .cell) (b1:∀y,(y,NameKind.free)∈scope.names->∃c,X.env.cells.lookup y=some c) (b4:CapsOk X scope caps)
    (hg:∀K G C,PG (ZaD X scope (own++caps.map (·.2)) K G C L) tg g) (ht:∀K G C,PT (ZaD X scope (own++caps.map (·.2)) K G C L) cnd tt) (he:∀K G C,PE (ZaD X scope (own++caps.map (·.2)) K G C L) elt te)
    (hB:Zlh own.length caps g tt te σ J H QL)
    (c9:∀D C Z m ys A,s.heap.objs.size<=C->D≠C->Z.heap.Ns C m->Inv X a2 σ (upd A D<|.lst ys) Z->A D=none->A C=none->QL ys A->RR (.ref D) C (.ok .next) Z) :
    wpAny (model X.prog X.w) X.A (newList []) (λc5 F=>wpAny (model X.prog X.w) X.A (newFunctionEnv scope X.env.globals (ZfL X.env.cells scope.names []) [] X.env.qual none .none<|some X.env) (λa9 b8 =>
      codeAny (model X.prog X.w) X.A (.compStart (.ListComp elt [⟨tg,iter,[cnd],0⟩] scope pos) 0 (.ref it) c5 { a9 with scope:=relabel scope X.env }) (RR c5 a9.locals) b8) E F) E s:=by
  refine wpAny_newObj_type (wpAny_newFunctionEnv S (by intro y hy; simp at hy) (λB w h=>?_) a0)
  dsimp only at w h ⊢
  generalize hH2:s.heap.push { cls:=.type "list", dict:=none,data:=.seq ([]:List Value).toArray }=H2 at w h ⊢;have hC:H2.objs.size=s.heap.objs.size+1:=by rw[<-hH2,Heap.size_push]
  generalize hCC:H2.objs.size=C at *;have O:s.heap.objs.size<=C:=by rw[hC]; exact U9 _
  generalize hDD:s.heap.objs.size=D at *;have a7:D≠C:=by rw[hC]; exact Q8<|Wp _
  have j:∀b,b<D->b≠C/\b≠D:=λb a=>⟨by rw[hC]; exact Q8<|Um a,Q8 a⟩;have M:∀ {b o},s.heap.get? b=some o->b<D:=fun {b o} e=>by rw[<-hDD]; exact Heap.lt_size e
  have N:∀b o,s.heap.get? b=some o->B.get? b=some o:=λb o e=>h.extBut b o (j b<|M e).1<|Heap.get?_push_of_some _<|hH2 ▸ Heap.get?_push_of_some _ e;have c4:B.get? D=some { cls:=.type "list", data:=.seq ([]:List Value).toArray 0 }:=h.extBut _ _ a7<|Heap.get?_push_of_some _<|hH2 ▸ (hDD ▸ Heap.get?_push_size _ rfl);have a6:∀b∈L,b<D:=λb a=>let ⟨o,e,_⟩:=T.obj 0 _ st b a; M e;have c7:∀b,D<=b->s.heap.get? b=none:=λb a=>by
    cases e:s.heap.get? b with
    | none=>rfl
    | some o=>exact absurd (M e)<|U1.mpr a
  have nH:∀b,D<=b->H b=none:=λb a=>I.hok.fresh (by rw[hDD]; exact a)
  let Y:Cx:=ZaD X scope (own++caps.map (·.2)) s H C L
  have a3:Y.Ok:=Zhk I a0 S b1 (by rw[hDD]; exact O) hf (by rw[hDD]; exact a6);have a5:∀x c,(ZfL X.env.cells scope.names []).lookup x=some c->X.env.cells.lookup x=some c:=λx c e=>Zdt scope.names [] (λp t=>(nomatch t)) (x,c)<|PySem.mem_of_lookup e;have a4:∀x c,X.env.cells.lookup x=some c->c<D:=λx c e=>by
    obtain ⟨v,o,ho,_⟩:=I.cell x c e;exact M ho
  have b2:∀b∈frs X.stack,b<D:=λb a=>by
    rcases Qe.mp (I.stkSub b a) with e | e
    · rw[e,<-hDD]; exact I.lt
    · obtain ⟨_,o,ho,_⟩:=I.funs.mem e
      exact M ho
  have I0:Inv Y [] (st0 own.length caps σ) H { s with heap:=B,toks:=s.toks+([]:List (Str×Value)).length }:=by
    refine ⟨a3,rfl,I.bare,Un.kept N,⟨_,w,λi x v h1 h2 h3=>?_⟩,λx c e=>?_,nH C O,λx c e=>I.freeC x c<|a5 x c e,λp t=>?_,I.hok.kept N,?_⟩
    · obtain ⟨hk,p,t,hv⟩:=Zh1 h2
      have c3:caps[i-own.length]?.map (·.2)=some x:=by
        have:(own++caps.map (·.2))[i]?=some x:=h1;rw[Wa hk,Q4] at this;exact this
      rw[t] at c3
      cases c3
      obtain ⟨q1,q2,q3⟩:=b4.mem p<|Qp t;obtain ⟨m,hn,hl⟩:=I.loc;obtain ⟨u,r,l⟩:=hl p.1 p.2 v q1 hv (by rcases q3 with z | z; exact .inr<|.inl z; exact .inr<|.inr z);refine ⟨u,r,.inr ⟨Zdb q2,?_⟩⟩;rcases l with ⟨z,_⟩ | ⟨_,c,hc',z⟩
      · rcases q3 with y | y <;> (rw[y] at z; cases z)
      · have hm:(p.2,NameKind.free)∈scope.names:=PySem.mem_of_lookup q2
        obtain ⟨d,hd⟩:=Zdu scope.names [] hm ⟨c,hc'⟩;obtain ⟨d',c1⟩:=Zbg hd;have e:=a5 _ _ c1;rw[hc'] at e
        cases e
        obtain ⟨oc,ho,e2⟩:=z;exact ⟨c,c1,oc,N _ _ ho,e2⟩
    · obtain ⟨v,o,ho,hd⟩:=I.cell x c<|a5 x c e
      exact ⟨v,o,N _ _ ho,hd⟩
    · exact absurd (show p∈([]:List (Addr×Obj)) from t) (by simp)
    · rw[Zh0]
      show _=(own++caps.map (·.2)).length;rw[Qc,Q0]
  have P:∀ {f:List Value} {n:Nat} {b0:St} {A:Hp} {Z:Shared},Inv Y [] b0 A Z->A D=none->Z.heap.get? D=some { cls:=.type "list", data:=.seq f.toArray n }->Inv Y [(D,{ cls:=.type "list", data:=.seq f.toArray n })] b0 A Z:=fun {f n b0 A Z} J hn e =>
    J.pins_of λp t=>by
      have ep:p=(D,{ cls:=.type "list", data:=.seq f.toArray n }):=Qh.mp t;subst ep;refine ⟨e,hn,a7,λz=>?_,λv z=>by cases z⟩;exact absurd (b2 D z)<|Qf _
  obtain ⟨W,⟨m0,w0⟩,a1⟩:=hB;have c0:∀ {A:Hp} {pins':List (Addr×Obj)},(∀b∈L,A b=none)->(∀p∈pins',∀b∈L,p.1≠b)->∀b∈L,ZhP Y pins' A b:=fun {A pins'} hn t b a =>
    ⟨hn b a,(a3.exf b a).1,a3.exfs b a,.inl a,(a3.exf b a).2,λp q=>t p (by simpa [Y,ZaD] using q) b a⟩
  have a8:∀F:Shared,F={ s with heap:=B,toks:=s.toks+([]:List (Str×Value)).length } →
      codeAny (model X.prog X.w) X.A (.compLoop (.ListComp elt [⟨tg,iter,[cnd],0⟩] scope pos) 0 (.ref it) (.ref D)<|compEnvC scope (ZfL X.env.cells scope.names []) C X.env) (RR (.ref D) C) F:=by
    rintro F rfl;refine Zgk (λk Z=>∃(i:Nat) (ys:List V) (f:List Value) (n:Nat) (A:Hp),Inv Y [(D,{ cls:=.type "list", data:=.seq f.toArray n })] (st0 own.length caps σ) A Z/\tn i Z.heap/\(∀b∈L,A b=none)/\Vals ys f/\W i k ys A) ?_ m0
      ⟨0,[],[],0,H,P I0 (nH D<|Q2 _) c4,T.keep _ _ _ st λb _ o e=>N b o e,λb a=>(hf b a).1,.nil,w0⟩
    rintro k s3 ⟨i,ys,f,n,H3,I3,c6,d9,rv,w3⟩;obtain ⟨pD,nD,_⟩:=I3.pin (D,{ cls:=.type "list", data:=.seq f.toArray n })<|Qb _ Qm;have ff:=c0 (pins':=[(D,{ cls:=.type "list", data:=.seq f.toArray n })]) d9 (λp t b a=>by
      rw[Qh.mp t]; exact (Ne.symm (j b<|a6 b a).2))
    obtain ⟨b5,a1⟩:=a1 i k ys H3 w3;rcases a1 with ⟨stop,q⟩ | ⟨go,hsz',NN,N0,hNN,hN0,step⟩
    · refine thn (T.done Y rfl rfl rfl hc i _ s3 _ H3 _ I3 ff c6 stop) λr s4 ⟨hr,I4⟩=>?_
      subst hr;obtain ⟨m4,e1,_⟩:=I4.loc;obtain ⟨e4,b7,_⟩:=I4.pin (D,{ cls:=.type "list", data:=.seq f.toArray n })<|Qb _ Qm;refine c9 D C s4 m4 ys H3 O a7 e1 ?_ b7 I4.free q;have hk:=I4.base;have b3:HOk X.prog X.w H3 s4.heap:=I4.hok;have Q:∀b u,H3 b=some u->b≠D:=λb u e z=>by rw[z,b7] at e; cases e
      refine I.call' (ch:=L) I4.os ⟨λb o e n a hx=>hk.keep b o e n a hx,λb o e n a hx=>hk.slot b o e n a hx,λb o e n hx=>?_,λb o e hx=>hk.there b o e hx,λb xs e=>?_,λb o u e=>?_,λb ps e=>?_⟩ ?_ I4.bare ?_
      · rw[Zaj (j b<|M e).2]; exact hk.free b o e n hx
      · have:=hk.tups b xs e
        rw[Zaj<|Q b _ this]; exact this
      · have:=hk.frzs b o u e
        rw[Zaj<|Q b _ this]; exact this
      · obtain ⟨b9,e'⟩:=hk.tbls b ps e
        exact ⟨b9,by rw[Zaj<|Q b _ e']; exact e'⟩
      · intro b u e
        by_cases a:b=D
        · subst a
          rw[Zah] at e
          cases e
          exact ⟨b5,f,n,rv,e4⟩
        · rw[Zaj a] at e
          exact (b3 b u e).stay (λc v _ q=>q) (λc q=>by rw[Zaj<|Q c _ q]; exact q) λc xs q=>by rw[Zaj<|Q c _ q]; exact q
      · intro b a
        obtain ⟨_,f1,_,f3,f4,f5⟩:=hf b a;exact ⟨f3,f1,f4,f5⟩
    · refine thn (T.item Y rfl rfl rfl hc i _ s3 _ H3 _ I3 ff c6 go) λr s4 ⟨u,hr,h4⟩=>?_
      subst hr;refine thn h4 λ_ s5 ⟨x,H5,I5,r5,y5,U,d7⟩=>?_;have d0:=c0 (pins':=[(D,{ cls:=.type "list", data:=.seq f.toArray n })]) d7 (λp t b a=>by
        rw[Qh.mp t]; exact (Ne.symm (j b<|a6 b a).2))
      have d4:=I5.pinned d0<|T.obj _ _ U;refine thn (hg s H C _ s5 _ H5 x u _ d4 r5<|step x H5 y5) λ_ s6 ⟨R,H6,I6,wk,q6⟩=>?_;refine thn (ht s H C _ s6 R H6 _ I6 q6) λbb s6 ⟨H6,I6,q6⟩=>?_
      cases bb with
      | false =>
        have q6:N0 H6:=q6;obtain ⟨m',hm,w7⟩:=hN0 H6 q6;have d1:tn (i+1) s6.heap:=T.keep _ _ _ U λb a o e=>(I6.pin (b,o)<|Qb _<|Qb _<|Za7 a e).1;have e0:∀b∈L,H6 b=none:=λb a=>by
          obtain ⟨o,e,d⟩:=T.obj _ _ U b a;exact (I6.pin (b,o)<|Qb _<|Qb _<|Za7 a e).2.1
        obtain ⟨e5,d3,_,_,_⟩:=I6.pin (D,{ cls:=.type "list", data:=.seq f.toArray n })<|Qb _<|Wn _ Qm;have I8:Inv Y [] R H6 s6:=I6.pins_of λp t=>(nomatch t);have I9:Inv Y [] (st0 own.length caps σ) H6 s6:=I8.weak (by rw[I0.len,I8.len]) wk;exact ⟨m',hm,i+1,ys,f,n,H6,P I9 d3 e5,d1,e0,rv,w7⟩
      | true =>
        have q6:te R H6 NN:=q6;refine thn (he s H C _ s6 R H6 _ I6 q6) λy s7 ⟨v,H7,I7,r7,n7⟩=>?_;obtain ⟨m',hm,w7⟩:=hNN v H7 n7;obtain ⟨e3,c2,_,_,_⟩:=I7.pin (D,{ cls:=.type "list", data:=.seq f.toArray n })<|Qb _<|Wn _ Qm;refine append_at (n:=n) e3 (λh' b6 d2=>?_) (by rw[Qd,<-rv.length]; exact b5);have d6:tn (i+1) s7.heap:=T.keep _ _ _ U λb a o e=>(I7.pin (b,o)<|Qb _<|Qb _<|Za7 a e).1;have d8:∀b∈L,H7 b=none:=λb a=>by
          obtain ⟨o,e,d⟩:=T.obj _ _ U b a;exact (I7.pin (b,o)<|Qb _<|Qb _<|Za7 a e).2.1
        have I8:Inv Y [] R H7 s7:=I7.pins_of λp t=>(nomatch t);have I9:Inv Y [] (st0 own.length caps σ) H7 s7:=I8.weak (by rw[I0.len,I8.len]) wk;have c8:Inv Y [] (st0 own.length caps σ) H7 { s7 with heap:=h' }:=I9.turned (t':=s7.toks) (it:=D) (λb o a e=>b6.extBut b o a e) c2 a7 (.inr<|U0 hDD) (λx c e=>Q8<|a4 x c<|a5 x c e)<|λp t=>absurd (show p∈([]:List (Addr×Obj)) from t) (by simp);refine ⟨m',hm,i+1,ys++[v],f++[y],n+1,H7,P c8 c2 ?_,?_,d8,rv.append<|.cons r7 .nil,w7⟩
        · rw[d2,List.push_toArray]
        · exact T.keep _ _ _ d6 λb a o e=>b6.extBut b o (j b<|a6 b a).2 e
  have d5:tn 0 B:=T.keep _ _ _ st λb _ o e=>N b o e;exact codeAny_compStart_list (a8 _ rfl)<|T.self _ 0 _ _ _ d5<|a8 _ rfl
theorem ZmT(own:List Str)(caps:List (Nat×Str))(hc:X.calm=true)(P:PI X tg iter wi)(W:∀j d a C,PG (ZaD X scope (own++caps.map (·.2)) d a C j) tg g)(O:∀j d a C,PT (ZaD X scope (own++caps.map (·.2)) d a C j) cnd tt)(he:∀j d a C,PE (ZaD X scope (own++caps.map (·.2)) d a C j) elt te)
    (t:CapsOk X scope caps)
    (F:(scope.names.all λy=>!(y.2==NameKind.free)||(X.env.cells.lookup y.1).isSome)=true:=by rfl)
    (i:scope.kind = .function:=by rfl) (r:∀y∈scope.names,y.2 ≠ .cell:=by decide +kernel)
    (k:∀y∈scope.names,y.2 = .local->scope.names.lookup y.1=some .local:=by decide +kernel) (hs:∀x,foldedSetIterable iter X.env x=pure x:=by intro _; rfl) :
    PE X (.ListComp elt [⟨tg,iter,[cnd],0⟩] scope pos) (ZnW own.length caps wi g tt te):=by
  intro l s K H Q I h;have f:=Zd2 F;have n:=ZcC f;rw[eval_ListComp];refine wpAny_comprehension_free (use:=none) rfl hs n i k<|thn (P l s K H _ I h) λv s1 h1=>thn h1 λU s2 h2=>?_;obtain ⟨it,j,tn,J,H2,e,u,T,A,f2,hB⟩:=h2;subst e;refine ZjX (RR:=λG C=>compPost (model X.prog X.w) X.A X.xe none (EP X l K Q) G C) u hc T A f2 i r f t (W j) (O j) (he j) hB ?_;intro D C s' m M S w E R Z nD Y q;refine ⟨m,R,λh' B=>⟨.ref D,upd S D<|.lst M,?_,rfl,q D nD⟩⟩;exact Z.turned (t':=s'.toks) (it:=C) (λb o hb e=>B.extBut b o hb e) (by rw[Zaj<|Ne.symm E]; exact Y) (Ne.symm<|Q8<|Q5 u.lt w) (.inr<|Q1 u.sz w)
    (λx c e z=>by
      obtain ⟨v,o,L,_⟩:=u.cell x c e;rw[z] at L;exact absurd (Q5 (Heap.lt_size L) w)<|Qf _)
    (λp N z=>by
      have:=(u.pin p N).1;rw[z] at this;exact absurd (Q5 (Heap.lt_size this) w)<|Qf _)
end
section
variable{κ:Type}[DecidableEq κ]
def Zfc(kvs:List (κ×V))(k:κ):Option V:=(kvs.find? λa=>decide<|a.1=k).map (·.2)
def Zhq(kvs:List (κ×V))(k:κ)(v:V):List (κ×V) :=
 if (kvs.any λa=>decide<|a.1=k)=true then kvs.map (λa=>if a.1=k then (a.1,v) else a) else kvs++[(k,v)]
theorem Zbz{p:κ×V}{r:List (κ×V)}{k:κ}(e:p.1=k):Zfc (p::r) k=some p.2:=by simp[Zfc,Uf,e]
theorem ZbA{p:κ×V}{r:List (κ×V)}{k:κ}(e:¬p.1=k):Zfc (p::r) k=Zfc r k:=by simp[Zfc,Uf,e]
theorem ZeW(k:κ):∀kvs:List (κ×V),(kvs.any λa=>decide<|a.1=k)=(Zfc kvs k).isSome
 | []=>rfl
 |p::r=>by
  rw[List.any_cons]
  by_cases e:p.1=k
  ·simp only[Zbz e,decide_eq_true e,Us,Option.isSome_some]
  ·rw[ZbA e,decide_eq_false e,Ut];exact ZeW k r
theorem Zi9(k j:κ)(y:V):∀kvs:List (κ×V),Zfc (kvs.map λa=>if a.1=k then (a.1,y) else a) j=(Zfc kvs j).map λx=>if j=k then y else x
 | []=>rfl
 |p::r=>by
  have b:=Zi9 k j y r;rw[W9]
  by_cases h:p.1=k
  ·rw[if_pos h]
   by_cases e:p.1=j
   ·rw[Zbz (p:=(p.1,y)) e,Zbz e,Option.map_some,if_pos<|e.symm.trans h]
   ·rw[ZbA (p:=(p.1,y)) e,ZbA e,b]
  ·rw[if_neg h]
   by_cases e:p.1=j
   ·rw[Zbz (p:=p) e,Zbz e,Option.map_some,if_neg<|λz=>h<|e.trans z]
   ·rw[ZbA (p:=p) e,ZbA e,b]
theorem Zhr(k j:κ)(y:V):∀kvs:List (κ×V),Zfc kvs k=none->Zfc (kvs++[(k,y)]) j=if j=k then some y else Zfc kvs j
 | [],_=>by
  by_cases e:k=j
  ·rw[if_pos e.symm];exact Zbz (p:=(k,y)) e
  ·rw[if_neg<|λz=>e z.symm];exact ZbA (p:=(k,y)) e
 |p::r,hn=>by
  rw[List.cons_append];have a:¬p.1=k:=λz=>by rw[Zbz z] at hn;cases hn
  rw[ZbA a] at hn;have b:=Zhr k j y r hn
  by_cases e:p.1=j
  ·rw[Zbz e,Zbz e,if_neg<|λz=>a<|e.trans z]
  ·rw[ZbA e,ZbA e,b]
theorem ZmU(kvs:List (κ×V))(k j:κ)(y:V):Zfc (Zhq kvs k y) j=if j=k then some y else Zfc kvs j:=by
 unfold Zhq
 by_cases a:(kvs.any λc=>decide<|c.1=k)=true
 ·rw[if_pos a,Zi9];rw[ZeW] at a
  by_cases e:j=k
  ·obtain ⟨x,b⟩:=Uk.mp a;rw[if_pos e,e,b,Option.map_some,if_pos rfl]
  ·rw[if_neg e]
   cases Zfc kvs j with
   |none=>rfl
   |some x=>rw[Option.map_some,if_neg e]
 ·rw[if_neg a];refine Zhr k j y kvs ?_;rw[ZeW] at a
  cases q:Zfc kvs k with
  |none=>rfl
  |some x=>rw[q] at a;exact (a rfl).elim
theorem ZdJ(kvs:List (κ×V))(k:κ)(v:V):(Zhq kvs k v).length<=kvs.length+1:=by
 unfold Zhq
 split
 ·rw[Q0];omega
 ·rw[Qc,W7,List.length_nil];omega
theorem RelO.isSome_eq{o:Option V}{u:Option Value}(r:RelO o u):o.isSome=u.isSome:=by
 cases o with
 |none=>cases u with
  |none=>rfl
  |some _=>exact (show False from r).elim
 |some _=>cases u with
  |none=>exact (show False from r).elim
  |some _=>rfl
theorem KV.val{kvs:List (κ×V)}{vs:List (κ×Value)}(r:KV kvs vs)(k:κ):RelO (Zfc kvs k) (valueAt vs k):=by
 unfold KV at r
 induction r with
 |nil=>exact True.intro
 | @cons p q ps qs h t ih =>
  obtain ⟨c,d⟩:=h
  by_cases e:p.1=k
  ·have a:q.1=k:=c.symm.trans e;have b:valueAt (q::qs) k=some q.2:=by simp[valueAt,Uf,a]
   rw[Zbz e,b];exact d
  ·have a:¬q.1=k:=λz=>e<|c.trans z;have b:valueAt (q::qs) k=valueAt qs k:=by simp[valueAt,Uf,a]
   rw[ZbA e,b];exact ih
theorem KV.any{kvs:List (κ×V)}{vs:List (κ×Value)}(r:KV kvs vs)(k:κ):(kvs.any λa=>decide<|a.1=k)=vs.any λa=>decide (a.1=k):=by
 unfold KV at r
 induction r with
 |nil=>rfl
 |cons h t b=>rw[List.any_cons,List.any_cons,b,h.1]
theorem KV.repl{kvs:List (κ×V)}{vs:List (κ×Value)}(r:KV kvs vs)(k:κ){y:V}{u:Value}(d:RelV y u) :
    KV (kvs.map λa=>if a.1=k then (a.1,y) else a) (vs.map λa=>if a.1=k then (a.1,u) else a):=by
  unfold KV at r ⊢
  induction r with
  | nil=>exact .nil
  | @cons p q ps qs h t ih =>
    rw[W9,W9];refine .cons ?_ ih;obtain ⟨b,c⟩:=h
    by_cases e:p.1=k
    · rw[if_pos e,if_pos<|b.symm.trans e]; exact ⟨b,d⟩
    · rw[if_neg e,if_neg<|λz=>e<|b.trans z]; exact ⟨b,c⟩
theorem KV.put{kvs:List (κ×V)}{vs:List (κ×Value)}(r:KV kvs vs)(k:κ){y:V}{u:Value}(a:RelV y u):KV (Zhq kvs k y) (stored vs k u):=by
 unfold Zhq stored;rw[r.any k]
 by_cases e:(vs.any λb=>decide<|b.1=k)=true
 ·rw[if_pos e,if_pos e];exact r.repl k a
 ·rw[if_neg e,if_neg e];exact Paired.snoc r ⟨rfl,a⟩
theorem KV.length{kvs:List (κ×V)}{vs:List (κ×Value)}(r:KV kvs vs):kvs.length=vs.length:=Paired.length r
end
theorem ZoZ{P:Program}{w:World}{k:Key}{u:Value}(r:RelV (kV k) u):(ZaS P w).is k u=true:=by
 cases k with
 |inl i=>obtain ⟨t,e⟩:=(show ∃t,u=Value.int i t from r);subst e;exact ZhT P w i t
 |inr x=>obtain ⟨t,e⟩:=(show ∃t,u=Value.str x t from r);subst e;exact ZhU P w x t
theorem Zhs{P:Program}{w:World}:∀ {a:List Key} {us:List Value},Vals (a.map kV) us->ItemsAre (ZaS P w) a us
 | [],_,r=>by rw[List.map_nil] at r;cases r;exact .nil
 |k::a,_,r=>by
  rw[W9] at r
  cases r with
  |cons h t=>exact .cons (ZoZ h)<|Zhs t
abbrev KT(H:Hp):List (List Key×V)->List (List Key×Addr×Value)->Prop:=Paired λp q=>p.1=q.1/\H q.2.1=some (.tup<|p.1.map kV)/\RelV p.2 q.2.2
theorem KT.val{H:Hp}{kvs:List (List Key×V)}{xs:List (List Key×Addr×Value)}(r:KT H kvs xs)(k:List Key):RelO (Zfc kvs k) ((atKey xs k).map (·.2)):=by
 induction r with
 |nil=>exact True.intro
 | @cons p q ps qs h t ih =>
  obtain ⟨c,_,d⟩:=h
  by_cases e:p.1=k
  ·have a:q.1=k:=c.symm.trans e;have b:atKey (q::qs) k=some q.2:=by simp[atKey,Uf,a]
   rw[Zbz e,b];exact d
  ·have a:¬q.1=k:=λz=>e<|c.trans z;have b:atKey (q::qs) k=atKey qs k:=by simp[atKey,Uf,a]
   rw[ZbA e,b];exact ih
theorem KT.repl{H:Hp}{kvs:List (List Key×V)}{xs:List (List Key×Addr×Value)}(r:KT H kvs xs)(k:List Key){y:V}{u:Value}(f:RelV y u) :
    KT H (kvs.map λb=>if b.1=k then (b.1,y) else b) (xs.map<|putAt k u):=by
  induction r with
  | nil=>exact .nil
  | @cons p q ps qs h t ih =>
    rw[W9,W9];refine .cons ?_ ih;obtain ⟨a,c,d⟩:=h;unfold putAt
    by_cases e:p.1=k
    · rw[if_pos e,if_pos<|a.symm.trans e]; exact ⟨a,c,f⟩
    · rw[if_neg e,if_neg<|λz=>e<|a.trans z]; exact ⟨a,c,d⟩
theorem KT.put{H:Hp}{kvs:List (List Key×V)}{xs:List (List Key×Addr×Value)}(r:KT H kvs xs)(k:List Key){b:Addr}{y:V}{u:Value}(c:H b=some (.tup<|k.map kV))(a:RelV y u) :
    KT H (Zhq kvs k y) (storedH xs k b u):=by
  have e:(kvs.any λd=>decide<|d.1=k)=(atKey xs k).isSome:=by
    rw[ZeW,(r.val k).isSome_eq,Option.isSome_map]
  unfold Zhq storedH;rw[e]
  by_cases q:(atKey xs k).isSome=true
  · rw[if_pos q,if_pos q]; exact r.repl k a
  · rw[if_neg q,if_neg q]; exact Paired.snoc r ⟨rfl,c,a⟩
theorem KT.keeps{H a:Hp}{kvs:List (List Key×V)}{xs:List (List Key×Addr×Value)}(r:KT H kvs xs)(c:∀b ys,H b=some (.tup ys)->a b=some (.tup ys)):KT a kvs xs :=
 Paired.mapP r λ_ _ z=>⟨z.1,c _ _ z.2.1,z.2.2⟩
section
variable{P:Program}{w:World}{H:Hp}{h:Heap}{a:Addr}
theorem Zqz{u:HO}(b:HOk P w H h)(e:Rd H a u):ObjOk P w H h a u:=e.ok b
theorem Zo0{kvs:List (Key×V)}(b:HOk P w H h)(e:Rd H a (.dK kvs)):kvs.length<=sizeLine/\(a==sysModules)=false/\∃vs,KV kvs vs/\h.DictOf (ZaS P w) a vs :=
 show ObjOk P w H h a (.dK kvs) from Zqz b e
theorem Zr8{kvs:List (Key×V)}(b:HOk P w H h)(e:H a=some (.dK kvs)):kvs.length<=sizeLine/\(a==sysModules)=false/\∃vs,KV kvs vs/\h.DictOf (ZaS P w) a vs:=Zo0 b<|.inl e
theorem Zja{b:List Key}(i:HOk P w H h)(e:H a=some (.tup<|b.map kV)):(tupleKind<|ZaS P w).is h b a:=by
 obtain ⟨_,c,r,o,g,d,n,f⟩:=(show ObjOk P w H h a (.tup<|b.map kV) from i a _ e);exact ⟨o,c.toArray,n,g,d,f,by simpa using Zhs r⟩
theorem Zo1{kvs:List (List Key×V)}(c:HOk P w H h)(e:Rd H a (.dT kvs)):kvs.length<=sizeLine/\(a==sysModules)=false ∧
    ∃xs,KT H kvs xs/\h.DictOfH (tupleKind<|ZaS P w) a xs:=by
  obtain ⟨z,y,xs,r,o,n,k,j,f,i,g,d⟩:=(show ObjOk P w H h a (.dT kvs) from Zqz c e);refine ⟨z,y,xs,r,o,n,k,j,f,i,g,λx hx=>?_,d⟩;have b:∀ {l:List (List Key×V)} {m:List (List Key×Addr×Value)},KT H l m->∀x∈m,(tupleKind<|ZaS P w).is h x.1 x.2.1:=by
    intro l m q
    induction q with
    | nil=>intro x hx; exact nomatch hx
    | @cons p q ps qs hq t ih =>
      intro x hx;rcases Qe.mp hx with e | hx
      · subst e
        exact Zja c (by rw[<-hq.1]; exact hq.2.1)
      · exact ih x hx
  exact b r x hx
theorem ZqA{kvs:List (List Key×V)}(b:HOk P w H h)(e:H a=some (.dT kvs)):kvs.length<=sizeLine/\(a==sysModules)=false ∧
    ∃xs,KT H kvs xs/\h.DictOfH (tupleKind<|ZaS P w) a xs:=Zo1 b<|.inl e
end
def Zr9(H:Hp)(a:Addr)(y:V)(r:Option V):Prop :=
 (∃c k,Rd H a (.dK c)/\y=kV k/\r=Zfc c k)\/∃c k b,Rd H a (.dT c)/\y = .ref b/\H b=some (.tup<|k.map kV)/\r=Zfc c k
def DPut(H:Hp)(a:Addr)(y v:V)(d:Hp):Prop :=
 (∃c k,H a=some (.dK c)/\y=kV k/\c.length<sizeLine/\d=upd H a (.dK<|Zhq c k v)) ∨
 ∃c k b,H a=some (.dT c)/\y = .ref b/\H b=some (.tup<|k.map kV)/\c.length<sizeLine/\d=upd H a (.dT<|Zhq c k v)
theorem DPut.t{H:Hp}{a b:Addr}{kvs:List (List Key×V)}{k:List Key}{v:V}(e:H a=some (.dT kvs))(eb:H b=some (.tup<|k.map kV))(c:kvs.length<sizeLine) :
    DPut H a (.ref b) v (upd H a<|.dT<|Zhq kvs k v):=.inr ⟨kvs,k,b,e,rfl,eb,c,rfl⟩
section
variable{X:Cx}{pins:List (Addr×Obj)}{σ:St}{H:Hp}{s:Shared}{a:Addr}{y v:V}{u r:Value}{o:Option V}{A:Around}{E:Value->Shared->Prop}
theorem Inv.big(I:Inv X pins σ H s):sysModules<s.heap.objs.size:=by
 have h:mainGlobals<s.heap.objs.size:=(I.mod.glob.keeps I.bk).lt;exact Ua ∅ h
theorem Zli{Q:Value->Shared->Prop}(x:A.units+1<cLine)(I:Inv X pins σ H s)(g:Zr9 H a y (some v))(q:RelV y u)(h:∀f n,Inv X pins σ H n->RelV v f->Q f n) :
    wpAny (model X.prog X.w) A (getItem (.ref a) u) Q E s:=by
  rcases g with ⟨kvs,k,e,ey,l⟩ | ⟨kvs,k,b,e,ey,eb,l⟩
  · subst ey
    obtain ⟨z,C,w,c,i⟩:=Zo0 I.hok e;obtain ⟨f,j,d⟩:=RelO.some_of (v:=v) (o:=valueAt w k) (by rw[l]; exact c.val k);exact wpAny_getItem_of (ZoZ q) i.mapOf j<|h f _ (I.tok _) d
  · subst ey
    cases (show u=Value.ref b from q)
    obtain ⟨z,C,B,c,i⟩:=Zo1 I.hok e;obtain ⟨f,j,d⟩:=RelO.some_of (v:=v) (o:=(atKey B k).map (·.2)) (by rw[l]; exact c.val k);obtain ⟨p,t,m⟩:=Option.map_eq_some_iff.mp j;refine wpAny_getItem_heap (tupleKind_room_in1 x) (Zja I.hok eb) i t ?_;rw[m];exact h f _ (I.tok _) d
theorem Zgl{h':Heap}{t':Nat}{c:HO}(I:Inv X pins σ H s)(f:Mut (H a))(g:Heap.SameBut a s.heap h')(h:∃q,h'.get? a=some q)(d:ObjOk X.prog X.w (upd H a c) h' a c) :
    Inv X pins σ (upd H a c) { s with heap:=h',toks:=t' } :=
  I.write (x:=a) (e:=a) f (.inl rfl) (λb q i z=>(g.2 b i).trans z) h d
theorem ZqB{P:Program}{w:World}{c:Hp}{h':Heap}{kvs:List (Key×V)}{vs:List (Key×Value)}(z:kvs.length<=sizeLine)(d:(a==sysModules)=false)(b:KV kvs vs)(dd:h'.DictOf (ZaS P w) a vs) :
    ObjOk P w c h' a (.dK kvs):=⟨z,d,vs,b,dd⟩
theorem Zlj{B:Hp}{Q:Unit->Shared->Prop}(L:A.units+1<cLine)(I:Inv X pins σ H s)(g:DPut H a y v B)(C:RelV y u)(x:RelV v r)(h:∀w,Inv X pins σ B w->Q () w) :
    wpAny (model X.prog X.w) A (setItem (.ref a) u r) Q E s:=by
  rcases g with ⟨kvs,k,e,ey,l,eH⟩ | ⟨kvs,k,b,e,ey,eb,l,eH⟩
  · subst ey eH
    obtain ⟨z,n,N,d,j⟩:=Zr8 I.hok e;have p:N.length<=sizeLine:=by rw[<-d.length]; exact z
    have m:(Zhq kvs k v).length<=sizeLine:=by have:=ZdJ kvs k v; omega
    refine wpAny_setItem_pairs (hsz:=p) (ZoZ C) j λD f t=>h _ ?_;have J:∃q,D.get? a=some q:=let ⟨q,_,_,i,_⟩:=f; ⟨q,i⟩;exact Zgl I (by rw[e]; exact True.intro) t J<|ZqB m n (d.put k x) f
  · subst ey eH
    cases (show u=Value.ref b from C)
    obtain ⟨z,n,M,d,j⟩:=ZqA I.hok e;have p:M.length<=sizeLine:=by rw[<-Paired.length d]; exact z
    have m:(Zhq kvs k v).length<=sizeLine:=by have:=ZdJ kvs k v; omega
    refine wpAny_setItem_heap (hsz:=p) (tupleKind_room_in1 L) (Zja I.hok eb) j λD f t=>h _ ?_;obtain ⟨q,R,S,i,K,P,O,_,G⟩:=f;refine Zgl I (by rw[e]; exact True.intro) t ⟨q,i⟩ ⟨m,n,_,(d.put k eb x).keeps λc T F=>?_,q,R,S,i,K,P,O,G⟩;rw[Zaj (Zov F e (λz=>nomatch z))];exact F
end
def Zsa(i:Expr):Prop:=∀a b,subscripted i false a b=operate [a,b] (getItem a b)
theorem Zo2{prog:Program}{w:World}{A:Around}{E:Value->Shared->Prop}{s:Shared}{env:Env}{b a:Expr}{l:Pos}{T q:String}{Q:Value->Shared->Prop}
    (n:typeLookup (.type T) "__getitem__" = pure (some<|.builtin q)) (p:Zsa a)
    (h:wpAny (model prog w) A (eval b env) (λo e=>wpAny (model prog w) A (eval a env) (λi c=>c.TypeIs o T/\wpAny (model prog w) A (getItem o i) Q E c) E e) E s) :
    wpAny (model prog w) A (eval (.Subscript b a l) env) Q E s:=by
  refine Subscript_<|wpAny_mono h (λo e j=>wpAny_mono j (λi c d=>?_) λ_ _ x=>x) λ_ _ x=>x;obtain ⟨m,d⟩:=d;unfold subscriptTail;refine wpAny_bind ?_;rw[getitemInPython_of_ne m.not_modules];refine wpAny_bind<|wpAny_specialOf m n ?_;have g:wpAny (model prog w) A (subscripted a false o i) (λr f=>wpAny (model prog w) A (letTemporaryGo b o r >>= λ_=>pure r) Q E f) E c:=by
    rw[p o i];exact wpAny_operating<|wpAny_mono d (λr f k=>wpAny_bind<|wpAny_letTemporaryGo<|wpAny_pure k) λ_ _ x=>x
  first
    | exact wpAny_pure (wpAny_bind g)
    | exact wpAny_bind (wpAny_pure<|wpAny_bind g)
    | exact wpAny_bind g
theorem Zh9{X:Cx}{c:List (Addr×Obj)}{f:St}{H:Hp}{s:Shared}{a:Addr}{y:V}{o:Option V}(I:Inv X c f H s)(g:Zr9 H a y o):s.TypeIs (.ref a) "dict":= by
 rcases g with ⟨kvs,k,e,_,_⟩|⟨kvs,k,b,e,_,_,_⟩
 ·obtain ⟨_,_,i,_,d⟩:=Zo0 I.hok e;exact d.typeIs
 ·obtain ⟨_,_,h,_,d⟩:=Zo1 I.hok e;exact d.typeIs
def Zsb(f d:TE):TE:=λc H Q=>f c H λx e=>d c e λy b=>∃a v,x = .ref a/\Zr9 b a y (some v)/\Q v b
def Zsc(h e i:TE):TS:=λD b H=>i b H λv f=>h b f λx g=>e b g λy d=>∃a c,x = .ref a/\DPut d a y v c/\D.nx b c
section
variable{X:Cx}{o i e value:Expr}{pos pos' tpos:Pos}{td ty tv:TE}
theorem Zo3(w:X.A.units+1<cLine)(j:PE X o td)(q:PE X i ty)(t:Zsa i):PE X (.Subscript o i pos) (Zsb td ty):=by
 intro b s f H Q I h;refine Zo2 PySem.F.slot_dict_getitem.lookup t<|thn (j b s f H _ I h) λu r ⟨x,C,n,k,p⟩=>thn (q b r f C _ n p) λE F ⟨y,m,d,l,a,v,z,g,A⟩=>?_;subst z;obtain rfl:u=Value.ref a:=k;exact ⟨Zh9 d g,Zli w d g l λD G B c=>⟨v,m,B,c,A⟩⟩
theorem Zo4(t:X.A.units+1<cLine)(f:PE X o td)(p:PE X i ty)(d:PE X value tv)(F:swapsWith value (some<|.Subscript o i pos') pos.line X.env=pure false) :
    PS X (.Assign [.Subscript o i pos'] value pos) (Zsc td ty tv):=by
  intro b s c H D I h;refine wpAny_Assign_Subscript (thn (d b s c H _ I h) λr q ⟨v,z,B,j,C⟩=>thn (f b q c z _ B C) λu K ⟨x,l,L,k,w⟩=>thn (p b K c l _ L w) λM P ⟨y,N,J,A,a,n,G,g,m⟩=>?_) F;subst G;obtain rfl:u=Value.ref a:=k;exact Zlj t J g A j λO E=>⟨c,n,E,m⟩
end
theorem Zjb{P:Program}{w:World}{H:Hp}(h:Heap)(a:sysModules<h.objs.size):ObjOk P w H (h.push { cls:=.type "dict", data:=.dict #[] }) h.objs.size (.dT []) :=
 ⟨Q6 _,beq_eq_false_iff_ne.mpr<|Ne.symm<|Q8 a,[],.nil,_,#[],0,Heap.get?_push_size _ rfl,⟨rfl,rfl,rfl⟩,rfl,rfl,List.nodup_nil⟩
def ZqC:TE:=λ_ H Q=>∀p,H p=none->Q (.ref p) (upd H p<|.dT [])
section
variable{X:Cx}{pos:Pos}
theorem ZmV:PE X (.Dict [] [] pos) ZqC:=λb s c H Q I h =>
 wpAny_Dict_empty ⟨.ref s.heap.objs.size,_,I.laid (a:=s.heap.objs.size) (o:=.dT []) (t':=s.toks) (λ_ _ q=>Heap.get?_push_of_some _ q) (Q2 _)<|Zjb s.heap I.big,rfl,h _<|I.hok.fresh<|Q2 _⟩
end
section
variable{prog:Program}{w:World}{A:Around}{E:Value->Shared->Prop}{s:Shared}{d it:Addr}{o:Obj}{es:Array DictEntry}{ep i:Nat}
theorem Zo5{Q:Value->Shared->Prop}(g:(d==sysModules)=false)(c:s.heap.get? d=some o)(e:o.ExactDict)(a:o.data = .dict es ep)
    (f:Q (.ref s.heap.objs.size) { s with heap:=s.heap.push { cls:=.type "dict_keyiterator", data:=.fields #[.ref d,.int 0 0,.int es.size 0,.int ep 0] } }) :
    wpAny (model prog w) A (pyIter<|.ref d) Q E s:=by
  have b:s.TypeIs (.ref d) "dict" := ⟨o,c,e.1⟩;refine wpAny_pyIter_slot b PySem.F.slot_dict_iter<|wpAny_call_entry PySem.F.slot_dict_iter b PySem.F.entry_dict_iter ?_<|PySem.F.args_dict_iter_1 _;unfold Builtin.«dict.__iter__»;refine wpAny_bind ?_;unfold Builtin.Dict.dictSlotNone;refine wpAny_bind<|wpAny_notOrdered_dict b ?_;show wpAny _ _ (pure<|Value.ref d) _ _ s;refine wpAny_pure ?_;show wpAny _ _ (Builtin.Dict.showsAll d >>= _) _ _ s;unfold Builtin.Dict.showsAll;rw[if_neg (by rw[g]; exact Qg)];refine wpAny_bind<|wpAny_pure ?_;refine wpAny_bind<|wpAny_dictEntries c a ?_;refine wpAny_bind<|wpAny_dictEpoch c a ?_;refine wpAny_bind<|wpAny_newObj_type<|wpAny_pure ⟨_,rfl, "dict_keyiterator", _,⟨_,Heap.get?_push_size _ rfl,rfl⟩,PySem.F.slot_dict_keyiterator_next.lookup,?_⟩
  simpa [rawInt] using f
theorem Zo6{Q:Option Value->Shared->Prop}(a:s.heap.IsKeyIter it d i es.size ep)(h:s.heap.get? d=some o)(c:o.data = .dict es ep)(j:i<es.size)
    (k:∀h',h'.IsKeyIter it d (i+1) es.size ep->Heap.SameBut it s.heap h'->Q (some es[i].key) { s with heap:=h' }) :
    wpAny (model prog w) A (pyNext<|.ref it) Q E s:=by
  obtain ⟨m,e,l,g⟩:=id a;unfold pyNext;refine wpAny_bind<|wpAny_attempt<|wpAny_callSpecial?_slot (name:=Str.ofString "__next__") a.typeIs PySem.F.slot_dict_keyiterator_next
    (wpAny_call_entry PySem.F.slot_dict_keyiterator_next a.typeIs PySem.F.entry_dict_keyiterator_next ?_<|PySem.F.args_dict_keyiterator_next_1 _)
  refine wpAny_bind<|wpAny_pure ?_;refine wpAny_bind ?_;refine wpAny_bind ?_
  first | refine wpAny_bind (wpAny_typeNameOfWhole_keyiter a.typeIs<|wpAny_pure ?_) | refine wpAny_bind (wpAny_typeNameOf_keyiter a.typeIs<|wpAny_pure ?_)
  refine wpAny_bind<|wpAny_fieldsOf e g ?_;have f:Builtin.Dict_items.ownsTuple "dict_keyiterator" = false:=∅
  simp only[f,Bool.false_eq_true,if_false]
  show wpAny _ _ (if (Value.ref d==Value.none)=true then _ else _) _ _ s;rw[if_neg (show ¬((Value.ref d==Value.none)=true) from Qg)];refine wpAny_bind<|wpAny_pure ?_;refine wpAny_bind<|wpAny_dictEntries h c ?_;rw[if_neg (by simp)];refine wpAny_bind<|wpAny_pure ?_;refine wpAny_bind<|wpAny_dictEpoch h c ?_;rw[if_neg (by simp)];refine wpAny_pure ?_
  simp only[show ¬((i:Int)<0) from by omega,if_false,Qa,Array.getElem?_eq_getElem j]
  refine wpAny_bind ?_
  first | refine wpAny_bind (wpAny_typeNameOfWhole_keyiter a.typeIs<|wpAny_pure ?_) | refine wpAny_bind (wpAny_typeNameOf_keyiter a.typeIs<|wpAny_pure ?_)
  refine wpAny_bind<|wpAny_isOneOf_keyiter a.typeIs ?_;show wpAny _ _ (setField (.ref it) 1 (rawInt<|(i:Int)+1) >>= _) _ _ s;refine wpAny_bind<|wpAny_setField e g (by simp) ?_;have b:(s.heap.update it<|Obj.mapFields (·.setIfInBounds 1 (rawInt<|(i:Int)+1))).IsKeyIter it d (i+1) es.size ep :=
    ⟨_,Heap.get?_update_self _ e<|Obj.isFreed_of_fields<|Obj.data_mapFields g _,(Obj.cls_mapFields ..).trans l,by rw[Obj.data_mapFields g]; simp[rawInt]⟩
  refine wpAny_bind<|wpAny_holding ?_;refine wpAny_bind<|wpAny_isOneOf_keyiter (s:={ s with heap:=s.heap.update it (Obj.mapFields (·.setIfInBounds 1 (rawInt<|(i:Int)+1))) }) b.typeIs ?_;show wpAny _ _ (pure es[i].key) _ _ _;exact wpAny_pure<|wpAny_pure ⟨_,rfl,wpAny_pure<|k _ b<|Heap.SameBut.update ..⟩
theorem ZqD{Q:Option Value->Shared->Prop}(l:A.handled=none)(c:s.heap.IsKeyIter it d i es.size ep)(h:s.heap.get? d=some o)(e:o.data = .dict es ep)(k:es.size<=i)
    (n:∀h',Heap.ExtBut it s.heap h'->Q none { s with heap:=h' }):wpAny (model prog w) A (pyNext<|.ref it) Q E s:=by
  obtain ⟨p,f,q,j⟩:=id c;unfold pyNext;refine wpAny_bind<|wpAny_attempt<|wpAny_callSpecial?_slot (name:=Str.ofString "__next__") c.typeIs PySem.F.slot_dict_keyiterator_next
    (wpAny_call_entry PySem.F.slot_dict_keyiterator_next c.typeIs PySem.F.entry_dict_keyiterator_next ?_<|PySem.F.args_dict_keyiterator_next_1 _)
  refine wpAny_bind<|wpAny_pure ?_;refine wpAny_bind ?_;refine wpAny_bind ?_
  first | refine wpAny_bind (wpAny_typeNameOfWhole_keyiter c.typeIs<|wpAny_pure ?_) | refine wpAny_bind (wpAny_typeNameOf_keyiter c.typeIs<|wpAny_pure ?_)
  refine wpAny_bind<|wpAny_fieldsOf f j ?_;have g:Builtin.Dict_items.ownsTuple "dict_keyiterator" = false:=∅
  simp only[g,Bool.false_eq_true,if_false]
  show wpAny _ _ (if (Value.ref d==Value.none)=true then _ else _) _ _ s;rw[if_neg (show ¬((Value.ref d==Value.none)=true) from Qg)];refine wpAny_bind<|wpAny_pure ?_;refine wpAny_bind<|wpAny_dictEntries h e ?_;rw[if_neg (by simp)];refine wpAny_bind<|wpAny_pure ?_;refine wpAny_bind<|wpAny_dictEpoch h e ?_;rw[if_neg (by simp)];refine wpAny_pure ?_
  simp only[show ¬((i:Int)<0) from by omega,if_false,Qa,Array.getElem?_eq_none k]
  refine wpAny_bind ?_
  first | refine wpAny_bind (wpAny_typeNameOfWhole_keyiter c.typeIs<|wpAny_pure ?_) | refine wpAny_bind (wpAny_typeNameOf_keyiter c.typeIs<|wpAny_pure ?_)
  show wpAny _ _ (setField (.ref it) 0 .none >>= _) _ _ s;refine wpAny_bind<|wpAny_setField f j (by simp) ?_;show wpAny _ _ (newExc (.type "StopIteration") [] >>= _) _ _ _;refine wpAny_bind ?_
  simp only[newExc,newTuple]
  refine wpAny_bind<|wpAny_newObj_type ?_ (by size_fits);refine wpAny_bind (m:=firstArgMember _ _)<|wpAny_of_eq (a:=Value.none) (by first | rfl | (simp only[firstArgMember]; rfl)) ?_;refine wpAny_newObj_type ?_ (by size_fits)
  simp only[raiseNew]
  refine wpAny_bind<|wpAny_handled ?_;rw[show A.in1.handled=none from l];refine wpAny_bind<|wpAny_pure<|wpAny_throw ?_;refine wpAny_bind<|wpAny_isInstance (T := "StopIteration") (b:=true) ⟨_,Heap.get?_push_size _ rfl,rfl⟩ isSubtype_stop ?_;exact wpAny_pure<|n _<|((Heap.SameBut.update ..).extBut.push _).push _
end
theorem Zf1{α c:Type}{F:α->c->Prop}:∀ {l₁:List α} {l₂:List c},Paired F l₁ l₂->∀ {i:Nat} {a:α},l₁[i]?=some a->∃b,l₂[i]?=some b/\F a b
 |_,_,.nil,i,a,h=>by cases h
 |_,_,.cons r rs,0,a,h=>by cases h;exact ⟨_,rfl,r⟩
 |_,_,.cons r rs,i+1,a,h=>Zf1 rs (i:=i) h
def Zo7(o:Obj):Nat:=match o.data with
 | .dict _ ep=>ep
 |_=>0
structure DAt (P:Program) (w:World) (H:Hp) (h:Heap) (a:Addr) (o:Obj) (kvs:List (List Key×V)) (es:Array DictEntry):Prop where
 get:h.get? a=some o
 ex:o.ExactDict
 dat:o.data = .dict es (Zo7 o)
 sz:es.size=kvs.length
 nos:(a==sysModules)=false
 key:∀(i:Nat) (hi:i<es.size) (k:List Key) (v:V),kvs[i]?=some (k,v)->∃b,es[i].key = .ref b/\H b=some (.tup (k.map kV))
theorem Zlk{P:Program}{w:World}{H:Hp}{h:Heap}{a:Addr}{o:Obj}{kvs:List (List Key×V)}(g:h.get? a=some o)(x:ObjOk P w H h a (.dT kvs)):∃b,DAt P w H h a o kvs b:=by
 obtain ⟨z,y,t,r,E,b,s,l,p,j,f,C⟩:=x;rw[g] at l
 cases l
 have e:Zo7 o=s:=by unfold Zo7;rw[j]
 have D:=Paired.length r;have F:b.size=t.length:=by
  have:=congrArg List.length f;rw[Q0] at this
  simpa using this
 refine ⟨b,g,p,by rw[e];exact j,⋯,y,λi n k v m=>?_⟩;obtain ⟨q,B,u⟩:=Zf1 r m;have c:b.toList[i]?=some (entryOfKey (tupleKind<|ZaS P w) q):=by rw[f,Q4,B];rfl
 have d:b[i]=entryOfKey (tupleKind<|ZaS P w) q:=by
  have A:b.toList[i]?=some b[i]:=by simp[n]
  rw[A] at c;exact Option.some.inj c
 refine ⟨q.2.1,by rw[d];rfl,?_⟩;exact u.2.1
def Itk(a:Addr)(o:Obj)(kvs:List (List Key×V)):It :=
 ⟨λi H=>i<kvs.length/\H a=some (.frz o<|.dT kvs),λi H x c=>c=H/\∃k v b,kvs[i]?=some (k,v)/\x = .ref b/\H b=some (.tup<|k.map kV),λi H=>i=kvs.length/\H a=some (.frz o<|.dT kvs)⟩
theorem Zo8{P:Program}{w:World}{K:ZZfg}{S:Expr}(a it:Addr)(o:Obj)(kvs:List (List Key×V)):Turn P w K S (Itk a o kvs) [it] it (λi h=>h.IsKeyIter it a i kvs.length<|Zo7 o) where
 mem:=by simp
 obj:=λi h f b j=>by
  have e:b=it:=by simpa using j
  subst e;obtain ⟨o,e,c,d⟩:=f;exact ⟨o,e,λv z=>by rw[d] at z;cases z⟩
 keep:=λi h q f k=>f.at λo e=>k it (by simp) o e
 item:=by
  intro X u B M R i l s Q H E I p f J;subst u B M;obtain ⟨n,F⟩:=J;obtain ⟨g,x⟩:=(show ObjOk X.prog X.w H s.heap a (.frz o<|.dT kvs) from I.hok a _ F);obtain ⟨O,D⟩:=Zlk g x;have r:=D.sz;rw[<-r] at f;obtain ⟨A,L,T,N,t,C⟩:=p it (by simp);refine Zo6 f D.get D.dat ⋯ λq m W=>?_;rw[r] at m;have U:Inv X l Q H { s with heap:=q }:=I.turned (t':=s.toks) (λb o j e=>(W.2 b j).trans e) A L N t C;obtain ⟨Y,e,c,d⟩:=id m;obtain ⟨b,G,j⟩:=D.key i ⋯ kvs[i].1 kvs[i].2 (by rw[Q7 n]);refine ⟨_,rfl,Zkw (s:={ s with heap:=q }) e c d ∅ ⟨.ref b,H,U,?_,⟨rfl,_,_,b,by rw[Q7 n],rfl,j⟩,m,λb j=>(p b j).1⟩⟩;rw[G];rfl
 done:=by
  intro X u B M R i l s Q H E I p f J;subst u B M;obtain ⟨n,F⟩:=J;subst n;obtain ⟨g,x⟩:=(show ObjOk X.prog X.w H s.heap a (.frz o<|.dT kvs) from I.hok a _ F);obtain ⟨O,D⟩:=Zlk g x;have r:=D.sz;obtain ⟨A,L,T,N,t,C⟩:=p it (by simp);have y:s.heap.IsKeyIter it a kvs.length O.size (Zo7 o):=by rw[r];exact f
  exact ZqD (I.ok.hd R) y D.get D.dat ⋯ λq G=>⟨rfl,I.turned (t':=s.toks) (λb o j e=>G b o j e) A L N t C⟩
 self:=λ_ _ _ _ _ f h=>wpAny_pyIter_keyiter f h
section
variable{X:Cx}{tg:Expr}
def Ztx(d:TE):TI:=λe H R=>d e H λx c=>∃a b,x = .ref a/\c a=some (.dT b)/\∀o,R (Itk a o b)<|upd c a<|.frz o<|.dT b
theorem ZqE{l:Expr}{A:TE}(F:PE X l A):PI X tg l (Ztx A):=by
 intro g s B H R I h;refine thn (F g s B H _ I h) λv d ⟨x,i,u,O,N⟩=>?_;obtain ⟨a,f,e,p,q⟩:=N;subst e
 cases O
 have t:=(show ObjOk X.prog X.w i d.heap a (.dT f) from u.hok a _ p);obtain ⟨z,y,L,C,o,M,K,j,G,Q,P,E⟩:=id t;obtain ⟨m,D⟩:=Zlk j t;have S:∀c k,i c=some (.tup k)->upd i a (.frz o<|.dT f) c=some (.tup k):=λc k w=>by
  rw[Zaj (Zov w p (λz=>nomatch z))];exact w
 have n:Inv X g B (upd i a<|.frz o<|.dT f) { d with heap:=d.heap,toks:=d.toks } :=
  Zgl u (by rw[p];exact True.intro) ⟨rfl,λb r=>rfl⟩ ⟨o,j⟩ ⟨j,z,y,L,KT.keeps C S,o,M,K,j,G,Q,P,E⟩
 refine Zo5 D.nos D.get D.ex D.dat ?_;have J:({ d with heap:=d.heap.push { cls:=.type "dict_keyiterator", data:=.fields #[.ref a,.int 0 0,.int m.size 0,.int (Zo7 o) 0] } }:Shared).heap.IsKeyIter d.heap.objs.size a 0 f.length (Zo7 o):=by
  refine ⟨_,Heap.get?_push_size _ rfl,rfl,?_⟩;rw[<-D.sz];rfl
 refine ⟨d.heap.objs.size,[d.heap.objs.size],_,_,_,rfl,n.kept (t':=d.toks) λb o e=>Heap.get?_push_of_some _ e,Zo8 a _ o f,J,λb r=>?_,q o⟩;have e:b=d.heap.objs.size:=by simpa using r
 subst e;exact n.fpOk (Q2 _)<|n.hok.fresh<|Q2 _
end
section
variable{prog:Program}{w:World}{A:Around}{E:Value->Shared->Prop}{s:Shared}
theorem Zsd{c:List (Sem Value×Sem Value)}{Q:Addr->Shared->Prop}(l:A.units<cLine)(f:c.length<=15)
    (h:wpAny (model prog w) A (evalPairs c) (λvs a=>∃(g:List Key) (b:Addr) (v:Value),vs=[(.ref b,v)]/\(tupleKind<|ZaS prog w).is a.heap g b/\a.heap.DictOfH (tupleKind<|ZaS prog w) s.heap.objs.size [] ∧
      ∀h' t,h'.DictOfH (tupleKind<|ZaS prog w) s.heap.objs.size (storedH [] g b v)->Heap.SameBut s.heap.objs.size a.heap h'->Q s.heap.objs.size { a with heap:=h',toks:=t }) E
      { s with heap:=s.heap.push { cls:=.type "dict", data:=.dict #[] } }) :
    wpAny (model prog w) A (subDict c) Q E s:=by
  unfold subDict;refine wpAny_bind<|wpAny_alloc ?_;refine wpAny_bind<|wpAny_holding ?_;rw[if_pos f];refine wpAny_bind<|wpAny_mono h (λvs a d=>?_) λ_ _ e=>e;obtain ⟨g,b,v,rfl,k,j,n⟩:=d;refine wpAny_holding ?_;refine wpAny_bind ?_;rw[List.forIn_cons];refine wpAny_bind (wpAny_bind<|wpAny_dictSet_heap (hsz:=Q6 _) (knd:=tupleKind<|ZaS prog w) l k j λh' i m=>wpAny_pure ?_)
  dsimp only
  rw[List.forIn_nil];exact wpAny_pure<|wpAny_pure<|wpAny_pure<|n h' _ i m
end
section
variable{X:Cx}
def ZqF(e g:TE):TE:=λd H Q=>∀p,H p=none->e d (upd H p<|.dT []) λx f=>g d f λy a=>a p=some (.dT [])/\∃(c:List Key) (b:Addr),x = .ref b/\a b=some (.tup<|c.map kV)/\Q (.ref p) (upd a p<|.dT [(c,y)])
theorem ZmW{k v:Expr}{f:Pos}{m r:TE}(hu:X.A.units+1<cLine)(C:PE X k m)(A:PE X v r):PE X (.Dict [some k] [v] f) (ZqF m r):=by
 intro c s i H Q I q;have D:=I.hok.fresh<|Q2 s.heap.objs.size;have F:=I.laid (a:=s.heap.objs.size) (o:=.dT []) (h':=s.heap.push { cls:=.type "dict", data:=.dict #[] }) (t':=s.toks) (λ_ _ q=>Heap.get?_push_of_some _ q) (Q2 _)<|Zjb s.heap I.big;rw[arm_eval_Dict,zip_pairTrees [some k] [v] X.env f rfl rfl,dictDisplay_pairs (pairTrees [some k] [v] X.env f) (λz=>by have:=congrArg List.length z;rw[pairTrees_length _ _ _ _ rfl rfl] at this;cases this) (by rw[pairTrees_length _ _ _ _ rfl rfl];show 1<17;decide)];refine wpAny_bind<|wpAny_standAt<|wpAny_bind<|Zsd (Q:=λd M=>wpAny (model X.prog X.w) X.A (pure<|Value.ref d) (EP X c i Q) X.xe M) ⋯ (by rw[pairTrees_length _ _ _ _ rfl rfl];show 1<=15;decide) ?_;refine pairTrees_cons_walk<|thn (C c _ i _ _ F<|q _ D) λu E ⟨x,R,Y,N,G⟩=>thn (A c E i R _ Y G) λn s2 ⟨y,H2,h,T,e,w,b,W,l,P⟩=>pairTrees_nil_walk ?_;subst W
 cases (show u=Value.ref b from N)
 obtain ⟨z,S,xs,j,L⟩:=ZqA h.hok e
 cases j
 refine ⟨w,b,n,rfl,Zja h.hok l,L,λh' t g U=>wpAny_pure ⟨.ref s.heap.objs.size,_,?_,rfl,P⟩⟩;obtain ⟨o,K,ep,p,O,Z,J,_,B⟩:=g;refine Zgl h (by rw[e];exact True.intro) U ⟨o,p⟩ ⟨(by show 1<=sizeLine;decide),S,[(w,b,n)],.cons ⟨rfl,?_,T⟩ .nil,o,K,ep,p,O,Z,J,B⟩;rw[Zaj (Zov l e (λz=>nomatch z))];exact l
end
theorem Zo9{a:Addr}{o:Obj}{kvs:List (List Key×V)}{g:TG}{r:TS}{D:Ends}{c:St}{H:Hp}(d:Nat->St->Hp->Prop)(z:d 0 c H)(s:∀i c H,i<=kvs.length->d i c H->H a=some (.frz o<|.dT kvs))
    (B:∀i k v b c H,kvs[i]?=some (k,v)->H b=some (.tup<|k.map kV)->d i c H->g (.ref b) c H λh l=>r { D with nx:=d<|i+1,ct:=d<|i+1,bk:=D.nx } h l) (w:∀c H,d kvs.length c H->D.nx c H) :
    ∃W:Nat->Nat->St->Hp->Prop,(∃m,W 0 m c H)/\∀i m c H,W i m c H →
      ((Itk a o kvs).stop i H/\D.nx c H)\/((Itk a o kvs).go i H/\∃N:St->Hp->Prop,(∀j f,N j f->∃n,n<m/\W (i+1) n j f)/\∀x f,(Itk a o kvs).yld i H x f->g x c f λh l=>r { D with nx:=N,ct:=N,bk:=D.nx } h l):=by
  refine ⟨λi m c H=>m=kvs.length-i/\i<=kvs.length/\d i c H,⟨kvs.length,by simp,Q6 _,z⟩,?_⟩;rintro i m c H ⟨rfl,t,p⟩;have q:=s i c H t p
  by_cases hlt:i<kvs.length
  · refine .inr ⟨⟨hlt,q⟩,d<|i+1,λj f E=>⟨kvs.length-(i+1),⋯,rfl,hlt,E⟩,λx f y=>?_⟩
    obtain ⟨e,k,v,b,A,C,u⟩:=y;subst e C;exact B i k v b c _ A u p
  · have e:i=kvs.length:=⋯
    subst e;exact .inl ⟨⟨rfl,q⟩,w c H p⟩
section
variable{prog:Program}{w:World}{A:Around}{E:Value->Shared->Prop}{s:Shared}{it t:Addr}{i:Nat}{items:Array Value}
theorem ZjY{x:Value}{Q:Value->Shared->Prop}(a:s.heap.IsTupleIter it t i)(g:s.heap.IsTuple t items)(f:items[i]?=some x)
    (h:∀h',h'.IsTupleIter it t (i+1)->Heap.SameBut it s.heap h'->Q x { s with heap:=h' }) :
    wpAny (model prog w) A (Builtin.SmallTypes.nextOf<|.ref it) Q E s:=by
  obtain ⟨o,c,j,b⟩:=id a;obtain ⟨l,e,_,k,d⟩:=g;unfold Builtin.SmallTypes.nextOf;refine wpAny_bind<|wpAny_callSpecial?_slot (name:=Str.ofString "__next__") a.typeIs PySem.F.slot_tuple_iterator_next
    (wpAny_call_entry PySem.F.slot_tuple_iterator_next a.typeIs PySem.F.entry_tuple_iterator_next ?_<|PySem.F.args_tuple_iterator_next_1 _)
  show wpAny _ _ (field (.ref it) 0 >>= _) _ _ s;refine wpAny_bind<|wpAny_field c b (x:=.ref t) rfl ?_;show wpAny _ _ (if (Value.ref t==Value.none)=true then _ else _) _ _ s;rw[if_neg (show ¬((Value.ref t==Value.none)=true) from Qg)];show wpAny _ _ (field (.ref it) 1 >>= _) _ _ s;refine wpAny_bind<|wpAny_field c b (x:=.int i 0) rfl ?_;show wpAny _ _ (seqItems? (.ref t) >>= _) _ _ s;refine wpAny_bind<|wpAny_seqItems e d ?_
  simp only[Qa,f]
  refine wpAny_bind<|wpAny_setField c b (by simp)<|wpAny_pure ⟨x,rfl,wpAny_pure<|h _ ?_<|Heap.SameBut.update ..⟩;exact ⟨_,Heap.get?_update_self _ c<|Obj.isFreed_of_fields<|Obj.data_mapFields b _,(Obj.cls_mapFields ..).trans j,by
    rw[Obj.data_mapFields b]; simp[rawInt]⟩
theorem Zll{Q:Value->Shared->Prop}(h:A.handled=none)(b:s.heap.IsTupleIter it t i)(l:s.heap.IsTuple t items)(k:items[i]?=none)
    (j:∀h' e,Heap.ExtBut it s.heap h'->(∃o,h'.get? e=some o/\o.cls = .type "StopIteration")->E (.ref e) { s with heap:=h' }) :
    wpAny (model prog w) A (Builtin.SmallTypes.nextOf<|.ref it) Q E s:=by
  obtain ⟨o,d,q,f⟩:=id b;obtain ⟨p,g,_,n,c⟩:=l;unfold Builtin.SmallTypes.nextOf;refine wpAny_bind<|wpAny_callSpecial?_slot (name:=Str.ofString "__next__") b.typeIs PySem.F.slot_tuple_iterator_next
    (wpAny_call_entry PySem.F.slot_tuple_iterator_next b.typeIs PySem.F.entry_tuple_iterator_next ?_<|PySem.F.args_tuple_iterator_next_1 _)
  show wpAny _ _ (field (.ref it) 0 >>= _) _ _ s;refine wpAny_bind<|wpAny_field d f (x:=.ref t) rfl ?_;show wpAny _ _ (if (Value.ref t==Value.none)=true then _ else _) _ _ s;rw[if_neg (show ¬((Value.ref t==Value.none)=true) from Qg)];show wpAny _ _ (field (.ref it) 1 >>= _) _ _ s;refine wpAny_bind<|wpAny_field d f (x:=.int i 0) rfl ?_;show wpAny _ _ (seqItems? (.ref t) >>= _) _ _ s;refine wpAny_bind<|wpAny_seqItems g c ?_
  simp only[Qa,k]
  refine wpAny_bind<|wpAny_rule<|wpAny_bind<|wpAny_setField d f (by simp) ?_;show wpAny _ _ (newExc (.type "StopIteration") [] >>= _) _ _ _;refine wpAny_bind ?_
  simp only[newExc,newTuple]
  refine wpAny_bind<|wpAny_newObj_type ?_ (by size_fits);refine wpAny_bind (m:=firstArgMember _ _)<|wpAny_of_eq (a:=Value.none) (by first | rfl | (simp only[firstArgMember]; rfl)) ?_;refine wpAny_newObj_type ?_ (by size_fits)
  simp only[raiseNew]
  refine wpAny_bind<|wpAny_handled ?_
  first | rw[show A.in1.handled=none from h] | rw[h]
  refine wpAny_bind<|wpAny_pure<|wpAny_throw ?_;exact j _ _ (((Heap.SameBut.update ..).extBut.push _).push _) ⟨_,Heap.get?_push_size _ rfl,rfl⟩
end
theorem Zht{prog:Program}{w:World}{A:Around}(k:A.handled=none)(it t:Addr)(d:t≠it)(items:Array Value) :
    Draws prog w A it [it,t] items.size (λi v=>items[i]?=some v) (λi h=>h.IsTupleIter it t i/\h.IsTuple t items) where
  live:=λ_ _ a=>let ⟨o,ho,_⟩:=a.1; ⟨o,ho⟩
  frame:=λ_ _ _ a e=>⟨let ⟨o,ho,r⟩:=a.1; ⟨o,e it (by simp) o ho,r⟩,let ⟨o,ho,r⟩:=a.2; ⟨o,e t (by simp) o ho,r⟩⟩
  item:=λi s Q E f a l=>by
    refine ZjY a.1 a.2 (x:=items[i]) (by simp[f]) λj b c=>?_;exact l _ j s.toks (by simp[f]) ⟨b,a.2.extBut c.extBut d⟩ c
  done:=λs Q E a g=>Zll k a.1 a.2 (by simp) g
set_option maxRecDepth 100000 in
set_option maxHeartbeats 2000000 in
theorem Zlm(l:Addr)(items:Array Value)(n:Nat)(e:Option Addr)(m:Array (Option Value)) :
    Meets (Builtin.«enumerate.__new__» ⟨[.type "enumerate", .ref l],[]⟩) (λ_ R s=>s.heap.get? l=some { cls:=.type "tuple", dict:=e,data:=.seq items n,slots:=m } ∧
      R (.ok<|.ret<|.ref (s.heap.push { cls:=.type "tuple_iterator", data:=.fields #[.ref l,.int 0 0] }).objs.size)
        { s with heap:=(s.heap.push { cls:=.type "tuple_iterator", data:=.fields #[.ref l,.int 0 0] }).push { cls:=.type "enumerate", data:=.fields #[.none,.bool false,.ref s.heap.objs.size,rawInt 0,.none,.none] } }) :=
  .of_wp λf w A R s h=>by
    obtain ⟨k,g,d,j,o⟩:=s; obtain ⟨a,h⟩:=h;have i:=sub_enumerate;have b:Heap.IsTuple (Shared.heap ⟨k,g,d,j,o⟩) l items:=⟨_,a,rfl,n,rfl⟩
    wp_walk using AutoSeq1.wpAny_loadPart' a
    refine wpAny_stack_any λp=>wpAny_pure ?_
    split
    · rename_i c _ _ _ _ _
      cases (c==Value.type "enumerate")
      · wp_walk using AutoSeq1.wpAny_loadPart' a,wpAny_pyIter_tuple b
        exact ⟨_,rfl,h⟩
      · wp_walk using AutoSeq1.wpAny_loadPart' a,wpAny_pyIter_tuple b
        exact ⟨_,rfl,h⟩
    · wp_walk using AutoSeq1.wpAny_loadPart' a,wpAny_pyIter_tuple b
      exact ⟨_,rfl,h⟩
theorem ZmX{prog:Program}{w:World}{A:Around}{E:Value->Shared->Prop}{s:Shared}{l:Addr}{items:Array Value}{Q:Value->Shared->Prop}(j:s.heap.IsTuple l items)
    (h:∀h',IsEnum h' (s.heap.objs.size+1) s.heap.objs.size 0 .none->h'.IsTupleIter s.heap.objs.size l 0->h'.objs.size=s.heap.objs.size+2 →
      (∀b o,s.heap.get? b=some o->h'.get? b=some o)->Q (.ref<|s.heap.objs.size+1) { s with heap:=h' }) :
    wpAny (model prog w) A (call (.type "enumerate") [.ref l]) Q E s:=by
  obtain ⟨⟨c,d,m,p⟩,k,g,n,e⟩:=j
  replace g:c = .type "tuple" := g
  replace e:m = .seq items n:=e
  subst g e;refine callType_new PySem.F.called_enumerate ∅ (PySem.F.typeCall_enumerate_1 _) (PySem.F.newCall_enumerate_1 _) (λa=>PySem.F.args_object_init_2 a _) PySem.F.entry_enumerate_new
    (Zlm l items n d p) ⟨k,?_⟩
  have f:(s.heap.push { cls:=.type "tuple_iterator", data:=.fields #[.ref l,.int 0 0] }).objs.size=s.heap.objs.size+1:=Heap.size_push ..;show _/\_;rw[f];have i:IsEnum ((s.heap.push { cls:=.type "tuple_iterator", data:=.fields #[.ref l,.int 0 0] }).push
      { cls:=.type "enumerate", data:=.fields #[.none,.bool false,.ref s.heap.objs.size,rawInt 0,.none,.none] }) (s.heap.objs.size+1) s.heap.objs.size 0 .none:=by
    have:=Heap.get?_push_size (s.heap.push { cls:=.type "tuple_iterator", data:=.fields #[.ref l,.int 0 0] })
      (o:={ cls:=.type "enumerate", data:=.fields #[.none,.bool false,.ref s.heap.objs.size,rawInt 0,.none,.none] }) rfl
    rw[f] at this; exact this
  refine ⟨⟨_,i,rfl⟩,h _ i ⟨_,Heap.get?_push_of_some _<|Heap.get?_push_size _ rfl,rfl,rfl⟩ (by rw[Heap.size_push,f]) λb o x=>Heap.get?_push_of_some _<|Heap.get?_push_of_some _ x⟩
def Ite(K:ZZfg)(a:Addr):It :=
  ⟨λi H=>∃b x,SqT K H a b/\b[i]?=some x,
   λi H v c=>∃T,H T=none/\v = .ref T/\∃x,(∀b,SqT K H a b->b[i]?=some x)/\c=upd H T (.tup [.int (i:Int),x]),
   λi H=>∃b,SqT K H a b/\b.length=i⟩
theorem ZmY{P:Program}{w:World}{K:ZZfg}{B:List Expr}{k0}{S:Pos}{a e it:Addr}(n1:e≠it)(n2:a≠it)(n3:e≠a) :
    Turn P w K (.Tuple B k0 S) (Ite K a) [e,it] e (λi h=>(∃f,IsEnum h e it i f)/\h.IsTupleIter it a i) where
  mem:=by simp
  obj:=λi h ⟨⟨f,g⟩,⟨o,M,_,d⟩⟩ c b=>by
    simp only[Qe,Wc,or_false] at b
    rcases b with rfl | rfl
    · exact ⟨_,g,λv e=>nomatch (show Data.fields _=Data.cell v from e)⟩
    · exact ⟨o,M,λv e=>by rw[d] at e; cases e⟩
  keep:=λi h Q ⟨⟨f,g⟩,⟨o,M,r⟩⟩ k=>⟨⟨f,k e (by simp) _ g⟩,⟨o,k it (by simp) _ M,r⟩⟩
  item:=by
    intro X q L T b i l s Z H E I F ⟨⟨f,g⟩,j⟩ O;subst q L T;obtain ⟨W,x,G,D⟩:=O;obtain ⟨its,J,p,_⟩:=I.tuple G;have p:s.heap.IsTuple a its.toArray:=p;have hl:=J.length;have hi:i<W.length:=(Qn.mp D).1;obtain ⟨u,hu,ru⟩:=J.get D;refine wpAny_pyNext_enum_itemD (Zht (prog:=X.prog) (w:=X.w) (A:=X.A.in1) (I.ok.hd b) it a n2 its.toArray) g ⟨j,p⟩ (by rw[Qd]; omega) n1 (by simp only[Qe,Wc,or_false]; exact λz=>z.elim n1 n3) λy Q C q ho N hT a0 hk=>?_;have ey:y=u:=by
      have h1:its.toArray[i]?=some y:=q;have t:its.toArray[i]?=some u:=by simpa using hu
      rw[h1] at t;exact Option.some.inj t
    subst ey;refine ⟨_,rfl,wpAny_letOwnedTupleGo_enum (s:={ s with heap:=Q,toks:=C+1 }) ho λt U m=>?_⟩;have Y:e<s.heap.objs.size:=Heap.lt_size g;have R:it<s.heap.objs.size:=let ⟨_,z,_⟩:=j; Heap.lt_size z;have kz:∀c o,c∉[e,it]->s.heap.get? c=some o->t.get? c=some o:=λc o b z=>by
      simp only[Qe,Wc,or_false,not_or] at b
      exact (m.2 c b.1).trans<|hk c o b.1 b.2 z
    have n:=I.hok.fresh<|Q2 s.heap.objs.size;have I2:Inv X l Z (upd H s.heap.objs.size<|.tup [.int (i:Int),x]) { s with heap:=t,toks:=C+1 }:=I.multiT (t':=C+1) (its:=[.int i C,y]) F kz (Q2 _) ⟨_,(m.2 _<|Wi Y).trans hT,rfl,_,rfl⟩ (.cons ⟨_,rfl⟩<|.cons ru .nil) (by show 2<=sizeLine; decide);refine ⟨.ref s.heap.objs.size,_,I2,rfl,⟨_,n,rfl,x,λa1 z=>by rw[I.tuple_inj z G]; exact D,rfl⟩,⟨⟨_,by simpa using U⟩,N.1.extBut m.extBut<|Ne.symm n1⟩,λc b=>?_⟩;have lt:c<s.heap.objs.size:=by
      simp only[Qe,Wc,or_false] at b
      rcases b with rfl | rfl
      · exact Y
      · exact R
    rw[Zaj<|Q8 lt];exact (F c b).1
  done:=by
    intro X q L T b i l s Z H E I F ⟨⟨f,g⟩,j⟩ O;subst q L T;obtain ⟨W,G,D⟩:=O;obtain ⟨its,J,p,_⟩:=I.tuple G;have p:s.heap.IsTuple a its.toArray:=p;have hl:=J.length;have ei:its.toArray.size=i:=by rw[Qd]; omega
    refine wpAny_pyNext_enum_endD (Zht (prog:=X.prog) (w:=X.w) (A:=X.A.in1) (I.ok.hd b) it a n2 its.toArray) g (by rw[ei]; exact ⟨j,p⟩) λQ k=>⟨rfl,I.multi (t':=s.toks) F λc o b z=>?_⟩
    simp only[Qe,Wc,or_false,not_or] at b
    exact k c o b.2 z
  self:=λ_ _ _ _ _ ⟨⟨_,g⟩,_⟩ h=>wpAny_pyIter_enum g h
section
variable{X:Cx}
def Zty(K:ZZfg)(c:TA):TI:=λe H R=>c e H λf b=>∃a,f=[.ref a]/\(∃d,SqT K b a d)/\R (Ite K a) b
theorem ZqG{e1:Expr}{j:List Expr}{k0}{g:Pos}{r:TA}{p d:Pos}(B:Gl X "enumerate") (C:X.mg "enumerate" = none) (w:PA X [e1] r) (G:starEach [e1] X.env=[(false,eval e1 X.env)]:=by rfl) :
    PI X (.Tuple j k0 g) (.Call (.Name "enumerate" p) [e1] [] d) (Zty X.K r):=by
  intro f s K H R I h;refine wpAny_Call_Name_kw<|ZdE I B C PyProof.Rows.Boot.«enumerate»<|PyProof.Rows.callWith_type1 (thn (w d f s K H _ I h) λM b ⟨N,A,l,E,D⟩=>?_) (by rw[G]; rfl) (by rfl);obtain ⟨a,e,⟨L,J⟩,q⟩:=D;subst e;obtain ⟨u,rfl,x⟩:=ZfJ E
  cases (show u=Value.ref a from x)
  obtain ⟨m,_,pl,_⟩:=l.tuple J;have pl:b.heap.IsTuple a m.toArray:=pl;have t:a<b.heap.objs.size:=by obtain ⟨o,e,_⟩:=pl; exact Heap.lt_size e
  refine ZmX pl λF n y z k=>?_;refine wpAny_pyIter_enum (s:={ b with heap:=F }) n ?_;refine ⟨_,[b.heap.objs.size+1,b.heap.objs.size],_,_,A,rfl,l.kept (t':=b.toks) k,ZmY (a:=a) (e:=b.heap.objs.size+1) (it:=b.heap.objs.size) (Wi<|Wp _) (Q8 t)<|Wi<|Um t,⟨⟨_,n⟩,y⟩,λc v=>?_,q⟩;have i:b.heap.objs.size<=c:=by
    simp only[Qe,Wc,or_false] at v
    rcases v with rfl | rfl <;> omega
  exact l.fpOk i<|l.hok.fresh i
def ZqH(K:ZZfg)(t:TE):TT:=λd H Q=>t d H λx b=>∃a c,x = .ref a/\SqT K b a c/\Q (!c.isEmpty) b
theorem ZqI{e:Expr}{t:TE}(h:PE X e t)(k:∀b,isTrue e X.env b=(do let v ← b; standAt e.pos; holding [v] (truthy v)):=by intro _; rfl):PT X e (ZqH X.K t):=by
  intro d s u H Q I n;refine isTrue_plain (thn (h d s u H _ I n) λv y ⟨x,r,g,m,l⟩=>?_)<|k _;obtain ⟨a,i,rfl,o,q⟩:=l
  cases (show v=Value.ref a from m)
  obtain ⟨c,j,p,w⟩:=g.tuple o;have f:=j.length;refine truthy_tuple p ?_ ?_
  · have:sizeLine<2^62:=∅
    rw[Qd];omega
  · have e:(c.toArray.isEmpty)=i.isEmpty:=by
      cases i with
      | nil=>cases c with
        | nil=>rfl
        | cons _ _=>simp at f
      | cons _ _=>cases c with
        | nil=>simp at f
        | cons _ _=>rfl
    rw[e];exact ⟨r,g.tok _,q⟩
end
theorem Zln:∀ {xs:List V} {us:List Value},xs.length=us.length->(∀(i:Nat) x u,xs[i]?=some x->us[i]?=some u->RelV x u)->Vals xs us
 | [],[],_,_ => .nil
 | [],_::_,h,_=>by simp at h
 |_::_,[],h,_=>by simp at h
 |x::xs,u::us,h,k => .cons (k 0 x u rfl rfl)<|Zln (by simpa using h) λi y z a b=>k (i+1) y z (by simpa using a) (by simpa using b)
def ZsZ(s:Shared)(a c:Int)(n:Nat)(f:Result)(g:Shared):Prop:=∃(e:Heap) (h:Nat) (d:Array Value) (j:Nat),f = .ok (.ret<|.ref s.heap.objs.size)/\g={ s with heap:=e,toks:=h }/\(∀b o,s.heap.get? b=some o->e.get? b=some o)/\e.get? s.heap.objs.size=some { cls:=.type "list", dict:=none,data:=.seq d j,slots:=#[] }/\ItemsOf (λi v=>∃t,v = .int (a+i*c) t) d n
section
variable{prog:Program}{w:World}{A:Around}{E:Value->Shared->Prop}{s:Shared}
theorem Zia{Q:List Value->Shared->Prop}{r:Addr}{a b c:Int}{t u v:Tok}{n:Nat}(B:A.handled=none)(y:IsRange s.heap r a b c t u v)(g:Builtin.Range.small a b c=true)
    (z:Builtin.Range.rangeSize a b c=n) (p:n<=2^24)
    (C:∀h' k m,(∀b o,s.heap.get? b=some o->h'.get? b=some o)->ItemsOf (λi v=>∃t,v = .int (a+i*c) t) m n->Q m.toList { s with heap:=h',toks:=k }) :
    wpAny (model prog w) A (collect<|.ref r) Q E s:=by
  have H:r<s.heap.objs.size:=Heap.lt_size y;unfold collect;refine wpAny_bind<|wpAny_runValue<|codeAny_builtin PySem.F.entry_proto_collect ?_;rw[Around.under_plainId PySem.F.plain_proto_collect _];show wpAny _ A.in1 (newList [] >>= λl=>again<|.builtin "list.__iadd__" ⟨[l,.ref r],[]⟩) _ _ s;refine wpAny_bind<|wpAny_newObj_type ?_;have j:(s.heap.push { cls:=.type "list", data:=.seq ([]:List Value).toArray }).get? s.heap.objs.size=some { cls:=.type "list", data:=.seq ([]:List Value).toArray }:=Heap.get?_push_size _ rfl;refine wpAny_pure ⟨plainId_quiet PySem.F.plain_list_iadd _,codeAny_mono (codeAny_builtin (R:=ZsZ s a c n) PySem.F.entry_list_iadd ?_) λG F D=>?_⟩
  · rw[Around.under_plainId PySem.F.plain_list_iadd _]
    show wpAny _ A.in1 (Builtin.List.listExtendWith (.ref s.heap.objs.size) (.ref r)<|.ref s.heap.objs.size) _ _ _;exact wpAny_extend_range (R:=ZsZ s a c n) (prog:=prog) (w:=w) (s:={ s with heap:=s.heap.push { cls:=.type "list", data:=.seq ([]:List Value).toArray } }) (A:=A) B (Heap.get?_push_of_some _ y) g z p s.heap.objs.size (.ref s.heap.objs.size) _ j λh' k f x q h d=>⟨h',k,f,x,rfl,rfl,λb o e=>q b o (Q8<|Heap.lt_size e)<|Heap.get?_push_of_some _ e,h,d⟩
  · obtain ⟨h',k,f,x,rfl,rfl,q,h,d⟩:=D
    show wpAny _ A (load s.heap.objs.size >>= _) _ _ _;refine wpAny_bind<|wpAny_load h ?_;exact wpAny_pure<|C h' k f q d
end
set_option maxRecDepth 100000 in
theorem ZjZ(r:Addr)(a b c:Int)(t u v:Tok)(n:Nat)(f:Builtin.Range.small a b c=true)(C:Builtin.Range.rangeSize a b c=n)(j:n<=1000) :
    Meets (Builtin.«tuple.__new__» ⟨[.type "tuple", .ref r],[]⟩)
      (λA R s=>A.handled=none/\IsRange s.heap r a b c t u v/\∀(h':Heap) (k:Nat) (d:Array Value),(∀b o,s.heap.get? b=some o->h'.get? b=some o)->ItemsOf (λi v=>∃t,v = .int (a+i*c) t) d n →
        R (.ok<|.ret<|.ref h'.objs.size) { s with heap:=h'.push { cls:=.type "tuple", data:=.seq d },toks:=k }) :=
  .of_wp λp w A R s h=>by
    obtain ⟨E,x,h⟩:=h;have q:=sub_tuple_self;have m:=init_tuple_lookup;have y:=madeHere_tuple;have D:s.TypeIs (.ref r) "range" := ⟨_,x,rfl⟩;have l:A.in1.handled=none:=E;have B:n<=sizeLine:=Qx (ZaR j)
    wp_walk using wpAny_typeOf D,Zia l x f C<|Q1 j ∅
    intro h' k d z g;show wpAny _ _ (Builtin.Tuple.tupleExact d.toList.toArray >>= λv=>ret v) _ _ _;unfold Builtin.Tuple.tupleExact;refine wpAny_bind<|wpAny_newObj_type ?_ (show d.toList.toArray.size<=sizeLine by simp only[Array.toArray_toList]; rw[g.1]; exact B);refine wpAny_pure ⟨_,rfl,?_⟩;have e:d.toList.toArray=d:=by simp
    rw[e];exact h h' k d z g
section
variable{prog:Program}{w:World}{A:Around}{E:Value->Shared->Prop}{s:Shared}
theorem Zlo{Q:Value->Shared->Prop}{r:Addr}{a b c:Int}{t u v:Tok}{n:Nat}(p:A.handled=none)(q:IsRange s.heap r a b c t u v)(d:Builtin.Range.small a b c=true)
    (m:Builtin.Range.rangeSize a b c=n) (g:n<=1000)
    (h:∀(h':Heap) (k:Nat) (e:Array Value),(∀b o,s.heap.get? b=some o->h'.get? b=some o)->ItemsOf (λi v=>∃t,v = .int (a+i*c) t) e n->Q (.ref h'.objs.size) { s with heap:=h'.push { cls:=.type "tuple", data:=.seq e },toks:=k }) :
    wpAny (model prog w) A (call (.type "tuple") [.ref r]) Q E s:=by
  refine callType_new PySem.F.called_tuple ∅ (PySem.F.typeCall_tuple_1 _) (PySem.F.newCall_tuple_1 _) (λj=>PySem.F.args_object_init_2 j _) PySem.F.entry_tuple_new
    (ZjZ r a b c t u v n d m g) ⟨p,q,λh' k e l f=>⟨⟨_,Heap.get?_push_size _ rfl,rfl⟩,h h' k e l f⟩⟩
end
section
variable{X:Cx}{e1:Expr}{ta:TA}{p p2 pos pos2:Pos}
def Zse(ta:TA):TE:=λb H Q=>ta b H λc a=>∃n:Nat,c=[.int (n:Int)]/\n<=1000/\∀p,a p=none->Q (.ref p) (upd a p<|.tup<|(List.range n).map λ(i:Nat)=>V.int (i:Int))
theorem Zlp(m:Gl X "tuple") (o:X.mg "tuple" = none) (K:Gl X "range") (M:X.mg "range" = none) (c:X.calm=true) (D:PA X [e1] ta) (R:starEach [e1] X.env=[(false,eval e1 X.env)]:=by rfl) (d:starEach [.Call (.Name "range" p) [e1] [] pos] X.env=[(false,eval (.Call (.Name "range" p) [e1] [] pos) X.env)]:=by rfl) :
    PE X (.Call (.Name "tuple" p2) [.Call (.Name "range" p) [e1] [] pos] [] pos2) (Zse ta):=by
  intro j s S H Q I h;refine wpAny_Call_Name_kw<|ZdE I m o boot_tuple ?_;refine PyProof.Rows.callWith_type1 ?_ (by rw[d]; rfl) (by rfl);rw[d];show wpAny _ _ (spliced ((false,eval (.Call (.Name "range" p) [e1] [] pos) X.env)::backTo pos2 (starEach [] X.env))) _ _ s;refine Calls.spliced_cons ?_;refine wpAny_Call_Name_kw<|ZdE I K M boot_range<|PyProof.Rows.callWith_type1 (thn (D pos j s S H _ I h) λU g ⟨W,T,r,P,N⟩=>?_) (by rw[R]; rfl) (by rfl);obtain ⟨n,e,x,q⟩:=N;subst e;obtain ⟨u,rfl,t,rfl⟩:=ZfJ P;refine call_range_1<|Calls.spliced_nil ?_;have L:Builtin.Range.small 0 (n:Int) 1=true:=small_one ⋯ ⋯ ⋯ ⋯;have G:Builtin.Range.rangeSize 0 (n:Int) 1=n:=by
    unfold Builtin.Range.rangeSize;rw[if_pos ∅]
    simp only[Int.ediv_one]
    split <;> omega
  refine Zlo (r.ok.hd c) (IsRange.new ..) L G x λh' A a w f=>?_;obtain ⟨B,J⟩:=f;have F:∀b k,g.heap.get? b=some k->(h'.push { cls:=.type "tuple", data:=.seq a }).get? b=some k:=λb k e=>Heap.get?_push_of_some _<|w b k<|Heap.get?_push_of_some _ e;have v:g.heap.objs.size<=h'.objs.size:=by
    have C:g.heap.objs.size<h'.objs.size:=Heap.lt_size<|w g.heap.objs.size _<|Heap.get?_push_size g.heap rfl;exact Qx C
  refine ⟨.ref _,_,r.laid (t':=A) (h':=h'.push { cls:=.type "tuple", data:=.seq a }) F v ?_,rfl,q _<|r.hok.fresh v⟩;refine ⟨by rw[Q0,Q9]; exact Qx<|ZaR x,a.toList,Zln (by rw[Q0,Q9,Ux,B])<|λi y z l O=>?_,⟨_,Heap.get?_push_size _ rfl,rfl,0,by simp⟩⟩;have E:i<n:=by
    have:=(Qn.mp l).1
    rwa [Q0,Q9] at this
  rw[Q4,Qj E] at l
  cases l
  obtain ⟨t',rfl⟩:=J i z (by rw[<-O,Array.getElem?_toList]);exact ⟨t',by rw[show (0:Int)+(i:Int)*1=(i:Int) by omega]⟩
end
end L2
namespace My
open PySem L2 PyProof.Rows
def top(i:Nat):Stmt:=PySem.Challenge.pw_turnframe_k49_tables_of_polynomials.main.body.getD i<|.Pass ⟨0,0,0,0⟩
abbrev Zce:Stmt:=top 13
abbrev Zgm:Stmt:=top 14
abbrev Zek:Stmt:=top 15
abbrev Zcf:Stmt:=top 16
abbrev Zb3:Stmt:=top 17
abbrev Zel:Stmt:=top 18
abbrev Zlq:Stmt:=top 19
abbrev ZdK:Stmt:=top 20
abbrev Zgn:Stmt:=top 21
abbrev Zde:Stmt:=top 22
abbrev Zgo:Stmt:=top 23
abbrev Zem:Stmt:=top 24
abbrev Zcp:Stmt:=top 25
abbrev ZdL:Stmt:=top 26
abbrev Zb4:Stmt:=top 27
abbrev Zib:Stmt:=top 28
abbrev Zen:Stmt:=top 31
abbrev Zfd:Stmt:=top 32
abbrev Zgp:Stmt:=top 33
abbrev Zdf:Stmt:=top 34
abbrev Zeo:Stmt:=top 35
abbrev Zfe:Stmt:=top 36
abbrev Zep:Stmt:=top 38
abbrev Zcw:Stmt:=top 39
abbrev ZdM:Stmt:=top 40
abbrev ZcL:Stmt:=top 41
abbrev ZbU:Stmt:=top 42
abbrev Zic:Stmt:=top 43
abbrev ZbF:Stmt:=top 44
abbrev ZcM:Stmt:=top 45
abbrev Zba:Stmt:=ZaP (top 47) 1
abbrev Zbl:Stmt:=ZaP (top 47) 2
abbrev ZaY:Stmt:=ZaP (top 48) 0
abbrev ZbV:Stmt:=ZaP (top 48) 1
abbrev ZbG:Stmt:=ZaP (top 48) 2
abbrev ZbH:Stmt:=ZaP (top 48) 3
abbrev ZeP:Stmt:=ZaP (top 48) 4
abbrev ZaV:Stmt:=ZaP (top 48) 5
abbrev Za0:Stmt:=ZaP (top 48) 6
abbrev Zbc:Stmt:=ZaP (top 48) 8
abbrev Zbd:Stmt:=ZaP (top 48) 9
abbrev ZbW:Stmt:=ZaP (top 49) 0
abbrev Zbm:Stmt:=ZaP (top 49) 1
abbrev Zdg:Stmt:=ZaP (top 49) 2
abbrev ZcN:Stmt:=ZaP (top 49) 3
abbrev ZcO:Stmt:=ZaP (top 49) 4
abbrev Za5:Stmt:=ZaP (top 49) 6
abbrev ZbI:Stmt:=ZaP (top 49) 7
abbrev ZbJ:Stmt:=ZaP (top 49) 8
abbrev Zff:Stmt:=top 51
abbrev Zbq:Stmt:=top 52
abbrev ZbX:Stmt:=ZaP (top 53) 0
abbrev Zbn:Stmt:=ZaP (top 53) 1
abbrev Zdh:Stmt:=ZaP (top 53) 2
abbrev ZcP:Stmt:=ZaP (top 53) 3
abbrev ZcQ:Stmt:=ZaP (top 53) 4
abbrev ZbK:Stmt:=ZaP (top 53) 7
abbrev Zbe:Stmt:=ZaP (top 53) 8
abbrev ZbY:Stmt:=top 55
abbrev ZbL:Stmt:=top 56
abbrev Zd5:Stmt:=top 57
abbrev Zfg:Stmt:=top 59
abbrev ZdN:Stmt:=top 60
abbrev Zdi:Stmt:=top 61
abbrev Zfh:Stmt:=top 62
abbrev Zdj:Stmt:=top 63
abbrev Zgq:Stmt:=top 64
abbrev Zdk:Stmt:=top 65
abbrev Zgr:Stmt:=top 66
abbrev Zgs:Stmt:=top 67
abbrev Zfi:Stmt:=top 68
abbrev ZcR:Stmt:=top 70
abbrev Zfj:Stmt:=top 71
abbrev Zfk:Stmt:=top 72
abbrev Zgt:Stmt:=top 73
abbrev Zgu:Stmt:=top 74
abbrev ZdO:Stmt:=top 75
abbrev ZcS:Stmt:=top 76
abbrev Zcx:Stmt:=top 77
abbrev ZdP:Stmt:=top 78
abbrev Zid:Stmt:=top 79
abbrev Zie:Stmt:=top 80
abbrev ZdQ:Stmt:=top 81
abbrev Zgv:Stmt:=top 82
abbrev Zdl:Stmt:=top 83
abbrev ZdR:Stmt:=top 84
abbrev Zfl:Stmt:=top 85
abbrev Zgw:Stmt:=top 86
abbrev Zgx:Stmt:=top 87
abbrev Zpa:Stmt:=top 88
structure Nm (mg:ZZmg):Prop where
 abs:mg "abs"=none
 isinstance:mg "isinstance"=none
 int:mg "int"=none
 bool:mg "bool"=none
 tuple:mg "tuple"=none
 list:mg "list"=none
 len:mg "len"=none
 range:mg "range"=none
 PB:∃t,mg "PRIME_BOUND"=some (.int 1000000 t)
theorem nm_mk{a:ZZmg}{v:Value}(j:a "PRIME_BOUND"=some v) (b:∃t,v = .int 1000000 t) (f:a "abs"=none) (l:a "isinstance"=none) (g:a "int"=none) (h:a "bool"=none) (d:a "tuple"=none) (i:a "list"=none) (k:a "len"=none) (c:a "range"=none):Nm a :=
 ⟨f,l,g,h,d,i,k,c,let ⟨t,e⟩:=b;⟨t,by rw[j,e]⟩⟩
structure Kd (K:ZZfg) (mg:ZZmg) (CF CR:Addr):Prop where
 clF:Cls K CF
 clR:Cls K CR
 nP:NoAttr K CR "prime"
 mkF:Mk0 K CF
 mgF:mg "Fractions"=some (.ref CF)
 mgR:mg "Rests"=some (.ref CR)
def fsR(p:Int):List (Str×V):=Zhb "prime" (.int p) []
theorem ZbS(p:Int):(fsR p).lookup ("prime":Str)=some (.int p):=by
 unfold fsR;rw[ZcI,if_pos rfl]
theorem Zfm(p:Int){m:Str}(h:¬m ="prime"):(fsR p).lookup m=none:=by
 unfold fsR;rw[ZcI,if_neg h]
 rfl
structure Fc (a b:Int):Prop where
 pos:0<b
 cop:Int.gcd a b=1
def FrA(CF:Addr)(H:Hp)(a:Addr):Prop:=∃b,H a=some (.ins CF b [])
theorem Zlr{b:Int}(h:0<b):0<b.natAbs:=Ub<|Int.natAbs_ne_zero.mpr<|Int.ne_of_gt h
inductive ZaX (vs:List V) (H:Hp) (Q:VK) (zE:XK):Prop
 |mk (a b:Int) (_:vs=[.int a,.int b]) (_:Q (.int (Int.gcd a b)) H):ZaX vs H Q zE
section
variable{P:Program}{w:World}{K:ZZfg}{mg:ZZmg}{base:Heap}
theorem sc_divisor:FnScope ["one","other","rest"] ["one","other"] (Zab Zfd):=‹2›
theorem Zj0(h:Here K mg "divisor" Zfd) (T:Nm mg):Has P w K mg base "divisor" 1 ["one", "other"] ZaX:=by
  refine h.has (λ_ _ F=>F.b2 λ_ _ _ _ _ _ _ _=>rfl) λf p F=>F.ok sc_divisor (λn H Q E h=>?_)<|λo A d s H n Q E q h=>?_
  · obtain ⟨a,b,rfl,_⟩:=h
    rfl
  obtain ⟨x,y,rfl,k⟩:=h;have e:=sc_divisor.nd;refine ⟨_,(Zad (Zcn PassesOwn.never (Zav Zda (pv 1) Zac<|Zay _)<|Zad (ZaG (i:=2) e rfl (Or.inl rfl)<|Zam Zbr (pv 0)<|pv 1)
      (Zad (ZaG (i:=0) e rfl (Or.inl rfl)<|pv 1)
      (Zag<|ZaG (i:=1) e rfl (Or.inl rfl)<|pv 2)))
    (Zag<|Zar<|Zan Zi1 (by rfl) T.abs boot_abs<|Zaa (pv 0) Zae)),?_⟩
  refine ⟨λm l j=>∃(a b:Int) (r:Option V),m=b.natAbs/\l=[some<|.int a,some<|.int b,r]/\j=H/\Int.gcd a b=Int.gcd x y,⟨_,x,y,none,rfl,rfl,rfl,rfl⟩,?_⟩;rintro m l j ⟨a,b,r,rfl,rfl,rfl,g⟩;refine ⟨_,rfl,rfl,_,rfl,?_⟩;refine ZeG (λc=>⟨_,λ_ _ h=>h,?_⟩)<|λc=>?_
  · refine ⟨_,rfl,_,rfl,_,_,rfl,rfl,c,_,rfl,_,rfl,?_⟩
    exact ⟨_,M1.fmod_lt a c,b,a.fmod b,_,rfl,rfl,rfl,by rw[M1.fmod_gcd]; exact g⟩
  · refine ⟨_,rfl,_,rfl,?_⟩
    subst c;rw[<-M1.gcd_zero' a,g];exact k
theorem sc_l_divisor:FnScope ["_law_one","_law_other"] ["_law_one","_law_other"] (Zab ZdN):=‹2›
theorem Zhu(h:Here K mg "_law_divisor" ZdN) (T:Nm mg):Has P w K mg base "_law_divisor" 1 ["_law_one","_law_other"] ZaX:=by
 refine h.has (λ_ _ F=>F.b2 λ_ _ _ _ _ _ _ _=>rfl) λf q F=>F.ok sc_l_divisor (λn H Q E h=>?_)<|λo A d s H n Q E r h=>?_
 ·obtain ⟨a,b,rfl,_⟩:=h
  rfl
 obtain ⟨x,y,rfl,k⟩:=h;have p:=sc_l_divisor.nd;refine ⟨_,(Zad (Zcn PassesOwn.never (Zav Zda (pv 1) Zac<|Zay _)<|Zag<|Zp8 (i:=0) (j:=1) rfl p rfl rfl ∅ rfl rfl (Zaa (pv 1)<|Zaa (Zam Zbr (pv 0)<|pv 1) Zae) rfl)
  (Zag<|Zar<|Zan Zi1 (by rfl) T.abs boot_abs<|Zaa (pv 0) Zae)),?_⟩
 refine ⟨λm l e=>∃(a b:Int),m=b.natAbs/\l=[some<|.int a,some<|.int b]/\e=H/\Int.gcd a b=Int.gcd x y,⟨_,x,y,rfl,rfl,rfl,rfl⟩,?_⟩;rintro m l e ⟨a,b,rfl,rfl,rfl,g⟩;refine ⟨_,rfl,rfl,_,rfl,?_⟩;refine ZeG (λc=>⟨_,λ_ _ h=>h,?_⟩)<|λc=>?_
 ·refine ⟨_,rfl,_,rfl,_,rfl,_,_,rfl,rfl,c,_,_,rfl,?_⟩;exact ⟨_,M1.fmod_lt a c,b,a.fmod b,rfl,rfl,rfl,by rw[M1.fmod_gcd];exact g⟩
 ·refine ⟨_,rfl,_,rfl,?_⟩;subst c;rw[<-M1.gcd_zero' a,g];exact k
end
inductive ZcT (vs:List V) (H:Hp) (Q:VK) (zE:XK):Prop
 |mk (i:Int) (_:vs=[.int i]) (_:Q (.bl true) H):ZcT vs H Q zE
section
variable{P:Program}{w:World}{K:ZZfg}{mg:ZZmg}{base:Heap}
theorem Zif:FnScope ["thing"] ["thing"] (Zab Zen):=‹2›
theorem Zig(h:Here K mg "is_whole" Zen) (T:Nm mg):Has P w K mg base "is_whole" 1 ["thing"] ZcT:=by
 refine h.has (λ_ _ F=>F.b1 λ_ _ _ _ _ _ _=>rfl) λf d F=>F.ok Zif (λb H Q E h=>?_)<|λc A a s H b Q E e h=>?_
 ·obtain ⟨_,rfl,_⟩:=h
  rfl
 obtain ⟨i,rfl,k⟩:=h;refine ⟨_,(Zag<|Zar<|ZeD (Zan ZbE (by rfl) T.isinstance boot_isinstance<|Zaa (pv 0)<|Zaa (ZfK (by rfl) T.int boot_int) Zae)<|ZdX<|Zkt<|Zan ZbE (by rfl) T.isinstance boot_isinstance<|Zaa (pv 0)<|Zaa (ZfK (by rfl) T.bool boot_bool) Zae),?_⟩;refine ⟨_,rfl,_,_,_,_,rfl,.int i,ZcJ K _,_,rfl,?_⟩;refine ZkW ?_;exact ⟨_,rfl,_,_,_,_,rfl,.int i,ZeF K,_,rfl,k⟩
theorem Zj1:FnScope ["_law_found"] ["_law_found"] (Zab Zfg):=‹2›
theorem Zj2(h:Here K mg "_law_whole" Zfg) (T:Nm mg):Has P w K mg base "_law_whole" 1 ["_law_found"] ZcT:=by
 refine h.has (λ_ _ F=>F.b1 λ_ _ _ _ _ _ _=>rfl) λf d F=>F.ok Zj1 (λb H Q E h=>?_)<|λc A a s H b Q E e h=>?_
 ·obtain ⟨_,rfl,_⟩:=h
  rfl
 obtain ⟨i,rfl,k⟩:=h;refine ⟨_,(Zag<|Zar<|ZeD (Zan ZbE (by rfl) T.isinstance boot_isinstance<|Zaa (pv 0)<|Zaa (ZfK (by rfl) T.int boot_int) Zae)<|ZdX<|Zkt<|Zan ZbE (by rfl) T.isinstance boot_isinstance<|Zaa (pv 0)<|Zaa (ZfK (by rfl) T.bool boot_bool) Zae),?_⟩;refine ⟨_,rfl,_,_,_,_,rfl,.int i,ZcJ K _,_,rfl,?_⟩;refine ZkW ?_;exact ⟨_,rfl,_,_,_,_,rfl,.int i,ZeF K,_,rfl,k⟩
end
inductive Zd6 (vs:List V) (H:Hp) (Q:VK) (zE:XK):Prop
 |mk (n:Int) (_:vs=[.int n]) (_:n<1000000) (_:(M2.Prm n->Q (.bl true) H)) (_:(¬M2.Prm n->Q (.bl false) H)):Zd6 vs H Q zE
section
variable{P:Program}{w:World}{K:ZZfg}{mg:ZZmg}{base:Heap}
theorem sc_is_prime:FnScope ["number","trial"] ["number"] (Zab Zeo):=‹2›
theorem Zih(h:Here K mg "is_prime" Zeo) (T:Nm mg):Has P w K mg base "is_prime" 1 ["number"] Zd6:=by
 refine h.has (λ_ _ F=>F.b1 λ_ _ _ _ _ _ _=>rfl) λf M F=>F.ok sc_is_prime (λB H Q E h=>?_)<|λD A c s H B Q E N h=>?_
 ·obtain ⟨_,rfl,_⟩:=h
  rfl
 obtain ⟨n,rfl,J,q,j⟩:=h;have u:=sc_is_prime.nd;obtain ⟨x,g⟩:=T.PB;refine ⟨_,(Zad (Za1 (ZdD (Zav Zg9 (pv 0) Zac<|Zay _)<|ZdF<|Zav Zmx (pv 0) (Zct (v:=.int 1000000) (by rfl) g ⟨x,rfl⟩)<|Zay _).pt (Zag<|Zar Zc5) ZaB)
  (Zad (Za1 (Zav Za6 (Zam Zbb (pv 0) Zac) Zac<|Zay _) (Zag<|Zar<|ZbD Za6 (pv 0) Zac<|Zay _) ZaB)
  (Zad (ZaG (i:=1) u rfl (Or.inl rfl) Zac)
  (Zad (Zcn PassesOwn.never (Zav ZjK (Zam ZaH (pv 1)<|pv 1) (pv 0)<|Zay _)<|Zad (Za1 (Zav Za6 (Zam Zbr (pv 0)<|pv 1) Zac<|Zay _) (Zag<|Zar Zc5) ZaB)
   (Zag<|ZiW (i:=1) u rfl (Or.inl rfl) Zac ZnI))
  (Zag<|Zar Zc5))))),?_⟩
 refine ⟨_,rfl,_,_,rfl,rfl,_,rfl,?_⟩;refine ZbR (λh=>ZkW (j λp=>by have:=p.1;omega))<|λI=>?_;refine ⟨_,rfl,_,_,rfl,rfl,_,rfl,?_⟩;refine ZbR (λh=>absurd h ⋯)<|λ_=>?_;refine ⟨_,rfl,_,_,rfl,rfl,(by show (0:Int)<_;decide),rfl,_,rfl,?_⟩;refine Zc0 (λe=>?_)<|λe=>?_
 ·refine ⟨_,rfl,rfl,?_⟩;rw[Zge];have a:=M2.prm_even (n:=n) ⋯ e
  by_cases hp:n=2
  ·rw[decide_eq_true hp];exact q<|a.mpr hp
  ·rw[decide_eq_false hp];exact j λz=>hp<|a.mp z
 refine ⟨λm r l=>∃t:Int,m=(n+2-t).toNat/\r=[some<|.int n,some<|.int t]/\l=H/\3<=t/\t%2=1/\t<=n+2/\M2.No n t,⟨_,3,rfl,rfl,rfl,⋯,⋯,⋯,M2.No.odd e⟩,?_⟩;rintro m r l ⟨t,rfl,rfl,rfl,L,y,C,k⟩;have o:t.natAbs<=10^150:=Q1 (show t.natAbs<=1000002 by omega) ∅;refine ⟨_,rfl,_,rfl,_,_,rfl,rfl,(Zbx o o),_,rfl,_,_,rfl,rfl,_,rfl,?_⟩;refine ZbR (λb=>⟨_,λ_ _ h=>h,?_⟩)<|λb=>?_
 ·refine ⟨_,rfl,_,rfl,_,_,rfl,rfl,(show t≠0 by omega),rfl,_,rfl,?_⟩;have G:=M2.le_of_sq ⋯ b;refine Zc0 (λz=>j<|M2.found ⋯ b<|(M2.fmod_dvd ⋯).mp z)<|λz=>?_;refine ⟨_,rfl,_,_,rfl,rfl,?_⟩;exact ⟨_,⋯,t+2,rfl,rfl,rfl,⋯,⋯,⋯,k.next e y λd=>z<|(M2.fmod_dvd ⋯).mpr d⟩
 ·exact q (k.done ⋯ ⋯ b)
theorem sc_l_is_prime:FnScope ["_law_number","_law_by"] ["_law_number"] (Zab Zdi):=‹2›
theorem Zgy(h:Here K mg "_law_is_prime" Zdi):Has P w K mg base "_law_is_prime" 1 ["_law_number"] Zd6:=by
 refine h.has (λ_ _ F=>F.b1 λ_ _ _ _ _ _ _=>rfl) λf B F=>F.ok sc_l_is_prime (λo H Q E h=>?_)<|λr A b s H o Q E C h=>?_
 ·obtain ⟨_,rfl,_⟩:=h
  rfl
 obtain ⟨n,rfl,x,u,g⟩:=h;have l:=sc_l_is_prime.nd;refine ⟨_,(Zad (ZaG (i:=1) l rfl (Or.inl rfl) Zac)
  (Zad (Zcn PassesOwn.never (Zav ZjK (Zam ZaH (pv 1)<|pv 1) (pv 0)<|Zay _)<|Zad (Za1 (Zav Za6 (Zam Zbr (pv 0)<|pv 1) Zac<|Zay _) (Zag<|Zar Zc5) ZaB)
   (Zag<|ZaG (i:=1) l rfl (Or.inl rfl)<|Zam ZaO (pv 1) Zac))
  (Zag<|Zar<|ZbD ZfI (pv 0) Zac<|Zay _))),?_⟩
 refine ⟨λm k e=>∃t:Int,m=(n+2-t).toNat/\k=[some<|.int n,some<|.int t]/\e=H/\2<=t/\(t<=2\/t<=n)/\M2.No n t,⟨_,2,rfl,rfl,rfl,⋯,⋯,M2.No.two⟩,?_⟩;rintro m k e ⟨t,rfl,rfl,rfl,y,q,c⟩;have j:t.natAbs<=10^150:=Q1 (show t.natAbs<=1000002 by omega) ∅;refine ⟨_,rfl,_,rfl,_,_,rfl,rfl,(Zbx j j),_,rfl,_,_,rfl,rfl,_,rfl,?_⟩;refine ZbR (λa=>⟨_,λ_ _ h=>h,?_⟩)<|λa=>?_
 ·refine ⟨_,rfl,_,rfl,_,_,rfl,rfl,(show t≠0 by omega),rfl,_,rfl,?_⟩;have v:=M2.le_of_sq ⋯ a;refine Zc0 (λz=>g<|M2.found ⋯ a<|(M2.fmod_dvd ⋯).mp z)<|λz=>?_;refine ⟨_,rfl,_,_,rfl,rfl,?_⟩;exact ⟨_,⋯,t+1,rfl,rfl,rfl,⋯,⋯,c.one λd=>z<|(M2.fmod_dvd ⋯).mpr d⟩
 ·refine ⟨_,rfl,_,_,rfl,rfl,?_⟩;show Q (V.bl<|decide<|1<n) _
  by_cases h2:1<n
  ·rw[decide_eq_true h2];exact u<|c.done ⋯ ⋯ a
  ·rw[decide_eq_false h2];exact g λp=>by have:=p.1;omega
end
inductive ZcU (K:ZZfg) (vs:List V) (H:Hp) (Q:VK) (zE:XK):Prop
 |mk (p r:Addr) (q a0 a1 a2 b0 b1 b2:Int) (_:vs=[.ref p,.int q,.ref r]) (_:SqT K H p [.int a0,.int a1,.int a2]) (_:SqT K H r [.int b0,.int b1,.int b2]) (_:IntMulOk q b0) (_:IntMulOk q b1) (_:IntMulOk q b2) (_:∀t,H t=none->Q (.ref t) (upd H t (.tup [.int (a0-q*b0),.int (a1-q*b1),.int (a2-q*b2)]))):ZcU K vs H Q zE
section
variable{P:Program}{w:World}{K:ZZfg}{mg:ZZmg}{base:Heap}
theorem Zgz:FnScope ["some","factor","others"] ["some","factor","others"] (Zab Zdf):=‹2›
theorem ZgA(h:Here K mg "less_times" Zdf):Has P w K mg base "less_times" 1 ["some","factor","others"] (ZcU K):=by
 refine h.has (λ_ _ F=>F.b3 λ_ _ _ _ _ _ _ _ _=>rfl) λf v F=>F.ok Zgz (λe H Q E h=>?_)<|λi A a s H e Q E x h=>?_
 ·obtain ⟨_,_,_,_,_,_,_,_,_,rfl,_⟩:=h
  rfl
 obtain ⟨p,r,q,n,m,u,o,l,t,rfl,b,c,j,g,d,k⟩:=h;refine ⟨_,(Zag<|Zar<|Zcd<|Zaa (Zam ZbQ (ZaF Zaw (pv 0) Zac<|λ_ _=>rfl)<|Zam ZaH (pv 1)<|ZaF Zaw (pv 2) Zac<|λ_ _=>rfl)<|Zaa (Zam ZbQ (ZaF Zaw (pv 0) Zac<|λ_ _=>rfl)<|Zam ZaH (pv 1)<|ZaF Zaw (pv 2) Zac<|λ_ _=>rfl)<|Zaa (Zam ZbQ (ZaF Zaw (pv 0) Zac<|λ_ _=>rfl)<|Zam ZaH (pv 1)<|ZaF Zaw (pv 2) Zac<|λ_ _=>rfl) Zae),?_⟩;refine ⟨_,rfl,_,_,_,_,rfl,rfl,b,rfl,_,rfl,_,rfl,_,_,_,_,rfl,rfl,c,rfl,_,_,rfl,rfl,j,_,_,rfl,rfl,?_⟩;refine ⟨_,rfl,_,_,_,_,rfl,rfl,b,rfl,_,rfl,_,rfl,_,_,_,_,rfl,rfl,c,rfl,_,_,rfl,rfl,g,_,_,rfl,rfl,?_⟩;refine ⟨_,rfl,_,_,_,_,rfl,rfl,b,rfl,_,rfl,_,rfl,_,_,_,_,rfl,rfl,c,rfl,_,_,rfl,rfl,d,_,_,rfl,rfl,?_⟩;exact ⟨(by show 3<=sizeLine;decide),k⟩
end
inductive Zdm (vs:List V) (H:Hp) (Q:VK) (zE:XK):Prop
 |mk (x y:Int) (_:vs=[.int x,.int y]) (_:x.natAbs<=10^100) (_:y.natAbs<=10^100) (_:∀(t:Addr) (H':Hp) (u v:Int),Same H H'->H' t=some (.tup [.int (Int.gcd x y),.int u,.int v])->(Int.gcd x y:Int)=x*u+y*v->u.natAbs<=10^101->v.natAbs<=10^101->Q (.ref t) H'):Zdm vs H Q zE
section
variable{P:Program}{w:World}{K:ZZfg}{mg:ZZmg}{base:Heap}
theorem sc_shares:FnScope ["one","other","upper","lower","following"] ["one","other"] (Zab Zgp):=‹2›
theorem Zls(h:Here K mg "shares" Zgp) (c:Has P w K mg base "less_times" 1 ["some","factor","others"] (ZcU K)):Has P w K mg base "shares" 2 ["one","other"] Zdm:=by
 refine h.has (λ_ _ F=>F.b2 λ_ _ _ _ _ _ _ _=>rfl) λf J F=>F.ok sc_shares (λvs H Q E h=>?_)<|λa0 A L s H vs Q E U h=>?_
 ·obtain ⟨_,_,rfl,_⟩:=h
  rfl
 obtain ⟨x,y,rfl,bx,bY,k⟩:=h;have D:=sc_shares.nd;refine ⟨_,(Zad (ZaG (i:=2) D rfl (Or.inl rfl)<|Zcd<|Zaa (pv 0)<|Zaa Zac<|Zaa Zac Zae)
  (Zad (ZaG (i:=3) D rfl (Or.inl rfl)<|Zcd<|Zaa (pv 1)<|Zaa Zac<|Zaa Zac Zae)
  (Zad (Zcn PassesOwn.never (Zav Zda (ZaF Zaw (pv 3) Zac<|λ_ _=>rfl) Zac<|Zay _)<|Zad (ZaG (i:=4) D rfl (Or.inl rfl)<|ZaI c U (by rfl)<|Zaa (pv 2)<|Zaa (Zam Zgd (ZaF Zaw (pv 2) Zac<|λ_ _=>rfl)<|ZaF Zaw (pv 3) Zac<|λ_ _=>rfl)<|Zaa (pv 3) Zae)
   (Zad (ZaG (i:=2) D rfl (Or.inl rfl)<|pv 3)
   (Zag<|ZaG (i:=3) D rfl (Or.inl rfl)<|pv 4)))
  (Zad (Za1 (Zav Zg9 (ZaF Zaw (pv 2) Zac<|λ_ _=>rfl) Zac<|Zay _) (Zag<|Zar<|ZaI c U (by rfl)<|Zaa (Zcd<|Zaa Zac<|Zaa Zac<|Zaa Zac Zae)<|Zaa Zac<|Zaa (pv 2) Zae) ZaB)
  (Zag<|Zar<|pv 2))))),?_⟩
 refine ⟨_,rfl,(by show 3<=sizeLine;decide),λO M=>?_⟩;refine ⟨_,rfl,(by show 3<=sizeLine;decide),λW v=>?_⟩;have Z:Same H (upd H O<|.tup [.int x,.int 1,.int 0]):=Zal M _;have Y:=Z.trans<|Zal v<|.tup [.int y,.int 0,.int 1];refine ⟨λm T q=>∃(p r:Addr) (f:Option V) (a u1 j b C o:Int),m=b.natAbs/\T=[some<|.int x,some<|.int y,some<|.ref p,some<|.ref r,f]/\Same H q/\q p=some (.tup [.int a,.int u1,.int j])/\q r=some (.tup [.int b,.int C,.int o])/\M1.Sh x y a u1 j b C o,
  ⟨_,O,W,none,x,1,0,y,0,1,rfl,rfl,Y,by rw[Zaj<|ZaQ Zah v];exact Zah,Zah,M1.Sh.start x y⟩,?_⟩
 rintro m T q ⟨p,r,f,a,u1,j,b,C,o,rfl,rfl,S,l,e,I⟩;have g:=I.bound;have B:x.natAbs+2*y.natAbs+1+1<=10^150:=⋯;have d:=Nat.le_of_succ_le B;refine ⟨_,rfl,_,_,_,_,rfl,rfl,SqT.of e,rfl,rfl,_,rfl,?_⟩;refine ZeG (λn=>⟨_,λ_ _ h=>h,?_⟩)<|λn=>?_
 ·refine ⟨_,rfl,_,rfl,_,_,_,_,rfl,rfl,SqT.of l,rfl,_,rfl,_,_,_,_,rfl,rfl,SqT.of e,rfl,_,_,rfl,rfl,⟨n,Q1 g.2.2.2.1 d⟩,_,rfl,?_⟩;have J:=Q1 (M1.fdiv_small a n)<|Q1 (Nat.succ_le_succ g.1) B;refine ⟨p,r,a.fdiv b,a,u1,j,b,C,o,rfl,SqT.of l,SqT.of e,Zbx J<|Q1 g.2.2.2.1 d,Zbx J<|Q1 g.2.2.2.2.1 d,Zbx J<|Q1 g.2.2.2.2.2 d,λt G=>?_⟩;refine ⟨_,rfl,_,rfl,?_⟩;exact ⟨_,(by rw[M1.rest_eq];exact M1.fmod_lt a n),r,t,_,b,C,o,_,_,_,rfl,rfl,S.trans<|Zal G _,by rw[Zaj<|ZaQ e G];exact e,Zah,I.turn n⟩
 ·subst n;obtain ⟨g1,N⟩:=I.done;refine ⟨_,rfl,_,_,_,_,rfl,rfl,SqT.of l,rfl,_,_,rfl,rfl,_,rfl,?_⟩;refine ZbR (λX=>?_)<|λX=>?_
  ·refine ⟨(by show 3<=sizeLine;decide),λz R=>?_⟩;refine ⟨_,rfl,?_⟩;refine ⟨z,p,1,0,0,0,a,u1,j,rfl,SqT.of Zah,SqT.of (by rw[Zaj<|ZaQ l R];exact l),Zbx ∅<|Q1 g.1 d,Zbx ∅<|Q1 g.2.1 d,Zbx ∅<|Q1 g.2.2.1 d,λt G=>?_⟩;have u:(0:Int)-1*a=Int.gcd x y:=⋯;refine k t _ (0-1*u1) (0-1*j) ((S.trans<|Zal R _).trans<|Zal G _) (by rw[Zah,u]) ?_ ⋯ ⋯;rw[<-u,N,Int.one_mul,Int.one_mul,Int.one_mul,Int.mul_sub,Int.mul_sub];omega
  ·refine ⟨_,rfl,?_⟩;have u:a=Int.gcd x y:=⋯;refine k p q u1 j S (by rw[<-u];exact l) (by rw[<-u];exact N) ⋯ ⋯
end
def ReA(CR:Addr)(p:Int)(H:Hp)(a:Addr):Prop:=∃b,H a=some (.ins CR b<|fsR p)
inductive ZgB (CR:Addr) (vs:List V) (H:Hp) (Q:VK) (zE:XK):Prop
 |mk (x dx:Addr) (p:Int) (_:vs=[.ref x,.int p]) (_:H x=some (.ins CR dx [])) (_:M2.Prm p) (_:p<1000000) (_:Q .non (upd H x (.ins CR dx (fsR p)))):ZgB CR vs H Q zE
section
variable{P:Program}{w:World}{K:ZZfg}{mg:ZZmg}{base:Heap}
theorem Zeq:FnScope ["self","prime"] ["self","prime"] (Zab ZbW):=‹2›
theorem ZmZ{CR:Addr}(h:HereI K CR "Rests.__init__" ZbW) (o:Cls K CR) (e:NoAttr K CR "prime") (a:Has P w K mg base "is_whole" 1 ["thing"] ZcT) (b:Has P w K mg base "is_prime" 1 ["number"] Zd6):HasI P w K mg base CR 2 ["self","prime"] (ZgB CR):=by
 refine h.hasI (λ_ _ F=>F.b2 λ_ _ _ _ _ _ _ _=>rfl) λf q F=>F.ok Zeq (λl H Q E h=>?_)<|λn A c s H l Q E d h=>?_
 ·obtain ⟨_,_,_,rfl,_⟩:=h
  rfl
 obtain ⟨x,m,p,rfl,j,g,i,k⟩:=h;refine ⟨_,(Zad (Za1 (ZdD (ZcB<|Zbv<|ZaI a d (by rfl)<|Zaa (pv 1) Zae)<|ZdF<|ZcB<|Zbv<|ZaI b d (by rfl)<|Zaa (pv 1) Zae).pt (Zag Zmw) ZaB)
  (Zag<|ZnO (pv 0) (pv 1) rfl)),?_⟩
 refine ⟨_,rfl,p,rfl,_,rfl,?_⟩;refine ZeT ?_;refine ⟨_,rfl,p,rfl,i,λ_=>⟨_,rfl,?_⟩,λz=>absurd g z⟩;refine ZeT ?_;exact ⟨_,rfl,_,rfl,x,CR,m,_,rfl,j,o,e,(by show 0<1000;decide),k⟩
end
structure CN (K:ZZfg) (mg:ZZmg) (x:Str) (C:Addr):Prop where
 m:mg x=some (.ref C)
 c:PySem.W.isClsIn K C=true
 t:PySem.W.typeIn K (.ref C)=some (.type "type")
structure Rf (K:ZZfg) (mg:ZZmg) (CE cK cN cF cT cI cX cM cR:Addr):Prop where
 e:CN K mg "FrameError" CE
 eb:PySem.W.mroIn K CE (.type "BaseException")=some true
 k:CN K mg "NoKind" cK
 n:CN K mg "NoNumber" cN
 f:CN K mg "NoFit" cF
 t:CN K mg "NoTurn" cT
 i:CN K mg "NoInverse" cI
 x:CN K mg "NoText" cX
 m:CN K mg "NoName" cM
 r:CN K mg "NoRow" cR
 ve:mg "ValueError"=none
theorem Rf.cat{K:ZZfg}{a:ZZmg}{CE d e c b g h i f:Addr}(R:Rf K a CE d e c b g h i f):CatC K a "FrameError" CE:=⟨R.e.m,R.e.t,R.eb,R.e.c⟩
def Zm0(K:ZZfg)(C:Addr):ZZla->Prop
 | []=>True
 |D::r=>(PySem.W.mroIn K C (.ref D)=some false/\C≠D)/\Zm0 K C r
structure Rz (K:ZZfg) (mg:ZZmg) (x:Str) (CE C:Addr) (os:ZZla):Prop where
 c:ExcC K mg x C
 e:PySem.W.mroIn K C (.ref CE)=some true
 v:PySem.W.mroIn K C (.type "ValueError")=some true
 o:Zm0 K C os
theorem CN.no{K:ZZfg}{a:ZZmg}{x:Str}{C D:Addr}(n:CN K a x D)(h:PySem.W.mroIn K C (.ref D)=some false/\C≠D):PySem.W.kitOne K (.ref C) (.ref D)=some false:=ZoS n.c n.t h.1 h.2
theorem Zlt{n i:Nat}(h:i<n):ixN n ((i:Nat):Int)=some i:=by
 have:=Zaq (xs:=List.range n) (j:=i) (v:=i) (by simp[h]);unfold atI at this;rw[Q9] at this
 cases q:ixN n (i:Int) with
 |none=>rw[q] at this;cases this
 |some j =>
  rw[q] at this
  simp only[Option.bind_some] at this
  have a:=(Qn.mp this).2
  simp at a
  rw[a]
def KdA(CF CR:Addr)(p:Int)(H:Hp)(k:Addr):Prop:=(p=0/\FrA CF H k)\/(M2.Prm p/\p<1000000/\ReA CR p H k)
def Ez(H:Hp)(p e:Int)(v:V):Prop:=(p=0/\∃t,v = .ref t/\H t=some (.tup [.int e,.int 1]))\/(0<p/\v = .int e)
theorem ZqJ{a:List Int}{i:Nat}(h:i<a.length):atI (a.map V.int) (i:Int)=some (.int a[i]):=Zaq (by rw[Q4,Q7 h] <;> rfl)
def PK(p:Int):Prop:=p=0\/(M2.Prm p/\p<1000000)
def Off(D:ZZla)(H b:Hp):Prop:=∀a o,a∉D->H a=some o->b a=some o
theorem Off.same{D:ZZla}{a H c:Hp}(O:Off D H c)(S:Same a H)(n:∀r∈D,a r=none):Same a c:=λb o q=>O b o (λm=>by rw[n b m] at q;cases q)<|S _ _ q
def Ztz(H:Hp)(p:Int)(x y:V):Prop:=(0<p/\∃i,x = .int i/\y = .int i)\/(p=0/\∃s t a b,x = .ref s/\y = .ref t/\H s=some (.tup [.int a,.int b])/\H t=some (.tup [.int a,.int b]))
theorem Ez.eq{H:Hp}{p e:Int}{x y:V}(h:Ez H p e x)(h':Ez H p e y):Ztz H p x y:=by
 rcases h with ⟨z,t,e1,h1⟩|⟨z,e1⟩
 ·rcases h' with ⟨_,t',e2,h2⟩|⟨z',_⟩
  ·exact .inr ⟨z,t,t',_,_,e1,e2,h1,h2⟩
  ·omega
 ·rcases h' with ⟨z',_⟩|⟨_,e2⟩
  ·omega
  ·exact .inl ⟨z,_,e1,e2⟩
class Fd (α:Type) extends Lean.Grind.CommRing α where
 inv:α->α
 mul_inv:∀a:α,a≠0->a*inv a=1
 zne:(0:α)≠1
instance:Fd Rat where
 inv:=Rat.inv
 mul_inv:=λa h=>Rat.mul_inv_cancel a h
 zne:=∅
theorem bez:∀a b:Nat,∃u v:Int,a*u+b*v=(Nat.gcd a b:Int):=by
 intro a b
 induction a,b using Nat.gcd.induction with
 |H0 n=>exact ⟨0,1,by simp⟩
 |H1 m n f c =>
  obtain ⟨u,v,e⟩:=c;refine ⟨v-(n/m:Nat)*u,u,?_⟩;rw[Nat.gcd_rec,<-e];have h:(n:Int)=m*(n/m:Nat)+(n%m:Nat):=by
   have:=Nat.div_add_mod n m
   exact_mod_cast this.symm
  rw[Int.mul_sub]
  conv=>lhs;rw[h]
  rw[Int.add_mul];generalize ((n/m:Nat):Int)=q;generalize ((n%m:Nat):Int)=r;have d:(m:Int)*(q*u)=m*q*u:=by rw[Qt]
  omega
structure PrN (p:Nat):Prop where
 pr:M2.Prm (p:Int)
 lt:p<1000000
theorem PrN.two{p:Nat}(h:PrN p):2<=p:=by have:=h.pr.1;omega
theorem PrN.nz{p:Nat}(h:PrN p):NeZero p:=⟨by have:=h.two;omega⟩
theorem Zlu{p:Nat}(h:PrN p):letI:=h.nz;∀a:Fin p,a≠0->∃b:Fin p,a*b=1:=by
 letI:=h.nz
 intro a i;have j:=h.two;have q:¬(p:Int) ∣ (a.val:Int):=by
  rintro ⟨k,t⟩;have r:a.val≠0:=λz=>i<|Fin.ext (by simpa using z);have s:=a.isLt;have o:0<k:=by
   rcases Int.lt_or_le 0 k with c|c
   ·exact c
   ·have:(p:Int)*k<=0:=Int.mul_nonpos_of_nonneg_of_nonpos ⋯ c;omega
  have:(p:Int)*1<=p*k:=Int.mul_le_mul_of_nonneg_left ⋯ ⋯;omega
 have g:=M2.prm_gcd h.pr q;obtain ⟨u,v,e⟩:=bez a.val p;have n:Nat.gcd a.val p=1:=by
  have:Int.gcd (a.val:Int) (p:Int)=Nat.gcd a.val p:=rfl;omega
 rw[n] at e;refine ⟨⟨(u%p).toNat,?_⟩,?_⟩
 ·have:=Ws u (show 0<(p:Int) by omega);have:=Wg u (show (p:Int)≠0 by omega);omega
 ·refine Fin.ext ?_;rw[Fin.val_mul];have d:=Wg u (show (p:Int)≠0 by omega);have f:((a.val*(u%p).toNat%p:Nat):Int)=((1:Nat):Int):=by
   rw[Wj,Wt,Int.toNat_of_nonneg d,Int.mul_emod,Int.emod_emod_of_dvd _<|Int.dvd_refl _,<-Int.mul_emod];have:(a.val:Int)*u=1-p*v:=⋯;rw[this,Int.sub_emod,Int.mul_emod_right]
   simp
   exact Uu ⋯ ⋯
  have m:a.val*(u%p).toNat%p=1:=by exact_mod_cast f
  have l:(1:Fin p).val=1:=by
   show 1%p=1;exact Nat.mod_eq_of_lt j
  rw[l];exact m
@[reducible] noncomputable def finFd {p:Nat} (h:PrN p):Fd (Fin p) :=
 letI:=h.nz
 { (inferInstance:Lean.Grind.CommRing (Fin p)) with
  inv:=λa=>if ha:a≠0 then Classical.choose (Zlu h a ha) else 0
  mul_inv:=λa ha=>by
   simp only[dif_pos ha]
   exact Classical.choose_spec (Zlu h a ha)
  zne:=λz=>by
   have:=congrArg Fin.val z;have h2:=h.two;have e3:(1:Fin p).val=1:=by
    show 1%p=1;exact Nat.mod_eq_of_lt h2
   have e4:(0:Fin p).val=0:=by simp
   rw[e3,e4] at this
   cases this }
inductive KX where
 |q
 |r (p:Nat) (h:PrN p)
@[reducible] def KX.F:KX->Type
 | .q=>Rat
 | .r p _=>Fin p
abbrev ZZlk(κ:KX):=List κ.F
abbrev ZZll(κ:KX):=List<|List κ.F
noncomputable instance (κ:KX):Fd κ.F:=match κ with
 | .q=>inferInstanceAs<|Fd Rat
 | .r _ h=>finFd h
def KX.P:KX->Int
 | .q=>0
 | .r p _=>p
def KX.D:(κ:KX)->κ.F->PyData
 | .q,x => .tuple [.int x.num,.int x.den]
 | .r _ _,x => .int x.val
def NR(κ:KX)(H:Hp)(v:V)(x:κ.F):Prop:=match κ with
 | .q=>∃a,v = .ref a/\H a=some (.tup [.int x.num,.int x.den])
 | .r _ _=>v = .int x.val
theorem NR.same{κ:KX}{H b:Hp}{v:V}{x:κ.F}(h:NR κ H v x)(S:Same H b):NR κ b v x:=by
 cases κ with
 |q=>obtain ⟨a,e,h⟩:=h;exact ⟨a,e,S _ _ h⟩
 |r p c=>exact h
theorem NR.off{κ:KX}{H b:Hp}{t:Addr}{ys:List V}{v:V}{x:κ.F}(h:NR κ H v x)(c:H t=some (.lst ys))(O:Off [t] H b):NR κ b v x:=by
 cases κ with
 |q =>
  obtain ⟨a,e,h⟩:=h;refine ⟨a,e,O _ _ (λm=>?_) h⟩;rw[Qh.mp m,c] at h
  cases h
 |r p d=>exact h
theorem Zii{H:Hp}{i:Int}:Fl H (.int i) (.int i):=.inr<|.inr<|.inl ⟨i,rfl,rfl⟩
theorem NR.rp{κ:KX}{H:Hp}{v:V}{x:κ.F}(h:NR κ H v x):Rp H 1 v (κ.D x):=by
 cases κ with
 |q =>
  obtain ⟨a,rfl,h⟩:=h;exact Zqv h<|.cons Zii<|.cons Zii .nil
 |r p b =>
  have h:v = .int x.val:=h;subst h;exact .inl Zii
def Bd(κ:KX)(n m:Nat)(x:κ.F):Prop:=match κ with
 | .q=>Bits n x.num/\Bits m (x.den:Int)
 | .r _ _=>True
theorem Zlv{n d N D:Int}(b:Fc n d)(h:0<D)(e:n*D=N*d):(Rat.divInt N D).num=n/\((Rat.divInt N D).den:Int)=d:=by
 have g:=b.pos;have f:∃q:Rat,q.num=n/\(q.den:Int)=d:=by
  refine ⟨⟨n,d.toNat,⋯,?_⟩,rfl,by show ((d.toNat:Nat):Int)=d;omega⟩;have:=b.cop;rw[Nat.coprime_iff_gcd_eq_one];have e:Int.gcd n d=Nat.gcd n.natAbs d.natAbs:=rfl;have a:d.natAbs=d.toNat:=⋯;rw[<-a];omega
 obtain ⟨q,c,a⟩:=f;have:Rat.divInt N D=q:=by
  rw[<-Qu q,c,a,W4 ⋯ ⋯];exact e.symm
 rw[this];exact ⟨c,a⟩
theorem Zbj(x:Rat):Fc x.num x.den:=⟨by have:=x.den_nz;omega,by
 have:=x.reduced;rw[Nat.coprime_iff_gcd_eq_one] at this;exact this⟩
theorem Zlw{x y:Rat}{n d:Int}(c:Fc n d)(e:n*((x.den:Int)*y.den)=(x.num*y.den+y.num*x.den)*d):(x+y).num=n/\((x+y).den:Int)=d:=by
 have b:=(Zbj x).pos;have a:=(Zbj y).pos;have:x+y=Rat.divInt (x.num*y.den+y.num*x.den) ((x.den:Int)*y.den):=by
  rw[<-Rat.divInt_add_divInt _ _ ⋯ ⋯,Qu,Qu]
 rw[this];exact Zlv c (W2 b a) e
theorem Zpb{x y:Rat}{n d:Int}(c:Fc n d)(e:n*((x.den:Int)*y.den)=(x.num*y.num)*d):(x*y).num=n/\((x*y).den:Int)=d:=by
 have b:=(Zbj x).pos;have a:=(Zbj y).pos;have:x*y=Rat.divInt (x.num*y.num) ((x.den:Int)*y.den):=by
  rw[<-Ug,Qu,Qu]
 rw[this];exact Zlv c (W2 b a) e
inductive Zd7 (K:ZZfg) (CF:Addr) (vs:List V) (H:Hp) (Q:VK) (zE:XK):Prop
 |mk (s p q:Addr) (a1 b1 a2 b2:Int) (_:vs=[.ref s,.ref p,.ref q]) (_:FrA CF H s) (_:SqT K H p [.int a1,.int b1]) (_:SqT K H q [.int a2,.int b2]) (_:Fc a1 b1) (_:Fc a2 b2) (_:Bits 1000000 a1) (_:Bits 4000 b1) (_:Bits 1000000 a2) (_:Bits 4000 b2) (_:∀(t:Addr) (H':Hp) (x y:Int),Same H H'->H' t=some (.tup [.int x,.int y])->H t=none->Fc x y->x*(b1*b2)=(a1*b2+a2*b1)*y->Q (.ref t) H'):Zd7 K CF vs H Q zE
section
variable{P:Program}{w:World}{K:ZZfg}{mg:ZZmg}{base:Heap}
theorem sc_Fractions_plusG:FnScope ["self","one","other","common","ahead","top","left"] ["self","one","other"] (Zab ZbV):=‹2›
theorem Zlx{CF:Addr}(h:HereM K CF "plus" "Fractions.plus" ZbV) (e:Has P w K mg base "divisor" 1 ["one","other"] ZaX):HasM P w K mg base CF "plus" 2 ["self","one","other"] [] (Zd7 K CF):=by
 refine h.hasM (λ_ _ F=>F.b3 λ_ _ _ _ _ _ _ _ _=>rfl) λf fd F=>F.ok sc_Fractions_plusG (λR H Q E h=>?_)<|λT A x s H R Q E M h=>?_
 ·obtain ⟨_,_,_,_,_,_,_,rfl,_⟩:=h
  rfl
 obtain ⟨Z,p,q,m,d,n,c,rfl,_,y,u,J,G,C,r,B,g,k⟩:=h;have v:=sc_Fractions_plusG.nd;refine ⟨_,(Zad (ZaG (i:=3) v rfl (Or.inl rfl)<|ZaI e M (by rfl)<|Zaa (ZaF Zaw (pv 1) Zac<|λ_ _=>rfl)<|Zaa (ZaF Zaw (pv 2) Zac<|λ_ _=>rfl) Zae)
  (Zad (ZaG (i:=4) v rfl (Or.inl rfl)<|Zam Zb2 (ZaF Zaw (pv 1) Zac<|λ_ _=>rfl)<|pv 3)
  (Zad (ZaG (i:=5) v rfl (Or.inl rfl)<|Zam ZaO (Zam ZaH (ZaF Zaw (pv 1) Zac<|λ_ _=>rfl)<|Zam Zb2 (ZaF Zaw (pv 2) Zac<|λ_ _=>rfl)<|pv 3)<|Zam ZaH (ZaF Zaw (pv 2) Zac<|λ_ _=>rfl)<|pv 4)
  (Zad (ZaG (i:=6) v rfl (Or.inl rfl)<|ZaI e M (by rfl)<|Zaa (pv 5)<|Zaa (pv 3) Zae)
  (Zag<|Zar<|Zcd<|Zaa (Zam Zb2 (pv 5)<|pv 6)<|Zaa (Zam ZaH (pv 4)<|Zam Zb2 (ZaF Zaw (pv 2) Zac<|λ_ _=>rfl)<|pv 6) Zae))))),?_⟩
 have D:=J.pos;have z:=G.pos;have hg:=M3.gcd_ne (a:=d) (b:=c) ⋯;have L:Int.gcd d c<=c.natAbs:=Wu ⋯<|Wv.mpr<|W1 d c;have j:(Int.gcd d c:Int)≠0/\Bits 4000 (Int.gcd d c:Int):=⟨⋯,g.le (by rw[Qk];exact L)⟩;have I:=M3.fdiv_le (Wk d c) j.1;have X:=M3.fdiv_le (W1 d c) j.1;refine ⟨_,rfl,_,_,_,_,rfl,rfl,y,rfl,_,rfl,_,_,_,_,rfl,rfl,u,rfl,d,c,rfl,?_⟩;refine ⟨_,rfl,_,_,_,_,rfl,rfl,y,rfl,_,rfl,_,_,rfl,rfl,j,?_⟩;refine ⟨_,rfl,_,_,_,_,rfl,rfl,y,rfl,_,rfl,_,_,_,_,rfl,rfl,u,rfl,_,rfl,_,_,rfl,rfl,j,_,_,rfl,rfl,C.mulG<|g.le X,_,rfl,_,_,_,_,rfl,rfl,u,rfl,_,rfl,_,_,rfl,rfl,B.mulG<|r.le I,_,_,rfl,rfl,?_⟩;refine ⟨_,rfl,_,rfl,_,_,rfl,?_⟩;obtain ⟨o1,S,O,U⟩:=M3.plus_ok D z J.cop G.cop rfl;have N:Int.gcd (m*c.fdiv (Int.gcd d c)+n*d.fdiv (Int.gcd d c)) (Int.gcd d c)<=Int.gcd d c:=Wu ⋯<|Int.ofNat_dvd.mp<|W1 (m*c.fdiv (Int.gcd d c)+n*d.fdiv (Int.gcd d c))<|Int.gcd d c;have l:(Int.gcd (m*c.fdiv (Int.gcd d c)+n*d.fdiv (Int.gcd d c)) (Int.gcd d c):Int)≠0/\Bits 4000 (Int.gcd (m*c.fdiv (Int.gcd d c)+n*d.fdiv (Int.gcd d c)) (Int.gcd d c):Int):=⟨by have:=M3.gcd_ne (a:=m*c.fdiv (Int.gcd d c)+n*d.fdiv (Int.gcd d c)) (b:=(Int.gcd d c:Int)) ⋯;omega,g.le (by rw[Qk];exact Q1 N L)⟩;have Y:=M3.fdiv_le (Wk (m*c.fdiv (Int.gcd d c)+n*d.fdiv (Int.gcd d c))<|Int.gcd d c) l.1;have W:=M3.fdiv_le (Int.dvd_trans (W1 (m*c.fdiv (Int.gcd d c)+n*d.fdiv (Int.gcd d c))<|Int.gcd d c)<|W1 d c) l.1;refine ⟨_,rfl,_,rfl,_,_,rfl,rfl,l,_,rfl,_,rfl,_,_,_,_,rfl,rfl,u,rfl,_,rfl,_,_,rfl,rfl,l,_,_,rfl,rfl,((r.le I).up ∅).mulG<|g.le W,(by show 2<=sizeLine;decide),λt o=>?_⟩;exact k t _ _ _ (Zal o _) Zah o ⟨S,O⟩ U
end
inductive Zer (K:ZZfg) (CF:Addr) (vs:List V) (H:Hp) (Q:VK) (zE:XK):Prop
 |mk (s p q:Addr) (a1 b1 a2 b2:Int) (_:vs=[.ref s,.ref p,.ref q]) (_:FrA CF H s) (_:SqT K H p [.int a1,.int b1]) (_:SqT K H q [.int a2,.int b2]) (_:Fc a1 b1) (_:Fc a2 b2) (_:Bits 1000000 a1) (_:Bits 4000 b1) (_:Bits 1000000 a2) (_:Bits 4000 b2) (_:∀(t:Addr) (H':Hp) (x y:Int),Same H H'->H' t=some (.tup [.int x,.int y])->H t=none->Fc x y->x*(b1*b2)=(a1*a2)*y->Q (.ref t) H'):Zer K CF vs H Q zE
section
variable{P:Program}{w:World}{K:ZZfg}{mg:ZZmg}{base:Heap}
theorem sc_Fractions_timesG:FnScope ["self","one","other","falling","rising","top"] ["self","one","other"] (Zab ZbH):=‹2›
theorem Zj3{CF:Addr}(h:HereM K CF "times" "Fractions.times" ZbH) (c:Has P w K mg base "divisor" 1 ["one","other"] ZaX):HasM P w K mg base CF "times" 2 ["self","one","other"] [] (Zer K CF):=by
 refine h.hasM (λ_ _ F=>F.b3 λ_ _ _ _ _ _ _ _ _=>rfl) λf fd F=>F.ok sc_Fractions_timesG (λO H Q E h=>?_)<|λS A z s H O Q E J h=>?_
 ·obtain ⟨_,_,_,_,_,_,_,rfl,_⟩:=h
  rfl
 obtain ⟨Z,p,q,l,e,m,j,rfl,_,x,y,I,G,C,u,B,o,k⟩:=h;have D:=sc_Fractions_timesG.nd;refine ⟨_,(Zad (ZaG (i:=3) D rfl (Or.inl rfl)<|ZaI c J (by rfl)<|Zaa (ZaF Zaw (pv 1) Zac<|λ_ _=>rfl)<|Zaa (ZaF Zaw (pv 2) Zac<|λ_ _=>rfl) Zae)
  (Zad (ZaG (i:=4) D rfl (Or.inl rfl)<|ZaI c J (by rfl)<|Zaa (ZaF Zaw (pv 2) Zac<|λ_ _=>rfl)<|Zaa (ZaF Zaw (pv 1) Zac<|λ_ _=>rfl) Zae)
  (Zad (ZaG (i:=5) D rfl (Or.inl rfl)<|Zam ZaH (Zam Zb2 (ZaF Zaw (pv 1) Zac<|λ_ _=>rfl)<|pv 3)<|Zam Zb2 (ZaF Zaw (pv 2) Zac<|λ_ _=>rfl)<|pv 4)
  (Zag<|Zar<|Zcd<|Zaa (pv 5)<|Zaa (Zam ZaH (Zam Zb2 (ZaF Zaw (pv 1) Zac<|λ_ _=>rfl)<|pv 4)<|Zam Zb2 (ZaF Zaw (pv 2) Zac<|λ_ _=>rfl)<|pv 3) Zae)))),?_⟩
 have v:=I.pos;have n:=G.pos;have hf:=M3.gcd_ne (a:=l) (b:=j) ⋯;have hg:=M3.gcd_ne (a:=m) (b:=e) ⋯;have W:Int.gcd l j<=j.natAbs:=Wu (Zlr n)<|Wv.mpr<|W1 l j;have M:Int.gcd m e<=e.natAbs:=Wu (Zlr v)<|Wv.mpr<|W1 m e;have d:(Int.gcd l j:Int)≠0/\Bits 4000 (Int.gcd l j:Int):=⟨⋯,o.le (by rw[Qk];exact W)⟩;have g:(Int.gcd m e:Int)≠0/\Bits 4000 (Int.gcd m e:Int):=⟨⋯,u.le (by rw[Qk];exact M)⟩;have T:=M3.fdiv_le (Wk l j) d.1;have Y:=M3.fdiv_le (W1 l j) d.1;have L:=M3.fdiv_le (Wk m e) g.1;have X:=M3.fdiv_le (W1 m e) g.1;refine ⟨_,rfl,_,_,_,_,rfl,rfl,x,rfl,_,rfl,_,_,_,_,rfl,rfl,y,rfl,l,j,rfl,?_⟩;refine ⟨_,rfl,_,_,_,_,rfl,rfl,y,rfl,_,rfl,_,_,_,_,rfl,rfl,x,rfl,m,e,rfl,?_⟩;refine ⟨_,rfl,_,_,_,_,rfl,rfl,x,rfl,_,rfl,_,_,rfl,rfl,d,_,rfl,_,_,_,_,rfl,rfl,y,rfl,_,rfl,_,_,rfl,rfl,g,_,_,rfl,rfl,(C.le T).mulT<|B.le L,?_⟩;refine ⟨_,rfl,_,rfl,_,_,_,_,rfl,rfl,x,rfl,_,rfl,_,_,rfl,rfl,g,_,rfl,_,_,_,_,rfl,rfl,y,rfl,_,rfl,_,_,rfl,rfl,d,_,_,rfl,rfl,((u.le X).up ∅).mulG<|o.le Y,(by show 2<=sizeLine;decide),λt r=>?_⟩;obtain ⟨R,N,U⟩:=M3.times_ok v n I.cop G.cop;exact k t _ _ _ (Zal r _) Zah r ⟨R,N⟩ U
end
inductive Zfn (CR:Addr) (g:Int->Int->Int) (vs:List V) (H:Hp) (Q:VK) (zE:XK):Prop
 |mk (s:Addr) (p a b:Int) (_:vs=[.ref s,.int a,.int b]) (_:ReA CR p H s) (_:2<=p) (_:a.natAbs<=10^150) (_:b.natAbs<=10^150) (_:Q (.int (g a b%p)) H):Zfn CR g vs H Q zE
section
variable{P:Program}{w:World}{K:ZZfg}{mg:ZZmg}{base:Heap}
theorem ZgC:FnScope ["self","one","other"] ["self","one","other"] (Zab Zdg):=‹2›
theorem Zm1{CR:Addr}(h:HereM K CR "plus" "Rests.plus" Zdg) (l:Cls K CR) (d:NoAttr K CR "prime"):HasM P w K mg base CR "plus" 1 ["self","one","other"] [] (Zfn CR λa b=>a+b):=by
 refine h.hasM (λ_ _ F=>F.b3 λ_ _ _ _ _ _ _ _ _=>rfl) λf o F=>F.ok ZgC (λe H Q E h=>?_)<|λj A c s H e Q E q h=>?_
 ·obtain ⟨_,_,_,_,rfl,_⟩:=h
  rfl
 obtain ⟨sr,p,a,b,rfl,⟨g,i⟩,m,n,lb,k⟩:=h;refine ⟨_,(Zag<|Zar<|Zam Zbr (Zam ZaO (pv 1)<|pv 2)<|Zd0 (pv 0) rfl),?_⟩;refine ⟨_,rfl,_,rfl,_,_,rfl,rfl,_,rfl,sr,CR,g,_,_,rfl,i,l,d,ZbS p,_,_,rfl,rfl,(show p≠0 by omega),?_⟩;show Q (V.int<|(a+b).fmod p) _;rw[W8 _ ⋯];exact k
theorem ZfN:FnScope ["self","one","other"] ["self","one","other"] (Zab ZcO):=‹2›
theorem Zly{CR:Addr}(h:HereM K CR "times" "Rests.times" ZcO) (m:Cls K CR) (d:NoAttr K CR "prime"):HasM P w K mg base CR "times" 1 ["self","one","other"] [] (Zfn CR λa b=>a*b):=by
 refine h.hasM (λ_ _ F=>F.b3 λ_ _ _ _ _ _ _ _ _=>rfl) λf o F=>F.ok ZfN (λe H Q E h=>?_)<|λl A c s H e Q E q h=>?_
 ·obtain ⟨_,_,_,_,rfl,_⟩:=h
  rfl
 obtain ⟨sr,p,a,b,rfl,⟨g,j⟩,n,i,lb,k⟩:=h;refine ⟨_,(Zag<|Zar<|Zam Zbr (Zam ZaH (pv 1)<|pv 2)<|Zd0 (pv 0) rfl),?_⟩;refine ⟨_,rfl,_,rfl,_,_,rfl,rfl,Zbx i lb,_,rfl,sr,CR,g,_,_,rfl,j,m,d,ZbS p,_,_,rfl,rfl,(show p≠0 by omega),?_⟩;show Q (V.int<|(a*b).fmod p) _;rw[W8 _ ⋯];exact k
end
theorem Zsf{t b:Int}(m:b≠0):∃c:Int,c=(if b<0 then -(Int.gcd t b:Int) else (Int.gcd t b:Int))/\c≠0/\c.natAbs<=b.natAbs/\Fc (t.fdiv c) (b.fdiv c)/\t.fdiv c*b=t*b.fdiv c/\(t.fdiv c).natAbs<=t.natAbs/\(b.fdiv c).natAbs<=b.natAbs:=by
 have n:=M3.gcd_ne (a:=t) m;have o:Int.gcd t b<=b.natAbs:=Wu ⋯<|Wv.mpr<|W1 t b
 by_cases h:b<0
 ·refine ⟨-(Int.gcd t b:Int),by rw[if_pos h],⋯,⋯,?_⟩;have j:t.fdiv (-(Int.gcd t b:Int))=(-t).fdiv (Int.gcd t b):=by rw[<-Int.neg_fdiv_neg,Int.neg_neg]
  have l:b.fdiv (-(Int.gcd t b:Int))=(-b).fdiv (Int.gcd t b):=by rw[<-Int.neg_fdiv_neg,Int.neg_neg]
  have k:Int.gcd t b=Int.gcd (-t) (-b):=by rw[Int.neg_gcd,Int.gcd_neg]
  obtain ⟨e,f,d,i,g⟩:=M3.low (t:=-t) (b:=-b) ⋯;rw[j,l,k];refine ⟨⟨f,e⟩,?_,⋯,⋯⟩;rw[Uo,Int.neg_mul] at d;exact Int.neg_inj.mp d
 ·refine ⟨(Int.gcd t b:Int),by rw[if_neg h],⋯,⋯,?_⟩;obtain ⟨e,f,d,i,g⟩:=M3.low (t:=t) (b:=b) ⋯;exact ⟨⟨f,e⟩,d,i,g⟩
inductive Zdz (cN:Addr) (vs:List V) (H:Hp) (Q:VK) (E:XK):Prop
 |mk (s:Addr) (t b:Int) (_:vs=[.ref s,.int t,.int b]) (_:b.natAbs<=10^150) (_:(b=0->E (.ref cN) none H)) (_:(b≠0->∀(r:Addr) (x y:Int),H r=none->Fc x y->x*b=t*y->x.natAbs<=t.natAbs->y.natAbs<=b.natAbs->Q (.ref r) (upd H r (.tup [.int x,.int y])))):Zdz cN vs H Q E
section
variable{P:Program}{w:World}{K:ZZfg}{mg:ZZmg}{base:Heap}
theorem sc_Fractions_number:FnScope ["self","top","bottom","common"] ["self","top","bottom"] (Zab ZaY):=‹2›
theorem Zij{x:Addr}{f T:Addr}{v:FuncData}{items:Array Value}(F:FunD K "number" "Fractions.number" ZaY f v T items) (c:ExcC K mg "NoNumber" x) (a:Has P w K mg base "divisor" 1 ["one","other"] ZaX):FnOk P w K mg base (CXx P w) 2 f v ["self","top","bottom"] (Zdz x):=by
 refine F.okx sc_Fractions_number (λC H Q E h=>?_)<|λD A l s H C Q E G h=>?_
 ·obtain ⟨_,_,_,rfl,_⟩:=h
  rfl
 obtain ⟨I,t,b,rfl,lb,B,k⟩:=h;have y:=sc_Fractions_number.nd;refine ⟨_,(Zad (Za1 (Zav Za6 (pv 2) Zac<|Zay _) (Zag<|Zdy c ZfY rfl (by rfl)<|Zaa ZcZ Zae) ZaB)
  (Zad (ZaG (i:=3) y rfl (Or.inl rfl)<|ZaI a G (by rfl)<|Zaa (pv 1)<|Zaa (pv 2) Zae)
  (Zad (Za1 (Zav Zg9 (pv 2) Zac<|Zay _) (Zag<|ZaG (i:=3) y rfl (Or.inl rfl)<|ZkA Zg8<|pv 3) ZaB)
  (Zag<|Zar<|Zcd<|Zaa (Zam Zgd (pv 1)<|pv 3)<|Zaa (Zam Zgd (pv 2)<|pv 3) Zae)))),?_⟩
 refine ⟨_,rfl,rfl,_,rfl,?_⟩;refine Zc0 (λz=>⟨(by show 1<=1000;decide),B z⟩)<|λn=>?_;refine ⟨_,rfl,_,rfl,t,b,rfl,?_⟩;obtain ⟨c,q,j,J,p,e,o,u⟩:=Zsf (t:=t) n;refine ⟨_,rfl,_,_,rfl,rfl,_,rfl,?_⟩;refine ZbR (λm=>?_)<|λm=>?_
 ·refine ⟨_,rfl,_,rfl,?_⟩;have d:c = -(Int.gcd t b:Int):=by rw[q,if_pos m]
  refine ⟨_,rfl,_,rfl,_,_,rfl,rfl,(by rw[<-d];exact ⟨j,⋯⟩),_,rfl,_,rfl,_,_,rfl,rfl,(by rw[<-d];exact ⟨j,⋯⟩),(by show 2<=sizeLine;decide),λr g=>?_⟩;rw[<-d];exact k n r _ _ g p e o u
 ·have d:c=(Int.gcd t b:Int):=by rw[q,if_neg m]
  refine ⟨_,rfl,_,rfl,_,_,rfl,rfl,(by rw[<-d];exact ⟨j,⋯⟩),_,rfl,_,rfl,_,_,rfl,rfl,(by rw[<-d];exact ⟨j,⋯⟩),(by show 2<=sizeLine;decide),λr g=>?_⟩;rw[<-d];exact k n r _ _ g p e o u
theorem Zik{CF d:Addr}{b:Tok}(h:HereD K CF "number" "Fractions.number" ZaY #[.int 1 b]) (c:ExcC K mg "NoNumber" d) (a:Has P w K mg base "divisor" 1 ["one","other"] ZaX):HasMX P w K mg base CF "number" 2 ["self","top","bottom"] [.int 1] (Zdz d) :=
 h.hasMX (ds:=[.int 1 b]) (.cons ⟨_,rfl⟩ .nil) (λf e T F=>F.binds λ_ _ _ _ _ _ i g=>by obtain ⟨_,_,rfl⟩:=Zcv (show i.length=2 by simpa using g);exact ⟨_,rfl,rfl⟩) λf e T F=>Zij F c a
end
theorem Zsg{p t b u v r:Int}(hp:2<=p)(h:(1:Int)=b*u+p*v)(c:r=t*u%p):0<=r/\r<p/\p ∣ r*b-t:=by
 subst c;refine ⟨Wg _ ⋯,Ws _ ⋯,?_⟩;have e:=Int.emod_add_mul_ediv (t*u) p;have a:t*u%p=t*u-p*(t*u/p):=⋯;refine ⟨-(t*v)-(t*u/p)*b,?_⟩;rw[a];have f:t=t*b*u+t*p*v:=by
  have:=congrArg (t * ·) h
  simp only[Wo,Int.mul_add] at this
  rw[Qt,Qt];exact this
 generalize t*u/p=k at *;rw[Int.sub_mul,Int.mul_sub,Uo,Qt p k b];have d:t*u*b=t*b*u:=by rw[Qt,W0 u b,<-Qt]
 have g:p*(t*v)=t*p*v:=by rw[<-Qt,W0 p t]
 omega
inductive Zcb (CR cN:Addr) (vs:List V) (H:Hp) (Q:VK) (E:XK):Prop
 |mk (s:Addr) (p t b:Int) (_:vs=[.ref s,.int t,.int b]) (_:ReA CR p H s) (_:M2.Prm p) (_:p<1000000) (_:t.natAbs<=10^140) (_:b.natAbs<=10^100) (_:(p ∣ b->E (.ref cN) none H)) (_:(¬p ∣ b->∀(H':Hp) (r:Int),Same H H'->0<=r->r<p->p ∣ r*b-t->Q (.int r) H')):Zcb CR cN vs H Q E
section
variable{P:Program}{w:World}{K:ZZfg}{mg:ZZmg}{base:Heap}
theorem Zfo:FnScope ["self","top","bottom"] ["self","top","bottom"] (Zab Zbm):=‹2›
theorem Zfp{CR x:Addr}{f T:Addr}{o:FuncData}{items:Array Value}(F:FunD K "number" "Rests.number" Zbm f o T items) (m:Cls K CR) (j:NoAttr K CR "prime") (c:ExcC K mg "NoNumber" x) (a:Has P w K mg base "shares" 2 ["one","other"] Zdm):FnOk P w K mg base (CXx P w) 3 f o ["self","top","bottom"] (Zcb CR x):=by
 refine F.okx Zfo (λJ H Q E h=>?_)<|λN A g s H J Q E R h=>?_
 ·obtain ⟨_,_,_,_,rfl,_⟩:=h
  rfl
 obtain ⟨sr,p,t,b,rfl,⟨i,l⟩,n,X,U,lb,D,k⟩:=h;have B:=n.1;refine ⟨_,(Zad (Za1 (Zav Za6 (Zam Zbr (pv 2)<|Zd0 (pv 0) rfl) Zac<|Zay _) (Zag<|Zdy c ZfY rfl (by rfl)<|Zaa ZcZ Zae) ZaB)
  (Zag<|Zar<|Zam Zbr (Zam ZaH (pv 1)<|ZaF Zaw (ZaI a R (by rfl)<|Zaa (pv 2)<|Zaa (Zd0 (pv 0) rfl) Zae) Zac<|λ_ _=>rfl)<|Zd0 (pv 0) rfl)),?_⟩
 refine ⟨_,rfl,_,rfl,sr,CR,i,_,_,rfl,l,m,j,ZbS p,_,_,rfl,rfl,(show p≠0 by omega),rfl,_,rfl,?_⟩;refine Zc0 (λz=>⟨(by show 1<=1000;decide),D<|(M2.fmod_dvd ⋯).mp z⟩)<|λG=>?_;have d:¬p ∣ b:=λz=>G<|(M2.fmod_dvd ⋯).mpr z;have L:=M2.prm_gcd n d;refine ⟨_,rfl,_,rfl,_,rfl,sr,CR,i,_,_,rfl,l,m,j,ZbS p,b,p,rfl,lb,⋯,λq C u v S O e Y W=>?_⟩;refine ⟨_,_,_,_,rfl,rfl,SqT.of O,rfl,_,_,rfl,rfl,Zbx ⋯ ⋯,_,rfl,sr,CR,i,_,_,rfl,S _ _ l,m,j,ZbS p,_,_,rfl,rfl,(show p≠0 by omega),?_⟩;rw[L] at e;obtain ⟨y,M,I⟩:=Zsg (p:=p) (t:=t) (b:=b) (r:=t*u%p) B e rfl;show Q (V.int<|(t*u).fmod p) _;rw[W8 _ ⋯];exact k d C _ S y M I
theorem Zj4{CR b:Addr}{e:Tok}(h:HereD K CR "number" "Rests.number" Zbm #[.int 1 e]) (j:Cls K CR) (d:NoAttr K CR "prime") (c:ExcC K mg "NoNumber" b) (a:Has P w K mg base "shares" 2 ["one","other"] Zdm):HasMX P w K mg base CR "number" 3 ["self","top","bottom"] [] (Zcb CR b) :=
 h.hasMX (ds:=[]) .nil (λf i T F=>F.binds λ_ _ _ _ _ _ k g=>by obtain ⟨_,_,_,rfl⟩:=Zc1 (show k.length=3 by simpa using g);exact ⟨_,rfl,rfl⟩) λf i T F=>Zfp F j d c a
theorem Zil{CR d:Addr}{b:Tok}(h:HereD K CR "number" "Rests.number" Zbm #[.int 1 b]) (j:Cls K CR) (e:NoAttr K CR "prime") (c:ExcC K mg "NoNumber" d) (a:Has P w K mg base "shares" 2 ["one","other"] Zdm):HasMX P w K mg base CR "number" 3 ["self","top","bottom"] [.int 1] (Zcb CR d) :=
 h.hasMX (ds:=[.int 1 b]) (.cons ⟨_,rfl⟩ .nil) (λf i T F=>F.binds λ_ _ _ _ _ _ k g=>by obtain ⟨_,_,rfl⟩:=Zcv (show k.length=2 by simpa using g);exact ⟨_,rfl,rfl⟩) λf i T F=>Zfp F j e c a
end
inductive Zes (K:ZZfg) (CF:Addr) (vs:List V) (H:Hp) (Q:VK) (zE:XK):Prop
 |mk (s p q:Addr) (a1 b1 a2 b2:Int) (_:vs=[.ref s,.ref p,.ref q]) (_:FrA CF H s) (_:SqT K H p [.int a1,.int b1]) (_:SqT K H q [.int a2,.int b2]) (_:Fc a1 b1) (_:Fc a2 b2) (_:Bits 1000000 a1) (_:Bits 4000 b1) (_:Bits 1000000 a2) (_:Bits 4000 b2) (_:∀(t:Addr) (H':Hp) (x y:Int),Same H H'->H' t=some (.tup [.int x,.int y])->H t=none->Fc x y->x*(b1*b2)=(a1*b2+(-a2)*b1)*y->Q (.ref t) H'):Zes K CF vs H Q zE
section
variable{P:Program}{w:World}{K:ZZfg}{mg:ZZmg}{base:Heap}
theorem ZdS:FnScope ["self","one","other"] ["self","one","other"] (Zab ZbG):=‹2›
theorem Zj5{CF:Addr}(h:HereM K CF "minus" "Fractions.minus" ZbG) (W:Cls K CF) (O:HasM P w K mg base CF "plus" 2 ["self","one","other"] [] (Zd7 K CF)):HasM P w K mg base CF "minus" 3 ["self","one","other"] [] (Zes K CF):=by
 refine h.hasM (λ_ _ F=>F.b3 λ_ _ _ _ _ _ _ _ _=>rfl) λf Y F=>F.ok ZdS (λR H Q E h=>?_)<|λT A a s H R Q E X h=>?_
 ·obtain ⟨_,_,_,_,_,_,_,rfl,_⟩:=h
  rfl
 obtain ⟨L,p,q,C,N,m,n,rfl,⟨I,u⟩,D,v,U,j,i,g,d,c,k⟩:=h;refine ⟨_,(Zag<|Zar<|Zgg (pv 0) X<|Zaa (pv 1)<|Zaa (Zcd<|Zaa (ZkA Zg8<|ZaF Zaw (pv 2) Zac<|λ_ _=>rfl)<|Zaa (ZaF Zaw (pv 2) Zac<|λ_ _=>rfl) Zae) Zae),?_⟩;refine ⟨_,rfl,_,_,_,_,_,_,_,rfl,u,W,O,rfl,_,rfl,_,rfl,_,_,_,_,rfl,rfl,v,rfl,_,rfl,_,rfl,_,_,_,_,rfl,rfl,v,rfl,(by show 2<=sizeLine;decide),λr b=>?_⟩;have S:=Zal b<|.tup [.int<|-m,.int n];refine ⟨L,p,r,C,N,-m,n,rfl,⟨I,S _ _ u⟩,S.tup D,SqT.of Zah,U,⟨j.pos,by rw[Int.neg_gcd];exact j.cop⟩,i,g,d.le ⋯,c,λt J x y M G l B e=>?_⟩;exact k t J x y (S.trans M) G (by
  cases z:H t with
  |none=>rfl
  |some o=>rw[S t o z] at l;cases l) B e
theorem ZfO:FnScope ["self","one","other"] ["self","one","other"] (Zab ZcN):=‹2›
theorem Zlz{CR:Addr}(h:HereM K CR "minus" "Rests.minus" ZcN) (l:Cls K CR) (d:NoAttr K CR "prime"):HasM P w K mg base CR "minus" 1 ["self","one","other"] [] (Zfn CR λa b=>a-b):=by
 refine h.hasM (λ_ _ F=>F.b3 λ_ _ _ _ _ _ _ _ _=>rfl) λf o F=>F.ok ZfO (λe H Q E h=>?_)<|λj A c s H e Q E q h=>?_
 ·obtain ⟨_,_,_,_,rfl,_⟩:=h
  rfl
 obtain ⟨sr,p,a,b,rfl,⟨g,i⟩,m,n,lb,k⟩:=h;refine ⟨_,(Zag<|Zar<|Zam Zbr (Zam ZbQ (pv 1)<|pv 2)<|Zd0 (pv 0) rfl),?_⟩;refine ⟨_,rfl,_,rfl,_,_,rfl,rfl,_,rfl,sr,CR,g,_,_,rfl,i,l,d,ZbS p,_,_,rfl,rfl,(show p≠0 by omega),?_⟩;show Q (V.int<|(a-b).fmod p) _;rw[W8 _ ⋯];exact k
theorem Zj6:FnScope ["self","one"] ["self","one"] (Zab ZeP):=‹2›
end
inductive Zet (K:ZZfg) (CF:Addr) (vs:List V) (H:Hp) (Q:VK) (zE:XK):Prop
 |mk (s p:Addr) (a b:Int) (_:vs=[.ref s,.ref p]) (_:SqT K H p [.int a,.int b]) (_:Q (.bl (decide (a=0))) H):Zet K CF vs H Q zE
section
variable{P:Program}{w:World}{K:ZZfg}{mg:ZZmg}{base:Heap}
theorem Zc6:FnScope ["self","one"] ["self","one"] (Zab Zbc):=‹2›
theorem Zj7{CF:Addr}(h:HereM K CF "is_nought" "Fractions.is_nought" Zbc):HasM P w K mg base CF "is_nought" 1 ["self","one"] [] (Zet K CF):=by
 refine h.hasM (λ_ _ F=>F.b2 λ_ _ _ _ _ _ _ _=>rfl) λf j F=>F.ok Zc6 (λe H Q E h=>?_)<|λg A c s H e Q E l h=>?_
 ·obtain ⟨_,_,_,_,rfl,_⟩:=h
  rfl
 obtain ⟨i,p,a,b,rfl,d,k⟩:=h;refine ⟨_,(Zag<|Zar<|ZbD Za6 (ZaF Zaw (pv 1) Zac<|λ_ _=>rfl) Zac<|Zay _),?_⟩;refine ⟨_,rfl,_,_,_,_,rfl,rfl,d,rfl,rfl,?_⟩;rw[Zge];exact k
end
inductive Zeu (vs:List V) (H:Hp) (Q:VK) (zE:XK):Prop
 |mk (s:Addr) (a:Int) (_:vs=[.ref s,.int a]) (_:Q (.bl (decide (a=0))) H):Zeu vs H Q zE
section
variable{P:Program}{w:World}{K:ZZfg}{mg:ZZmg}{base:Heap}
theorem Zd8:FnScope ["self","one"] ["self","one"] (Zab ZbI):=‹2›
theorem Zj8{CR:Addr}(h:HereM K CR "is_nought" "Rests.is_nought" ZbI):HasM P w K mg base CR "is_nought" 1 ["self","one"] [] Zeu:=by
 refine h.hasM (λ_ _ F=>F.b2 λ_ _ _ _ _ _ _ _=>rfl) λf g F=>F.ok Zd8 (λc H Q E h=>?_)<|λd A b s H c Q E i h=>?_
 ·obtain ⟨_,_,rfl,_⟩:=h
  rfl
 obtain ⟨e,a,rfl,k⟩:=h;refine ⟨_,(Zag<|Zar<|ZbD Za6 (pv 1) Zac<|Zay _),?_⟩;refine ⟨_,rfl,rfl,?_⟩;rw[Zge];exact k
end
theorem Zhv(N:Int){D:Int}(b:0<D):(Rat.divInt N D).num*D=N*(Rat.divInt N D).den:=by
 have h:=Qu<|Rat.divInt N D;have a:=(Zbj<|Rat.divInt N D).pos;have:=(W4 (n₁:=(Rat.divInt N D).num) (d₁:=((Rat.divInt N D).den:Int)) (n₂:=N) (d₂:=D) ⋯ ⋯).mp h;exact this
theorem Zim{a b c:Int}(h:a ∣ b*c)(g:Int.gcd a b=1):a ∣ c:=by
 rw[<-Wv] at h ⊢;rw[Qs] at h;exact Nat.Coprime.dvd_of_dvd_mul_left g h
theorem Zd9(N:Int){D:Int}(a:0<D):((Rat.divInt N D).den:Int) ∣ D/\(Rat.divInt N D).num ∣ N:=by
 have e:=Zhv N a;have c:=(Zbj<|Rat.divInt N D).cop;generalize (Rat.divInt N D).num=n at *;generalize ((Rat.divInt N D).den:Int)=d at *;refine ⟨?_,?_⟩
 ·refine Zim (b:=n) ⟨N,?_⟩ (by rw[Int.gcd_comm];exact c);rw[e,W0]
 ·refine Zim (b:=d) ⟨D,?_⟩ c;rw[e,W0]
theorem Zbh{a b:Int}(h:a ∣ b)(c:b≠0):a.natAbs<=b.natAbs:=Wu ⋯<|Wv.mpr h
theorem Zjc{n:Nat}{a b:Int}(h:a ∣ b)(c:Bits n b)(d:b=0->a=0):Bits n a:=by
 by_cases z:b=0
 ·rw[d z];exact Q6 _
 ·exact c.le (Zbh h z)
theorem Zjd(N:Int){D:Int}(a:0<D)(z:N=0):(Rat.divInt N D).num=0:=by
 subst z;have e:=Zhv 0 a;rw[Int.zero_mul] at e;rcases Int.mul_eq_zero.mp e with h|h
 ·exact h
 ·omega
def KdX(CF CR:Addr)(κ:KX)(H:Hp)(s:Addr):Prop:=match κ with
 | .q=>FrA CF H s
 | .r p _=>ReA CR p H s
theorem KdX.same{CF CR:Addr}{κ:KX}{H b:Hp}{k:Addr}(h:KdX CF CR κ H k)(S:Same H b):KdX CF CR κ b k:=by
 cases κ with
 |q=>obtain ⟨a,h⟩:=h;exact ⟨a,S _ _ h⟩
 |r p c=>obtain ⟨a,h⟩:=h;exact ⟨a,S _ _ h⟩
theorem ZqK{CF CR:Addr}{p:Int}{H:Hp}{s:Addr}(h:KdA CF CR p H s):∃κ:KX,κ.P=p/\KdX CF CR κ H s:=by
 rcases h with ⟨rfl,h⟩|⟨pr,lp,h⟩
 ·exact ⟨.q,rfl,h⟩
 ·have a:=pr.1;have e:((p.toNat:Nat):Int)=p:=⋯;refine ⟨.r p.toNat ⟨by rw[e];exact pr,⋯⟩,e,?_⟩;show ReA CR ((p.toNat:Nat):Int) H s;rw[e];exact h
abbrev B1(κ:KX)(x:κ.F):Prop:=Bd κ 1000000 4000 x
theorem Za8{p:Nat}(h:PrN p)(x:Fin p):((x.val:Int)).natAbs<=10^150:=by
 have:=x.isLt;have:=h.lt;exact Q1 (show _<=1000000 by omega) ∅
def Zpc(P:Program)(w:World)(K:ZZfg)(h:ZZmg)(base:Heap)(CF CR:Addr)(m:Str)(g:(a:KX)->a.F->a.F->a.F):Prop :=
 ∀(a:KX) (H:Hp) (s:Addr),KdX CF CR a H s->∃C j f i c e,H s=some (.ins C j f)/\Cls K C/\HasM P w K h base C m 2 i c e/\f.lookup m=none/\c=[] ∧
  ∀(d:Hp) (u v:V) (x y:a.F) (Q:VK),Same H d->NR a d u x->NR a d v y->B1 a x->B1 a y->(∀t b,Same d b->NR a b t (g a x y)->Q t b)->e [.ref s,u,v] d Q E0
section
variable{P:Program}{w:World}{K:ZZfg}{mg:ZZmg}{base:Heap}{CF CR:Addr}
theorem ZlA(A:Kd K mg CF CR)(F:HasM P w K mg base CF "plus" 2 ["self","one","other"] [] (Zd7 K CF)) (J:HasM P w K mg base CR "plus" 2 ["self","one","other"] [] (Zfn CR λa b=>a+b)):Zpc P w K mg base CF CR "plus" (λ_ x y=>x+y):=by
 intro G H s m
 cases G with
 |q =>
  obtain ⟨g,h⟩:=m;refine ⟨CF,g,[],_,_,_,h,A.clF,F,rfl,rfl,λo u v x y Q S f c z i k=>?_⟩;obtain ⟨a,rfl,f⟩:=f;obtain ⟨b,rfl,c⟩:=c;refine ⟨s,a,b,_,_,_,_,rfl,⟨g,S _ _ h⟩,SqT.of f,SqT.of c,Zbj x,Zbj y,z.1,z.2,i.1,i.2,λt j n d D C L B e=>?_⟩;obtain ⟨E,I⟩:=Zlw (x:=x) (y:=y) B e;refine k (.ref t) j D ⟨t,rfl,?_⟩;show j t=some (.tup [.int (x+y).num,.int ((x+y).den:Int)]);rw[E,I];exact C
 |r p l =>
  obtain ⟨g,h⟩:=m;refine ⟨CR,g,fsR p,_,_,_,h,A.clR,J,Zfm _ ∅,rfl,λo u v x y Q S f c _ _ k=>?_⟩;have f:u = .int x.val:=f;have c:v = .int y.val:=c;subst f c;refine ⟨s,p,_,_,rfl,⟨g,S _ _ h⟩,by have:=l.two;omega,Za8 l x,Za8 l y,k _ o (Same.refl _) ?_⟩;show V.int (((x.val:Int)+y.val)%p)=V.int ((Fin.val (x+y):Nat):Int);have e:Fin.val (x+y)=(x.val+y.val)%p:=Fin.val_add x y;rw[e,Wj,Int.natCast_add]
theorem Zj9(A:Kd K mg CF CR)(F:HasM P w K mg base CF "times" 2 ["self","one","other"] [] (Zer K CF)) (J:HasM P w K mg base CR "times" 2 ["self","one","other"] [] (Zfn CR λa b=>a*b)):Zpc P w K mg base CF CR "times" (λ_ x y=>x*y):=by
 intro G H s m
 cases G with
 |q =>
  obtain ⟨g,h⟩:=m;refine ⟨CF,g,[],_,_,_,h,A.clF,F,rfl,rfl,λo u v x y Q S f c z i k=>?_⟩;obtain ⟨a,rfl,f⟩:=f;obtain ⟨b,rfl,c⟩:=c;refine ⟨s,a,b,_,_,_,_,rfl,⟨g,S _ _ h⟩,SqT.of f,SqT.of c,Zbj x,Zbj y,z.1,z.2,i.1,i.2,λt j n d D C L B e=>?_⟩;obtain ⟨E,I⟩:=Zpb (x:=x) (y:=y) B e;refine k (.ref t) j D ⟨t,rfl,?_⟩;show j t=some (.tup [.int (x*y).num,.int ((x*y).den:Int)]);rw[E,I];exact C
 |r p l =>
  obtain ⟨g,h⟩:=m;refine ⟨CR,g,fsR p,_,_,_,h,A.clR,J,Zfm _ ∅,rfl,λo u v x y Q S f c _ _ k=>?_⟩;have f:u = .int x.val:=f;have c:v = .int y.val:=c;subst f c;refine ⟨s,p,_,_,rfl,⟨g,S _ _ h⟩,by have:=l.two;omega,Za8 l x,Za8 l y,k _ o (Same.refl _) ?_⟩;show V.int (((x.val:Int)*y.val)%p)=V.int ((Fin.val (x*y):Nat):Int);have e:Fin.val (x*y)=(x.val*y.val)%p:=Fin.val_mul x y;rw[e,Wj,Wt]
end
end My
namespace L2
open PySem PySem.Spec PyProof.Rows
section
variable{X:Cx}
theorem Zje:OpR X (binaryOp .FloorDiv) (rI (λ_ j=>j≠0/\Bits 8000 j) λi j => .int<|i.fdiv j):=opI λ_ _ _ _ _ _ _ a q=>floordiv_int a.1 q<|.inl<|PyProof.noPylong_of_log2<|Ua (a.2.log a.1) ∅
end
end L2
namespace My
open PySem L2 PyProof.Rows
theorem ZgD{p:Prop}[Decidable p]{A B:Prop}(h:p)(k:A):if decide p=true then A else B:=by rw[if_pos<|decide_eq_true h];exact k
theorem ZnX{p:Prop}[Decidable p]{A B:Prop}(h:¬p)(k:B):if decide p=true then A else B:=by rw[if_neg (by simpa using h)];exact k
theorem ZeX{H a:Hp}{t:Addr}{o:HO}(S:Same H a):Off [t] H (upd a t o):=λb u n q=>by
 rw[Zaj<|λz=>n (by rw[z];exact Qh.mpr rfl)];exact S _ _ q
theorem Zpd{n:Nat}{i:Int}(a:0<=i)(h:i<n):ixN n i=some i.toNat:=by
 have e:i=((i.toNat:Nat):Int):=⋯;rw[e,Qa];exact Zlt ⋯
open PySem L2 PyProof.Rows
def Sz(κ:KX)(n:Nat)(x:κ.F):Prop:=match κ with
 | .q=>(x.den:Int) ∣ 60*12^n/\Bits (200+700*n) x.num
 | .r _ _=>True
theorem ZtA{t b:Int}(a:0<b):(t.fdiv (Int.gcd t b)=(Rat.divInt t b).num)/\(b.fdiv (Int.gcd t b)=((Rat.divInt t b).den:Int)):=by
 obtain ⟨c,d,g,_,_⟩:=M3.low (t:=t) a;obtain ⟨f,e⟩:=Zlv (N:=t) (D:=b) ⟨d,c⟩ a g;exact ⟨f.symm,e.symm⟩
inductive Zfq (vs:List V) (H:Hp) (Q:VK) (zE:XK):Prop
 |mk (t b:Int) (_:vs=[.int t,.int b]) (_:0<b) (_:Bits 8000 b) (_:∀r,H r=none->Q (.ref r) (upd H r (.tup [.int (Rat.divInt t b).num,.int ((Rat.divInt t b).den:Int)]))):Zfq vs H Q zE
inductive ZdA (g:(κ:KX)->κ.F->κ.F->κ.F) (vs:List V) (H:Hp) (Q:VK) (zE:XK):Prop
 |mk (κ:KX) (u v:V) (x y:κ.F) (_:vs=[.int κ.P,u,v]) (_:NR κ H u x) (_:NR κ H v y) (_:B1 κ x) (_:B1 κ y) (_:∀H' t,Same H H'->NR κ H' t (g κ x y)->Q t H'):ZdA g vs H Q zE
theorem ZlB{p:Nat}{h:PrN p}:0<(KX.r p h).P:=by have:=h.two;show 0<(p:Int);omega
theorem ZqL{p:Nat}(h:PrN p)(c:Int):∃x:Fin p,(c.fmod (p:Int))=(x.val:Int):=by
 have a:=h.two;rw[W8 _ ⋯];have d:=Wg c (show (p:Int)≠0 by omega);have b:=Ws c (show 0<(p:Int) by omega);exact ⟨⟨(c%p).toNat,⋯⟩,by show c%p=(((c%p).toNat:Nat):Int);omega⟩
theorem ZgE{a b:Int}{A B:Prop}(h:a=b)(k:A):if decide (V.int a=V.int b)=true then A else B:=Zc0 (λ_=>k)<|λz=>absurd h z
theorem Zjf{a b:Int}{A B:Prop}(h:a≠b)(k:B):if decide (V.int a=V.int b)=true then A else B:=Zc0 (λz=>absurd z h)<|λ_=>k
noncomputable abbrev K1(κ:KX):κ.F:=1
noncomputable abbrev K0(κ:KX):κ.F:=0
theorem ZlC{p:Nat}(h:PrN p):Fin.val (K1<|.r p h)=1:=by
 show 1%p=1;exact Nat.mod_eq_of_lt h.two
theorem ZgF{p:Nat}(h:PrN p):Fin.val (K0<|.r p h)=0:=by
 show 0%p=0;exact Nat.zero_mod p
theorem Zjg{n d:Int}(a:Fc n d):∃q:Rat,q.num=n/\(q.den:Int)=d:=by
 have c:=a.pos;refine ⟨⟨n,d.toNat,⋯,?_⟩,rfl,by show ((d.toNat:Nat):Int)=d;omega⟩;have:=a.cop;rw[Nat.coprime_iff_gcd_eq_one];have e:Int.gcd n d=Nat.gcd n.natAbs d.natAbs:=rfl;have b:d.natAbs=d.toNat:=⋯;rw[<-b];omega
theorem Zpe{x y:Rat}{n d:Int}(c:Fc n d)(e:n*((x.den:Int)*y.den)=(x.num*y.den+(-y.num)*x.den)*d):(x-y).num=n/\((x-y).den:Int)=d:=by
 have b:(-y).num = -y.num:=rfl;have a:(-y).den=y.den:=rfl;have:x-y=x+(-y):=by grind
 rw[this];refine Zlw (x:=x) (y:=-y) c ?_;rw[b,a];exact e
theorem ZqM{κ:KX}{n m:Nat}{x:κ.F}(h:Bd κ n m x):Bd κ n m (0-x):=by
 cases κ with
 |r p c=>exact trivial
 |q =>
  have e:(0-x:Rat) = -x:=by grind
  have b:(-x:Rat).num = -Rat.num x:=rfl;have a:(-x:Rat).den=Rat.den x:=rfl;refine ⟨?_,?_⟩
  ·show Bits n (0-x:Rat).num;rw[e,b];exact Bits.le h.1 ⋯
  ·show Bits m ((0-x:Rat).den:Int);rw[e,a];exact h.2
def NumV(κ:KX)(t:Int)(x:κ.F):Prop:=match κ with
 | .q=>x.num=t/\x.den=1
 | .r p _=>t.natAbs<=10^140/\(x.val:Int)=t%p
theorem Zfr{κ:KX}:NumV κ 0 0:=by
 cases κ with
 |q=>exact ⟨rfl,rfl⟩
 |r p h=>exact ⟨∅,by show ((Fin.val (K0<|.r p h):Nat):Int)=_;rw[ZgF];simp⟩
theorem Zcy{κ:KX}:NumV κ 1 1:=by
  cases κ with
  | q=>exact ⟨rfl,rfl⟩
  | r p h=>exact ⟨∅,by
      show ((Fin.val (K1<|.r p h):Nat):Int)=_;rw[ZlC];have:=h.two;exact (Uu ∅ ⋯).symm⟩
theorem NumV.uniq{κ:KX}{t:Int}{x y:κ.F}(h:NumV κ t x)(h':NumV κ t y):x=y:=by
 cases κ with
 |q =>
  have a:Rat.num x=Rat.num y:=h.1.trans h'.1.symm;have b:Rat.den x=Rat.den y:=h.2.trans h'.2.symm;exact Rat.ext a b
 |r p c =>
  refine Fin.ext ?_;have e:(Fin.val x:Int)=Fin.val y:=h.2.trans h'.2.symm;omega
def ZqN(P:Program)(w:World)(K:ZZfg)(g:ZZmg)(base:Heap)(CF CR:Addr):Prop :=
 ∀(a:KX) (H:Hp) (s:Addr),KdX CF CR a H s->∃C i f h c e,H s=some (.ins C i f)/\Cls K C/\HasM P w K g base C "minus" 3 h c e/\f.lookup ("minus":Str)=none/\c=[] ∧
  ∀(d:Hp) (u v:V) (x y:a.F) (Q:VK),Same H d->NR a d u x->NR a d v y->B1 a x->B1 a y->(∀t b,Same d b->NR a b t (x-y)->Q t b)->e [.ref s,u,v] d Q E0
def ZlD(P:Program)(w:World)(K:ZZfg)(g:ZZmg)(base:Heap)(CF CR:Addr):Prop :=
 ∀(c:KX) (H:Hp) (s:Addr),KdX CF CR c H s->∃C i f h b e,H s=some (.ins C i f)/\Cls K C/\HasMX P w K g base C "number" 3 h b e/\f.lookup ("number":Str)=none/\b=[.int 1] ∧
  ∀(d:Hp) (t:Int) (x:c.F) (Q:VK) (E:XK),Same H d->NumV c t x->(∀v a,Same d a->NR c a v x->Q v a)->e [.ref s,.int t,.int 1] d Q E
section
variable{P:Program}{w:World}{K:ZZfg}{mg:ZZmg}{base:Heap}{CF CR cN:Addr}
theorem Zka(B:Kd K mg CF CR)(G:HasM P w K mg base CF "minus" 3 ["self","one","other"] [] (Zes K CF)) (J:HasM P w K mg base CR "minus" 3 ["self","one","other"] [] (Zfn CR λa b=>a-b)):ZqN P w K mg base CF CR:=by
 intro I H s o
 cases I with
 |q =>
  obtain ⟨g,h⟩:=o;refine ⟨CF,g,[],_,_,_,h,B.clF,G,rfl,rfl,λz u v x y Q S f c A i k=>?_⟩;obtain ⟨a,rfl,f⟩:=f;obtain ⟨b,rfl,c⟩:=c;refine ⟨s,a,b,_,_,_,_,rfl,⟨g,S _ _ h⟩,SqT.of f,SqT.of c,Zbj x,Zbj y,A.1,A.2,i.1,i.2,λt j n d E D L C e=>?_⟩;obtain ⟨F,m⟩:=Zpe (x:=x) (y:=y) C e;refine k (.ref t) j E ⟨t,rfl,?_⟩;show j t=some (.tup [.int (x-y:Rat).num,.int ((x-y:Rat).den:Int)]);rw[F,m];exact D
 |r p l =>
  obtain ⟨g,h⟩:=o;refine ⟨CR,g,fsR p,_,_,_,h,B.clR,J,Zfm _ ∅,rfl,λz u v x y Q S f c _ _ k=>?_⟩;have f:u = .int x.val:=f;have c:v = .int y.val:=c;subst f c;refine ⟨s,p,_,_,rfl,⟨g,S _ _ h⟩,by have:=l.two;omega,Za8 l x,Za8 l y,k _ z (Same.refl _) ?_⟩;show V.int (((x.val:Int)-y.val)%p)=V.int ((Fin.val (x-y):Nat):Int);have e:Fin.val (x-y)=(p-y.val+x.val)%p:=rfl;have M:=y.isLt;have m:(((p-y.val+x.val:Nat)):Int)=((x.val:Int)-y.val)+p:=⋯;rw[e,Wj,m,Int.add_emod_right]
theorem Zin(l:Kd K mg CF CR)(C:HasMX P w K mg base CF "number" 3 ["self","top","bottom"] [.int 1] (Zdz cN)) (L:HasMX P w K mg base CR "number" 3 ["self","top","bottom"] [.int 1] (Zcb CR cN)):ZlD P w K mg base CF CR:=by
 intro D H s g
 cases D with
 |q =>
  obtain ⟨b,h⟩:=g;refine ⟨CF,b,[],_,_,_,h,l.clF,C,rfl,rfl,λi t x Q E S a k=>⟨s,t,1,rfl,∅,λz=>absurd z ∅,λ_ r n d u o e M G=>?_⟩⟩;have I:d=1:=by
   have:=o.pos;have O:d.natAbs<=1:=G;omega
  subst I;have y:n=t:=⋯;subst y;have B:Rat.num x=n:=a.1;have J:Rat.den x=1:=a.2;refine k _ _ (Zal u _) ⟨r,rfl,?_⟩;show upd i r _ r=some (.tup [.int<|Rat.num x,.int ((Rat.den x:Nat):Int)]);rw[B,J];exact Zah
 |r p c =>
  obtain ⟨b,h⟩:=g;have N:=c.pr.1;refine ⟨CR,b,_,_,_,_,h,l.clR,L,Zfm p ∅,rfl,λi t x Q E S a k=>⟨s,p,t,1,rfl,⟨b,S _ _ h⟩,c.pr,by have:=c.lt;omega,a.1,∅,λz=>?_,λ_ f r A m F j=>?_⟩⟩
  ·have:=Int.le_of_dvd ∅ z;omega
  ·refine k _ f A ?_;show V.int r=V.int ((Fin.val x:Nat):Int);have e:(Fin.val x:Int)=t%p:=a.2;rw[e]
   congr 1
   rw[Wo] at j;have v:r%p=t%p:=Int.emod_eq_emod_iff_emod_sub_eq_zero.mpr<|U2 j;rw[<-v];exact (Uu m F).symm
end
theorem Zpf{κ:KX}:B1 κ 0:=by
 cases κ with
 |q=>exact ⟨Bits.of (by show (0:Int).natAbs<_;exact Nat.two_pow_pos _),Bits.of (by show (1:Int).natAbs<_;exact Q5 (show 1<2^1 by decide)<|W5 ∅ ∅)⟩
 |r p h=>trivial
section
variable{κ:KX}
def dS:Nat->Nat|0=>1|1=>3|2=>906|_=>3614
def dL:Nat->Nat|0=>1|k+1=>dS k
end
theorem ZqO{κ:KX}{H:Hp}{u v:V}{x y:κ.F}(f:NR κ H u x)(d:NR κ H v y):∃b,ZmS H u v b/\(b=true↔x=y):=by
 cases κ with
 |q =>
  obtain ⟨a,rfl,h⟩:=f;obtain ⟨c,rfl,i⟩:=d;refine ⟨_,.inr ⟨a,c,_,_,_,_,rfl,rfl,h,i,rfl⟩,?_⟩;rw[Bool.and_eq_true_iff,decide_eq_true_iff,decide_eq_true_iff]
  constructor
  ·rintro ⟨g,k⟩;exact Rat.ext g ⋯
  ·intro e;have e:x=y:=e;subst e;exact ⟨rfl,rfl⟩
 |r p j =>
  have f:u = .int x.val:=f;have d:v = .int y.val:=d;refine ⟨_,.inl ⟨_,_,f,d,rfl⟩,?_⟩;rw[decide_eq_true_iff]
  constructor
  ·intro e;exact Fin.ext ⋯
  ·intro e;have e:x=y:=e;subst e;rfl
def ZqP(κ:KX)(f:ZZlk κ)(A:Int):Prop:=match κ with
 | .q=>0<A/\(∀x∈f,((Rat.den x:Nat):Int) ∣ A)/\∀B:Int,(∀x∈f,((Rat.den x:Nat):Int) ∣ B)->A ∣ B
 | .r _ _=>A=1
def DvB(κ:KX)(B:Int)(x:κ.F):Prop:=match κ with
 | .q=>((Rat.den x:Nat):Int) ∣ B
 | .r _ _=>True
inductive ZbM (K:ZZfg) (vs:List V) (H:Hp) (Q:VK) (zE:XK):Prop
 |mk (s r:Addr) (xs:List V) (f:List Rat) (B:Int) (_:vs=[.ref s,.ref r]) (_:H r=some (.lst xs)) (_:AllG (NR .q H) xs f) (_:0<B) (_:Bits 4000 B) (_:(∀x∈f,((Rat.den x:Nat):Int) ∣ B)) (_:∀A:Int,ZqP .q f A->Q (.int A) H):ZbM K vs H Q zE
inductive Zev (vs:List V) (H:Hp) (Q:VK) (zE:XK):Prop
 |mk (s r:Addr) (_:vs=[.ref s,.ref r]) (_:Q (.int 1) H):Zev vs H Q zE
theorem Zm2{b d:Int}(A:0<b)(x:0<d):0<b.fdiv (Int.gcd b d)*d/\b ∣ b.fdiv (Int.gcd b d)*d/\d ∣ b.fdiv (Int.gcd b d)*d/\∀B:Int,b ∣ B->d ∣ B->b.fdiv (Int.gcd b d)*d ∣ B:=by
 have j:(Int.gcd b d:Int)≠0:=by have:=M3.gcd_ne (a:=b) (b:=d) ⋯;omega
 have y:0<(Int.gcd b d:Int):=⋯;obtain ⟨q,f⟩:=Wk b d;obtain ⟨e,h⟩:=W1 b d;have o:b.fdiv (Int.gcd b d)=q:=by
  rw[Uz _ ⋯]
  conv=>lhs;lhs;rw[f]
  exact Int.mul_ediv_cancel_left q j
 have i:0<q:=by
  rcases Int.lt_or_le 0 q with c|c
  ·exact c
  ·have:(Int.gcd b d:Int)*q<=0:=Int.mul_nonpos_of_nonneg_of_nonpos ⋯ c;omega
 rw[o];have p:q*d=b*e:=by
  calc q*d=q*((Int.gcd b d:Int)*e):=by rw[<-h]
   _=(Int.gcd b d:Int)*q*e:=by rw[<-Qt,W0 q]
   _=b*e:=by rw[<-f]
 have g:Int.gcd q e=1:=by
  have l:=Int.gcd_mul_left (Int.gcd b d:Int) q e;rw[<-f,<-h,Qk] at l;have u:0<Int.gcd b d:=⋯;have w:Int.gcd b d*1=Int.gcd b d*Int.gcd q e:=by rw[Nat.mul_one];exact l
  exact (Nat.eq_of_mul_eq_mul_left u w).symm
 refine ⟨W2 i x,⟨e,p⟩,⟨q,W0 _ _⟩,?_⟩;rintro B ⟨s,v⟩ ⟨t,k⟩;have n:q*s=e*t:=by
  have:(Int.gcd b d:Int)*(q*s)=(Int.gcd b d:Int)*(e*t):=by
   rw[<-Qt,<-Qt,<-f,<-h,<-v,<-k]
  exact Int.eq_of_mul_eq_mul_left j this
 have m:q ∣ t:=Zim (b:=e) ⟨s,n.symm⟩ g;obtain ⟨z,r⟩:=m;exact ⟨z,by rw[k,r,<-Qt,W0 d q]⟩
end My
namespace My.Rg
open PySem L2 PyProof.Rows
section
variable{α:Type}[Lean.Grind.CommRing α]
theorem Zs0:(0:α)+0=0:=by grind
def Sg(h:Nat->α):Nat->α
 |0=>0
 |n+1=>Sg h n+h n
theorem Sg_congr{h g:Nat->α}:∀ {n:Nat},(∀i,i<n->h i=g i)->Sg h n=Sg g n
 |0,_=>rfl
 |n+1,e=>by
  show Sg h n+h n=Sg g n+g n;rw[Sg_congr (n:=n) λi a=>e i ⋯,e n ⋯]
theorem Zb0(c:α)(h:Nat->α):∀n,c*Sg h n=Sg (λi=>c*h i) n
 |0=>by show c*0=0;grind
 |n+1=>by
  show c*(Sg h n+h n)=Sg (λi=>c*h i) n+c*h n;rw[<-Zb0 c h n];grind
theorem ZeK(h g:Nat->α):∀n,Sg h n+Sg g n=Sg (λi=>h i+g i) n
 |0=>Zs0
 |n+1=>by
  show (Sg h n+h n)+(Sg g n+g n)=Sg (λi=>h i+g i) n+(h n+g n);rw[<-ZeK h g n];grind
theorem Sg_zero:∀n,Sg (λ_=>(0:α)) n=0
 |0=>rfl
 |n+1=>by show Sg _ n+0=0;rw[Sg_zero n];exact Zs0
theorem Zio(h:Nat->Nat->α)(m:Nat):∀n,Sg (λi=>Sg (λj=>h i j) m) n=Sg (λj=>Sg (λi=>h i j) n) m
 |0=>(Sg_zero m).symm
 |n+1=>by
  show Sg _ n+Sg (λj=>h n j) m=Sg (λj=>Sg (λi=>h i j) n+h n j) m;rw[Zio h m n,ZeK]
theorem ZdB(h:Nat->α):∀n,Sg h (n+1)=h 0+Sg (λi=>h<|i+1) n
 |0=>by show 0+h 0=h 0+0;grind
 |n+1=>by
  show Sg h (n+1)+h (n+1)=h 0+(Sg (λi=>h<|i+1) n+h (n+1));rw[ZdB h n];grind
theorem ZnY(h:Nat->α)(i:Nat):∀n,Sg (λl=>h l*(if i=l then 1 else 0)) n=if i<n then h i else 0
 |0=>by rw[if_neg ⋯];rfl
 |n+1=>by
  show Sg _ n+h n*(if i=n then 1 else 0)=_;rw[ZnY h i n]
  by_cases e:i=n
  ·subst e;rw[if_neg ⋯,if_pos rfl,if_pos ⋯];grind
  ·rw[if_neg e]
   by_cases l:i<n
   ·rw[if_pos l,if_pos ⋯];grind
   ·rw[if_neg l,if_neg ⋯];grind
def sgn(α:Type)[Lean.Grind.CommRing α]:Nat->α
 |0=>1
 |n+1=>0-sgn α n
def skip(j t:Nat):Nat:=if t<j then t else t+1
theorem ZlE{j k:Nat}(h:k<j)(t:Nat):skip j (skip k t)=skip k (skip (j-1) t):=by
 have b:∀ {j t:Nat},t<j->skip j t=t:=λh=>by unfold skip;rw[if_pos h]
 have a:∀ {j t:Nat},j<=t->skip j t=t+1:=λh=>by unfold skip;rw[if_neg ⋯]
 by_cases h1:t<k
 ·rw[b h1,b (show t<j by omega),b (show t<j-1 by omega),b h1]
 ·by_cases h2:t<j-1
  ·rw[a (show k<=t by omega),b (show t+1<j by omega),b h2,a (show k<=t by omega)]
  ·rw[a (show k<=t by omega),a (show j<=t+1 by omega),a (show j-1<=t by omega),a (show k<=t+1 by omega)]
def det:Nat->(Nat->Nat->α)->α
 |0,_=>1
 |n+1,a=>Sg (λj=>sgn α j*a 0 j*det n (λi k=>a (i+1)<|skip j k))<|n+1
theorem det_congr:∀ {n:Nat} {a b:Nat->Nat->α},(∀i j,i<n->j<n->a i j=b i j)->det n a=det n b
 |0,_,_,_=>rfl
 |n+1,a,b,h=>by
  show Sg _ (n+1)=Sg _ (n+1);refine Sg_congr λj c=>?_;rw[h 0 j ⋯ c,det_congr (n:=n) (a:=λi k=>a (i+1)<|skip j k) (b:=λi k=>b (i+1)<|skip j k) λi k d e=>h _ _ ⋯ (by unfold skip;split <;> omega)]
def Zbi(a:Nat->Nat->α)(r:Nat)(f:Nat->α):Nat->Nat->α:=λi j=>if i=r then f j else a i j
theorem Zip:∀ {n:Nat} {a:Nat->Nat->α} {r:Nat} (f g:Nat->α) (c:α),r<n->det n (Zbi a r λj=>f j+c*g j)=det n (Zbi a r f)+c*det n (Zbi a r g)
 |0,_,_,_,_,_,h=>⋯
 |n+1,a,0,f,g,c,_=>by
  show Sg _ (n+1)=Sg _ (n+1)+c*Sg _ (n+1);rw[Zb0,ZeK];refine Sg_congr λj b=>?_;have e:∀h:Nat->α,det n (λi k=>Zbi a 0 h (i+1)<|skip j k)=det n (λi k=>a (i+1)<|skip j k):=λh=>det_congr λi k _ _=>by unfold Zbi;rw[if_neg ⋯]
  rw[e,e,e];show sgn α j*(f j+c*g j)*_=sgn α j*f j*_+c*(sgn α j*g j*_);grind
 |n+1,a,r+1,f,g,c,hr=>by
  show Sg _ (n+1)=Sg _ (n+1)+c*Sg _ (n+1);rw[Zb0,ZeK];refine Sg_congr λj b=>?_;have e:∀h:Nat->α,det n (λi k=>Zbi a (r+1) h (i+1)<|skip j k)=det n (Zbi (λi k=>a (i+1)<|skip j k) r λk=>h<|skip j k):=λh=>det_congr λi k _ _=>by
   unfold Zbi
   by_cases q:i=r
   ·rw[if_pos ⋯,if_pos q]
   ·rw[if_neg ⋯,if_neg q]
  rw[e,e,e,Zip (n:=n) (a:=λi k=>a (i+1)<|skip j k) (r:=r) (λk=>f<|skip j k) (λk=>g<|skip j k) c ⋯];have z:∀h:Nat->α,Zbi a (r+1) h 0 j=a 0 j:=λh=>by unfold Zbi;rw[if_neg ⋯]
  rw[z,z,z];grind
theorem ZlF{f:Nat->Nat->α}:∀n,(∀j k,k<j->j<=n->f j k=0-f k (j-1))->Sg (λj=>Sg (λk=>f j k) n) (n+1)=0
 |0,_=>by
  show (0:α)+0=0;grind
 |n+1,h=>by
  have d:=ZlF n λj k a e=>h j k a ⋯;show Sg (λj=>Sg (λk=>f j k)<|n+1) (n+1)+Sg (λk=>f (n+1) k) (n+1)=0;have b:Sg (λj=>Sg (λk=>f j k)<|n+1) (n+1)=Sg (λj=>Sg (λk=>f j k) n) (n+1)+Sg (λj=>f j n) (n+1):=by
   rw[ZeK];rfl
  have c:Sg (λk=>f (n+1) k) (n+1)=Sg (λj=>(0-1)*f j n) (n+1):=Sg_congr λk a=>by
   rw[h (n+1) k a<|Q2 _];show 0-f k n=(0-1)*f k n;grind
  rw[b,c,d,<-Zb0];grind
theorem Ziq:∀ {n:Nat} {a:Nat->Nat->α} {r:Nat},r+1<n->(∀j,a r j=a (r+1) j)->det n a=0
 |0,_,_,h,_=>⋯
 |1,_,_,h,_=>⋯
 |n+2,a,0,_,e=>by
  show Sg (λj=>sgn α j*a 0 j*Sg (λk=>sgn α k*a 1 (skip j k)*det n (λi t=>a (i+2)<|skip j<|skip k t)) (n+1)) (n+2)=0;have d:∀j,j<n+2->sgn α j*a 0 j*Sg (λk=>sgn α k*a 1 (skip j k)*det n (λi t=>a (i+2)<|skip j<|skip k t)) (n+1)=Sg (λk=>sgn α j*a 0 j*(sgn α k*a 0 (skip j k)*det n (λi t=>a (i+2)<|skip j<|skip k t))) (n+1):=λj _=>by
   rw[Zb0];exact Sg_congr λk _=>by rw[e<|skip j k]
  rw[Sg_congr d];refine ZlF (n+1) λj k b o=>?_;have c:skip j k=k:=by unfold skip;rw[if_pos b]
  have f:skip k (j-1)=j:=by unfold skip;rw[if_neg ⋯];omega
  have g:det n (λi t=>a (i+2)<|skip j<|skip k t)=det n (λi t=>a (i+2)<|skip k<|skip (j-1) t):=det_congr λi t _ _=>by rw[ZlE b]
  have l:sgn α j=0-sgn α (j-1):=by
   obtain ⟨m,rfl⟩:∃m,j=m+1:=⟨j-1,⋯⟩
   rfl
  rw[c,f,g,l];grind
 |n+2,a,r+1,h,e=>by
  show Sg _ (n+2)=0;have z:∀j,j<n+2->sgn α j*a 0 j*det (n+1) (λi k=>a (i+1)<|skip j k)=0:=λj _=>by
   rw[Ziq (n:=n+1) (a:=λi k=>a (i+1)<|skip j k) (r:=r) ⋯ λk=>e<|skip j k];grind
  rw[Sg_congr z,Sg_zero]
theorem Zea(a:Nat->Nat->α)(r:Nat):Zbi a r (a r)=a:=by
 funext i j
 unfold Zbi
 split
 ·rename_i e;rw[e]
 ·rfl
theorem ZgG{n:Nat}{a:Nat->Nat->α}{r:Nat}(f g:Nat->α)(h:r<n):det n (Zbi a r λj=>f j+g j)=det n (Zbi a r f)+det n (Zbi a r g):=by
 have:=Zip (a:=a) f g (1:α) h;have e:(λj=>f j+(1:α)*g j)=λj=>f j+g j:=by funext j;grind
 rw[e] at this;rw[this];grind
theorem ZlG{n:Nat}{a:Nat->Nat->α}{r:Nat}(h:r+1<n):det n (Zbi (Zbi a r<|a<|r+1) (r+1)<|a r)=0-det n a:=by
 have z:∀x:Nat->α,det n (Zbi (Zbi a r x) (r+1) x)=0:=λx=>Ziq h λj=>by
  unfold Zbi;rw[if_neg ⋯,if_pos rfl,if_pos rfl]
 have c:∀x y:Nat->α,Zbi (Zbi a r x) (r+1) y=Zbi (Zbi a (r+1) y) r x:=λx y=>by
  funext i j
  unfold Zbi
  by_cases b:i=r+1
  ·rw[if_pos b,if_neg ⋯,if_pos b]
  ·by_cases e2:i=r
   ·rw[if_neg b,if_pos e2,if_pos e2]
   ·rw[if_neg b,if_neg e2,if_neg e2,if_neg b]
 have d:=z λj=>a r j+a (r+1) j;rw[ZgG _ _ ⋯,c,c,ZgG _ _ ⋯,ZgG _ _ ⋯,<-c,<-c,<-c,<-c] at d;have e:=z λj=>a r j;have f:=z λj=>a (r+1) j;have s:Zbi (Zbi a r λj=>a r j) (r+1) (λj=>a (r+1) j)=a:=by
  have b:Zbi a r (λj=>a r j)=a:=Zea a r;rw[b];exact Zea a<|r+1
 rw[e,f,s] at d;have t:det n (Zbi (Zbi a r λj=>a (r+1) j) (r+1) λj=>a r j)=det n (Zbi (Zbi a r<|a<|r+1) (r+1)<|a r):=rfl;rw[t] at d;generalize det n (Zbi (Zbi a r<|a<|r+1) (r+1)<|a r)=u at *;generalize det n a=v at *;grind
theorem Zir{n:Nat}:∀ {d:Nat} {a:Nat->Nat->α} {r:Nat},r+d+1<n->(∀j,a r j=a (r+d+1) j)->det n a=0
 |0,a,r,h,e=>Ziq h e
 |d+1,a,r,h,e=>by
  have s:=ZlG (a:=a) (r:=r+d+1) (n:=n) ⋯;have z:det n (Zbi (Zbi a (r+d+1)<|a<|r+d+1+1) (r+d+1+1)<|a<|r+d+1)=0:=by
   refine Zir (d:=d) (r:=r) ⋯ λj=>?_;unfold Zbi;rw[if_neg ⋯,if_neg ⋯,if_neg ⋯,if_pos rfl];exact e j
  rw[z] at s;generalize det n a=v at *;grind
theorem Zjh{n:Nat}{a:Nat->Nat->α}{r s:Nat}(f:r<n)(c:s<n)(b:r≠s)(e:∀j,a r j=a s j):det n a=0:=by
 rcases Nat.lt_or_gt_of_ne b with h|h
 ·refine Zir (d:=s-r-1) (r:=r) ⋯ λj=>?_;rw[e j];congr 1;omega
 ·refine Zir (d:=r-s-1) (r:=s) ⋯ λj=>?_;rw[<-e j];congr 1;omega
theorem Zm3{n:Nat}{a:Nat->Nat->α}{r s:Nat}(c:α)(d:r<n)(e:s<n)(b:r≠s):det n (Zbi a r λj=>a r j+c*a s j)=det n a:=by
 rw[Zip _ _ _ d,show Zbi a r (λj=>a r j)=a from Zea a r,Zjh (a:=Zbi a r λj=>a s j) d e b λj=>by unfold Zbi;rw[if_pos rfl,if_neg<|Ne.symm b]];grind
theorem ZnZ(F:Nat->Nat->α):∀n,Sg (λk=>Sg (λi=>F k i)<|k+1) n=Sg (λi=>Sg (λj=>F (i+j) i)<|n-i) n
 |0=>rfl
 |n+1=>by
  show Sg _ n+Sg (λi=>F n i) (n+1)=Sg _ n+Sg (λj=>F (n+j) n) (n+1-n);rw[ZnZ F n,show n+1-n=1 by omega];have e:Sg (λi=>Sg (λj=>F (i+j) i)<|n+1-i) n=Sg (λi=>Sg (λj=>F (i+j) i)<|n-i) n+Sg (λi=>F n i) n:=by
   rw[ZeK];refine Sg_congr λi a=>?_;rw[show n+1-i=(n-i)+1 by omega];show _+F (i+(n-i)) i=_;rw[show i+(n-i)=n by omega]
  rw[e];show _+(Sg (λi=>F n i) n+F n n)=_+(0+F (n+0) n);generalize Sg (λi=>Sg (λj=>F (i+j) i)<|n-i) n=S;generalize Sg (λi=>F n i) n=U;show _=_+(0+F n n);grind
theorem Zn0(h:Nat->α):∀n,Sg h n=Sg (λi=>h<|n-1-i) n
 |0=>rfl
 |n+1=>by
  rw[ZdB (λi=>h<|n+1-1-i) n];show Sg h n+h n=h n+_;rw[Zn0 h n];have e:Sg (λi=>h<|n-1-i) n=Sg (λi=>h<|n+1-1-(i+1)) n:=Sg_congr λi _=>by rw[show n+1-1-(i+1)=n-1-i by omega]
  rw[e];grind
end
structure Ps (α:Type) where
 c:Nat->α
namespace Ps
section
variable{α:Type}[Lean.Grind.CommRing α]
def nc(n:Nat):α:=@NatCast.natCast α Lean.Grind.Semiring.natCast n
def ic(i:Int):α:=@IntCast.intCast α Lean.Grind.Ring.intCast i
theorem ext{f g:Ps α}(h:∀n,f.c n=g.c n):f=g:=by
 cases f;cases g
 congr 1
 funext n
 exact h n
def add(f g:Ps α):Ps α:=⟨λn=>f.c n+g.c n⟩
def mul(f g:Ps α):Ps α:=⟨λn=>Sg (λi=>f.c i*g.c (n-i))<|n+1⟩
def neg(f:Ps α):Ps α:=⟨λn => - f.c n⟩
def con(x:α):Ps α:=⟨λn=>if n=0 then x else 0⟩
def pow(f:Ps α):Nat->Ps α
 |0=>con 1
 |n+1=>mul (pow f n) f
theorem con_mul(x:α)(f:Ps α)(n:Nat):(mul (con x) f).c n=x*f.c n:=by
 show Sg (λi=>(if i=0 then x else 0)*f.c (n-i)) (n+1)=_;rw[ZdB];have e:Sg (λi=>(if i+1=0 then x else 0)*f.c (n-(i+1))) n=Sg (λ_=>(0:α)) n:=Sg_congr λi _=>by rw[if_neg ⋯];grind
 rw[e,Sg_zero,if_pos rfl];show x*f.c n+0=_;grind
theorem Zf2(f g:Ps α):mul f g=mul g f:=ext λn=>by
 show Sg _ (n+1)=Sg _ (n+1);rw[Zn0];refine Sg_congr λi a=>?_;rw[show n+1-1-i=n-i by omega,show n-(n-i)=i by omega];grind
theorem ZqQ(f g h:Ps α):mul (mul f g) h=mul f (mul g h):=ext λn=>by
 show Sg (λk=>Sg (λi=>f.c i*g.c (k-i)) (k+1)*h.c (n-k)) (n+1)=Sg (λi=>f.c i*Sg (λj=>g.c j*h.c (n-i-j)) (n-i+1)) (n+1);have e:Sg (λk=>Sg (λi=>f.c i*g.c (k-i)) (k+1)*h.c (n-k)) (n+1)=Sg (λk=>Sg (λi=>f.c i*(g.c (k-i)*h.c (n-k)))<|k+1) (n+1):=Sg_congr λk _=>by
  have a:Sg (λi=>f.c i*g.c (k-i)) (k+1)*h.c (n-k)=h.c (n-k)*Sg (λi=>f.c i*g.c (k-i)) (k+1):=by grind
  rw[a,Zb0];refine Sg_congr λi _=>?_;grind
 rw[e,ZnZ (λk i=>f.c i*(g.c (k-i)*h.c (n-k)))<|n+1];refine Sg_congr λi b=>?_;rw[Zb0,show n+1-i=n-i+1 by omega];refine Sg_congr λj _=>?_;rw[show i+j-i=j by omega,show n-(i+j)=n-i-j by omega]
theorem Zji(f g h:Ps α):mul f (add g h)=add (mul f g) (mul f h):=ext λn=>by
 show Sg _ (n+1)=Sg _ (n+1)+Sg _ (n+1);rw[ZeK];refine Sg_congr λi _=>?_;show f.c i*(g.c (n-i)+h.c (n-i))=_;grind
theorem ZgH(f:Ps α):mul (con 1) f=f:=ext λn=>by rw[con_mul];grind
theorem Zjj(f:Ps α):mul (con 0) f=con 0:=ext λn=>by
 rw[con_mul];show 0*f.c n=if n=0 then 0 else 0
 split <;> grind
theorem Zis{x y:α}(h:x=y):con x=con y:=by rw[h]
instance instRing:Lean.Grind.CommRing (Ps α) where
 add:=add
 mul:=mul
 neg:=neg
 sub f g:=add f (neg g)
 natCast:=⟨λn=>con (nc n)⟩
 ofNat n:=⟨con (OfNat.ofNat n)⟩
 nsmul:=⟨λn f=>mul (con (nc n)) f⟩
 npow:=⟨pow⟩
 intCast:=⟨λi=>con (ic i)⟩
 zsmul:=⟨λi f=>mul (con (ic i)) f⟩
 add_zero f:=ext λn=>by
  show f.c n+(if n=0 then 0 else 0)=f.c n
  split <;> grind
 add_comm f g:=ext λn=>by show f.c n+g.c n=g.c n+f.c n;grind
 add_assoc f g h:=ext λn=>by show f.c n+g.c n+h.c n=f.c n+(g.c n+h.c n);grind
 mul_assoc:=ZqQ
 mul_one f:=(Zf2 f (con 1)).trans (ZgH f)
 one_mul f:=ZgH f
 left_distrib:=Zji
 right_distrib f g h:=by
  show mul (add f g) h=add (mul f h) (mul g h);rw[Zf2,Zji,Zf2 h f,Zf2 h g]
 zero_mul f:=Zjj f
 mul_zero f:=(Zf2 f (con 0)).trans (Zjj f)
 pow_zero f:=rfl
 pow_succ f n:=rfl
 ofNat_succ n:=ext λk=>by
  show (if k=0 then OfNat.ofNat (n+1) else 0)=(if k=0 then OfNat.ofNat n else 0)+(if k=0 then (1:α) else 0)
  split
  ·exact Lean.Grind.Semiring.ofNat_succ n
  ·grind
 ofNat_eq_natCast n:=Zis (Lean.Grind.Semiring.ofNat_eq_natCast n)
 nsmul_eq_natCast_mul n f:=rfl
 neg_add_cancel f:=ext λn=>by
  show-f.c n+f.c n=if n=0 then 0 else 0
  split <;> grind
 sub_eq_add_neg f g:=rfl
 neg_zsmul i f:=ext λn=>by
  show (mul (con (ic (-i))) f).c n = - (mul (con (ic i)) f).c n;rw[con_mul,con_mul,show (ic (-i):α) = - ic i from Lean.Grind.Ring.intCast_neg i];grind
 zsmul_natCast_eq_nsmul n f:=by
  show mul (con (ic (n:Int))) f=mul (con (nc n)) f;rw[Zis (show (ic (n:Int):α)=nc n from Lean.Grind.Ring.intCast_natCast n)]
 intCast_ofNat n:=Zis (Lean.Grind.Ring.intCast_ofNat n)
 intCast_neg i:=ext λn=>by
  show (if n=0 then (ic (-i):α) else 0) = - (if n=0 then ic i else 0)
  split
  ·exact Lean.Grind.Ring.intCast_neg i
  ·grind
 mul_comm:=Zf2
theorem c_add(f g:Ps α)(n:Nat):(f+g).c n=f.c n+g.c n:=rfl
theorem c_mul(f g:Ps α)(n:Nat):(f*g).c n=Sg (λi=>f.c i*g.c (n-i)) (n+1):=rfl
theorem c_sub(f g:Ps α)(n:Nat):(f-g).c n=f.c n-g.c n:=by
 show f.c n + - g.c n=_;grind
theorem c_zero(n:Nat):(0:Ps α).c n=0:=by show (if n=0 then (0:α) else 0)=0;split <;> rfl
theorem c_one(n:Nat):(1:Ps α).c n=if n=0 then 1 else 0:=rfl
theorem c_Sg(h:Nat->Ps α)(n:Nat):∀m,(Sg h m).c n=Sg (λi=>(h i).c n) m
 |0=>c_zero n
 |m+1=>by
  show (Sg h m+h m).c n=_;rw[c_add,c_Sg h n m]
  rfl
end
end Ps
end My.Rg
namespace Zp
open My
open PySem L2 PyProof.Rows
inductive PV where
 |non
 |bl (b:Bool)
 |int (i:Int)
 |str (s:Str)
 |lst (l:List PV)
 |tup (l:List PV)
 |kd (κ:KX)
 |kp (κ:KX)
 |fr (l:List PV)
 |la (κ:KX) (k m:Nat) (A:Nat->Nat->Rg.Ps κ.F)
structure Zc where
 f:Addr
 r:Addr
 p:Addr
 s:Addr->Prop
 t:Addr->Array Value->Prop
 la:(κ:KX)->Nat->Nat->(Nat->Nat->Rg.Ps κ.F)->Hp->Addr->Prop
 las:∀κ k m A H H' a,Same H H'->la κ k m A H a->la κ k m A H' a
def Gd(Z:Zc)(H:Hp):Prop:=(∀a,Z.s a->H a≠none)/\∀a b,Z.t a b->H a=some (.tbl b)
def KdZ(Z:Zc)(κ:KX)(H:Hp)(a:Addr):Prop:=KdX Z.f Z.r κ H a/\Gd Z H
theorem Gd.same{Z:Zc}{H a:Hp}(h:Gd Z H)(S:Same H a):Gd Z a:=⟨λb m n=>(by
 cases e:H b with
 |none=>exact h.1 b m e
 |some o=>rw[S _ _ e] at n;cases n),λb c m=>S _ _<|h.2 b c m⟩
theorem KdZ.same{Z:Zc}{κ:KX}{H b:Hp}{a:Addr}(h:KdZ Z κ H a)(S:Same H b):KdZ Z κ b a:=⟨h.1.same S,h.2.same S⟩
mutual
def Rep(Z:Zc)(H:Hp):PV->V->Prop
 | .non,v=>v = .non
 | .bl b,v=>v = .bl b
 | .int i,v=>v = .int i
 | .str s,v=>v = .str s
 | .lst l,v=>∃a c,v = .ref a/\H a=some (.lst c)/\Reps Z H l c
 | .tup l,v=>∃a c,v = .ref a/\H a=some (.tup c)/\Reps Z H l c
 | .kd κ,v=>∃a,v = .ref a/\KdZ Z κ H a
 | .kp κ,v=>∃a d k,v = .ref a/\H a=some (.ins Z.p d [("under", .ref k)])/\KdZ Z κ H k
 | .fr l,v=>∃a c,v = .ref a/\¬Z.s a/\H a=some (.lst c)/\Reps Z H l c
 | .la κ k m A,v=>∃a,v = .ref a/\Z.la κ k m A H a
def Reps(Z:Zc)(H:Hp):List PV->List V->Prop
 | [],us=>us=[]
 |p::l,us=>∃u r,us=u::r/\Rep Z H p u/\Reps Z H l r
end
variable{Z:Zc}
mutual
theorem Rep.same{H c:Hp}(S:Same H c):∀(p:PV) (v:V),Rep Z H p v->Rep Z c p v
 | .non,_,h=>by unfold Rep at *;exact h
 | .bl _,_,h=>by unfold Rep at *;exact h
 | .int _,_,h=>by unfold Rep at *;exact h
 | .str _,_,h=>by unfold Rep at *;exact h
 | .lst l,_,h=>by
  unfold Rep at *;obtain ⟨a,b,e,q,r⟩:=h;exact ⟨a,b,e,S _ _ q,Reps.same S l b r⟩
 | .tup l,_,h=>by
  unfold Rep at *;obtain ⟨a,b,e,q,r⟩:=h;exact ⟨a,b,e,S _ _ q,Reps.same S l b r⟩
 | .kd κ,_,h=>by
  unfold Rep at *;obtain ⟨a,e,q⟩:=h;exact ⟨a,e,q.same S⟩
 | .kp κ,_,h=>by
  unfold Rep at *;obtain ⟨a,d,k,e,q,r⟩:=h;exact ⟨a,d,k,e,S _ _ q,r.same S⟩
 | .fr l,_,h=>by
  unfold Rep at *;obtain ⟨a,b,e,n,q,r⟩:=h;exact ⟨a,b,e,n,S _ _ q,Reps.same S l b r⟩
 | .la κ k m A,_,h=>by
  unfold Rep at *;obtain ⟨a,e,q⟩:=h;exact ⟨a,e,Z.las κ k m A H c a S q⟩
theorem Reps.same{H a:Hp}(S:Same H a):∀(l:List PV) (us:List V),Reps Z H l us->Reps Z a l us
 | [],_,h=>by unfold Reps at *;exact h
 |p::l,_,h=>by
  unfold Reps at *;obtain ⟨u,r,e,q,t⟩:=h;exact ⟨u,r,e,Rep.same S p u q,Reps.same S l r t⟩
end
theorem Reps.len{H:Hp}:∀ {l:List PV} {us:List V},Reps Z H l us->us.length=l.length
 | [],_,h=>by unfold Reps at h;rw[h];rfl
 |p::l,_,h=>by
  unfold Reps at h;obtain ⟨u,r,e,_,t⟩:=h;rw[e];exact congrArg (· + 1)<|Reps.len t
theorem Reps.get{H:Hp}:∀ {l:List PV} {us:List V} {i:Nat} {p:PV},Reps Z H l us->l[i]?=some p->∃u,us[i]?=some u/\Rep Z H p u
 | [],_,i,p,_,e=>by cases i <;> cases e
 |p::l,_,0,q,h,e=>by
  unfold Reps at h;obtain ⟨u,r,a,b,t⟩:=h
  cases e
  exact ⟨u,by rw[a];rfl,b⟩
 |p::l,_,i+1,q,h,e=>by
  unfold Reps at h;obtain ⟨u,r,a,b,t⟩:=h;obtain ⟨x,c,y⟩:=Reps.get (i:=i) t e;exact ⟨x,by rw[a];exact c,y⟩
theorem Reps.nil{H:Hp}:Reps Z H [] []:=by unfold Reps;rfl
theorem Reps.cons{H:Hp}{p:PV}{l:List PV}{u:V}{us:List V}(h:Rep Z H p u)(t:Reps Z H l us):Reps Z H (p::l) (u::us):=by unfold Reps;exact ⟨u,us,rfl,h,t⟩
theorem Reps.append{H:Hp}:∀ {l m:List PV} {us vs:List V},Reps Z H l us->Reps Z H m vs->Reps Z H (l++m) (us++vs)
 | [],_,_,_,h,k=>by unfold Reps at h;rw[h];exact k
 |p::l,_,_,_,h,k=>by
  unfold Reps at h;obtain ⟨u,r,e,q,t⟩:=h;rw[e];exact .cons q<|t.append k
theorem Reps.of{H:Hp}:∀ {l:List PV} {us:List V},us.length=l.length->(∀(i:Nat) p u,l[i]?=some p->us[i]?=some u->Rep Z H p u)->Reps Z H l us
 | [],[],_,_ => .nil
 |p::l,u::us,e,h => .cons (h 0 p u rfl rfl)<|Reps.of (Nat.succ.inj e) λi q v a b=>h (i+1) q v a b
theorem Reps.set{H:Hp}{l:List PV}{us:List V}(h:Reps Z H l us)(i:Nat){p:PV}{u:V}(r:Rep Z H p u):Reps Z H (l.set i p) (us.set i u):=by
 refine .of (by rw[We,We];exact h.len) λj q v a b=>?_;rw[Ur] at a b;have d:=h.len
 by_cases e:i=j
 ·rw[if_pos e] at a b
  split at a
  ·split at b
   ·cases a;cases b;exact r
   ·cases b
  ·cases a
 ·rw[if_neg e] at a b;obtain ⟨w,c,y⟩:=h.get a;rw[c] at b;cases b;exact y
theorem Reps.sub{H:Hp}{l m:List PV}{us vs:List V}(h:Reps Z H l us)(e:vs.length=m.length)(f:Nat->Nat)(d:∀i,i<m.length->m[i]?=l[f i]?/\vs[i]?=us[f i]?):Reps Z H m vs:=by
 refine .of e λi p u a b=>?_;have g:i<m.length:=(Qn.mp a).1;obtain ⟨c,k⟩:=d i g;obtain ⟨w,j,y⟩:=h.get<|c.symm.trans a;rw[k,j] at b;cases b;exact y
theorem Reps.take{H:Hp}{l:List PV}{us:List V}(h:Reps Z H l us)(n:Nat):Reps Z H (l.take n) (us.take n):=by
 have:=h.len;refine h.sub (by simp only[Qi];omega) id λi a=>?_;rw[Qi] at a;rw[Wh,Wh,if_pos ⋯,if_pos ⋯];exact ⟨rfl,rfl⟩
theorem Reps.drop{H:Hp}{l:List PV}{us:List V}(h:Reps Z H l us)(n:Nat):Reps Z H (l.drop n) (us.drop n):=by
 have:=h.len;refine h.sub (by simp only[Qv];omega) (n + ·) λi a=>?_;rw[Ww,Ww];exact ⟨rfl,rfl⟩
def hide(O:ZZla)(H:Hp):Hp:=λa=>if a∈O then none else H a
theorem hide_in{O:ZZla}{H:Hp}{a:Addr}(h:a∈O):hide O H a=none:=if_pos h
theorem hide_out{O:ZZla}{H:Hp}{a:Addr}(h:a∉O):hide O H a=H a:=if_neg h
theorem hide_eq{O:ZZla}{H:Hp}{a:Addr}{o:HO}(h:hide O H a=some o):a∉O/\H a=some o:=by
 by_cases e:a∈O
 ·rw[hide_in e] at h;cases h
 ·rw[hide_out e] at h;exact ⟨e,h⟩
theorem Zaz{O:ZZla}{H b:Hp}(S:Same H b):Same (hide O H) (hide O b):=λa o h=>by
 obtain ⟨n,q⟩:=hide_eq h;rw[hide_out n];exact S _ _ q
theorem Zao{O:ZZla}{H:Hp}:Same (hide O H) H:=λa o h=>(hide_eq h).2
theorem Zeb{O b:ZZla}{H:Hp}(h:∀a∈b,a∈O):Same (hide O H) (hide b H):=λa o q=>by
 obtain ⟨n,q⟩:=hide_eq q;rw[hide_out λz=>n<|h a z];exact q
theorem Zjk{O:ZZla}{H:Hp}{a:Addr}{o:HO}(h:a∈O):hide O (upd H a o)=hide O H:=by
 funext b
 by_cases e:b∈O
 ·rw[hide_in e,hide_in e]
 ·rw[hide_out e,hide_out e,Zaj λz=>e (by rw[z];exact h)]
theorem Rep.h{O:ZZla}{H a:Hp}{p:PV}{v:V}(h:Rep Z (hide O H) p v)(S:Same H a):Rep Z (hide O a) p v:=h.same<|Zaz S
theorem Reps.h{O:ZZla}{H a:Hp}{p:List PV}{v:List V}(h:Reps Z (hide O H) p v)(S:Same H a):Reps Z (hide O a) p v:=h.same<|Zaz S
def Ls(O:ZZla)(H:Hp):Prop:=∀a∈O,∃b,H a=some (.lst b)
theorem Ls.same{O:ZZla}{H b:Hp}(h:Ls O H)(S:Same H b):Ls O b:=λa m=>let ⟨us,q⟩:=h a m;⟨us,S _ _ q⟩
theorem Ls.new{O:ZZla}{H:Hp}{a:Addr}(h:Ls O H)(n:H a=none):a∉O:=λm=>by obtain ⟨b,q⟩:=h a m;rw[n] at q;cases q
inductive Sl where
 |val (p:PV)
 |own (l:List PV)
abbrev PSt:=List<|Option Sl
@[reducible] def sget:PSt->Nat->Option Sl
 | [],_=>none
 |a::_,0=>a
 |_::l,n+1=>sget l n
@[reducible] def sset:PSt->Nat->Option Sl->PSt
 | [],_,_=>[]
 |_::l,0,s=>s::l
 |a::l,n+1,s=>a::sset l n s
@[reducible] def sfg:List Nat->PSt->PSt
 | [],ρ=>ρ
 |i::r,ρ=>sfg r (sset ρ i none)
theorem ZaM{ρ:PSt}{i j:Nat}{s:Option Sl}{t:Sl}(h:sget (sset ρ i s) j=some t):(j=i/\s=some t)\/(j≠i/\sget ρ j=some t):=by
 induction ρ generalizing i j with
 |nil=>cases h
 |cons a ρ c =>
  cases i with
  |zero=>cases j with
   |zero=>exact .inl ⟨rfl,h⟩
   |succ j=>exact .inr ⟨⋯,h⟩
  |succ i=>cases j with
   |zero=>exact .inr ⟨⋯,h⟩
   |succ j=>exact (c h).imp (λ⟨a,b⟩=>⟨⋯,b⟩) λ⟨a,b⟩=>⟨⋯,b⟩
theorem Zb5{ρ:PSt}{i:Nat}{s:Option Sl}:(sset ρ i s).length=ρ.length:=by
 induction ρ generalizing i with
 |nil=>rfl
 |cons a ρ b=>cases i with
  |zero=>rfl
  |succ i=>exact congrArg (· + 1) b
theorem ZgI{ρ:PSt}{i:Nat}{s:Sl}(h:sget ρ i=some s):i<ρ.length:=by
 induction ρ generalizing i with
 |nil=>cases h
 |cons a ρ b=>cases i with
  |zero=>exact Nat.succ_pos _
  |succ i=>exact Nat.succ_lt_succ<|b h
inductive Slr (Z:Zc) (O:ZZla) (H:Hp):Sl->V->Prop
 |val {p:PV} {v:V} (r:Rep Z (hide O H) p v):Slr Z O H (.val p) v
 |own {l:List PV} {a:Addr} {us:List V} (m:a∈O) (h:H a=some (.lst us)) (r:Reps Z (hide O H) l us):Slr Z O H (.own l) (.ref a)
structure SR (Z:Zc) (H0:Hp) (O0 O:ZZla) (H:Hp) (σ:L2.St) (ρ:PSt):Prop where
 ext:Same H0 H
 sub:∀a∈O0,a∈O
 new:∀a∈O,a∈O0\/H0 a=none
 ls:Ls O H
 len:σ.length=ρ.length
 rel:∀i s,sget ρ i=some s->∃v,σ[i]?=some (some v)/\Slr Z O H s v
 inj:∀i j l m,i≠j->sget ρ i=some (.own l)->sget ρ j=some (.own m)->σ[i]?≠σ[j]?
 out:∀i l a,sget ρ i=some (.own l)->σ[i]?=some (some (.ref a))->a∉O0
section
variable{H0 H H':Hp}{O0 O:ZZla}{σ:L2.St}{ρ:PSt}
theorem Slr.same{s:Sl}{v:V}(h:Slr Z O H s v)(S:Same H H'):Slr Z O H' s v:=by
 cases h with
 |val r=>exact .val<|r.h S
 |own m h r=>exact .own m (S _ _ h)<|r.h S
theorem SR.same(h:SR Z H0 O0 O H σ ρ)(S:Same H H'):SR Z H0 O0 O H' σ ρ :=
 ⟨λa o q=>S _ _<|h.ext a o q,h.sub,h.new,h.ls.same S,h.len,λi s e=>let ⟨v,a,b⟩:=h.rel i s e;⟨v,a,b.same S⟩,h.inj,h.out⟩
theorem Zfs{σ:L2.St}{i j:Nat}{v:Option V}(h:i<σ.length):(σ.set i v)[j]?=if j=i then some v else σ[j]?:=by
 rw[Ur]
 by_cases e:i=j
 ·rw[if_pos e,if_pos e.symm,if_pos h]
 ·rw[if_neg e,if_neg<|Ne.symm e]
theorem ZbO{σ:L2.St}{i j:Nat}{v:Option V}(h:j≠i):(σ.set i v)[j]?=σ[j]?:=by
 rw[Ur,if_neg<|Ne.symm h]
theorem SR.set(h:SR Z H0 O0 O H σ ρ){i:Nat}{p:PV}{v:V}(r:Rep Z (hide O H) p v):SR Z H0 O0 O H (σ.set i<|some v) (sset ρ i<|some<|.val p):=by
 refine ⟨h.ext,h.sub,h.new,h.ls,by rw[We,Zb5];exact h.len,λj s e=>?_,λj k l m n d g=>?_,λj l a e c=>?_⟩
 ·have f:j<ρ.length:=by have:=ZgI e;rw[Zb5] at this;exact this
  rcases ZaM e with ⟨rfl,z⟩|⟨n,z⟩
  ·cases z
   exact ⟨v,by rw[Zfs (by rw[h.len];exact f),if_pos rfl],.val r⟩
  ·obtain ⟨w,a,b⟩:=h.rel j s z;exact ⟨w,by rw[ZbO n];exact a,b⟩
 ·rcases ZaM d with ⟨_,z⟩|⟨n1,z1⟩
  ·cases z
  ·rcases ZaM g with ⟨_,z⟩|⟨n2,z2⟩
   ·cases z
   ·rw[ZbO n1,ZbO n2];exact h.inj j k l m n z1 z2
 ·rcases ZaM e with ⟨_,z⟩|⟨n1,z1⟩
  ·cases z
  ·rw[ZbO n1] at c;exact h.out j l a z1 c
theorem SR.fg1(h:SR Z H0 O0 O H σ ρ)(i:Nat):SR Z H0 O0 O H σ (sset ρ i none):=by
 refine ⟨h.ext,h.sub,h.new,h.ls,by rw[Zb5];exact h.len,λj s e=>?_,λj k l m n b c=>?_,λj l a e d=>?_⟩
 ·rcases ZaM e with ⟨_,z⟩|⟨n,z⟩
  ·cases z
  ·exact h.rel j s z
 ·rcases ZaM b with ⟨_,z⟩|⟨n1,z1⟩
  ·cases z
  ·rcases ZaM c with ⟨_,z⟩|⟨n2,z2⟩
   ·cases z
   ·exact h.inj j k l m n z1 z2
 ·rcases ZaM e with ⟨_,z⟩|⟨n1,z1⟩
  ·cases z
  ·exact h.out j l a z1 d
theorem SR.fg:∀(a:List Nat) {ρ:PSt},SR Z H0 O0 O H σ ρ->SR Z H0 O0 O H σ (sfg a ρ)
 | [],_,h=>h
 |i::a,_,h=>SR.fg a<|h.fg1 i
theorem SR.own(h:SR Z H0 O0 O H σ ρ)(S:Same H H'){i:Nat}{l:List PV}{a:Addr}{us:List V}(n:H a=none)(q:H' a=some (.lst us))(r:Reps Z (hide (a::O) H') l us) :
    SR Z H0 O0 (a::O) H' (σ.set i<|some<|.ref a) (sset ρ i<|some<|.own l)/\Same (hide O H) (hide (a::O) H'):=by
  have x:a∉O:=h.ls.new n;have A:H0 a=none:=by
    cases e:H0 a with
    | none=>rfl
    | some o=>rw[h.ext _ _ e] at n; cases n
  have Sh:Same (hide O H) (hide (a::O) H'):=λb o e=>by
    obtain ⟨m,e⟩:=hide_eq e;rw[hide_out]
    · exact S _ _ e
    · rintro (_ | z)
      · rw[n] at e; cases e
      · exact m (by assumption)
  have p:∀(j:Nat) (s:Sl) (v:V),σ[j]?=some (some v)->Slr Z O H s v->Slr Z (a::O) H' s v:=λj s v _ k=>by
    cases k with
    | val r=>exact .val<|r.same Sh
    | own m h r=>exact .own (Qy _ m) (S _ _ h)<|r.same Sh
  refine ⟨⟨λb o e=>S _ _<|h.ext b o e,λb m=>Qy _<|h.sub b m,?_,?_,by rw[We,Zb5]; exact h.len,λj s e=>?_,λj k u B g c t=>?_,λj u b e f=>?_⟩,Sh⟩
  · rintro b (_ | m)
    · exact .inr A
    · exact h.new b (by assumption)
  · rintro b (_ | m)
    · exact ⟨us,q⟩
    · exact (h.ls.same S) b (by assumption)
  · have d:j<ρ.length:=by have:=ZgI e; rw[Zb5] at this; exact this
    rcases ZaM e with ⟨rfl,z⟩ | ⟨g,z⟩
    · cases z
      exact ⟨_,by rw[Zfs (by rw[h.len]; exact d),if_pos rfl],.own Qm q r⟩
    · obtain ⟨w,c,b⟩:=h.rel j s z
      exact ⟨w,by rw[ZbO g]; exact c,p j s w c b⟩
  · have y:∀j l,sget ρ j=some (.own l)->σ[j]?≠some (some<|.ref a):=λj l e z=>by
      obtain ⟨v,c,b⟩:=h.rel j _ e;rw[z] at c; cases c
      cases b with | own m _ _=>exact x m
    have d:∀ {j s},sget (sset ρ i<|some<|.own l) j=some s->j<σ.length:=λe=>by have:=ZgI e; rw[Zb5] at this; rw[h.len]; exact this
    rcases ZaM c with ⟨rfl,z⟩ | ⟨n1,z1⟩
    · rcases ZaM t with ⟨rfl,_⟩ | ⟨n2,z2⟩
      · exact absurd rfl g
      · rw[Zfs<|d c,if_pos rfl,ZbO n2]; exact λz=>y k _ z2 z.symm
    · rcases ZaM t with ⟨rfl,z⟩ | ⟨n2,z2⟩
      · rw[ZbO n1,Zfs<|d t,if_pos rfl]; exact y j _ z1
      · rw[ZbO n1,ZbO n2]; exact h.inj j k _ _ g z1 z2
  · rcases ZaM e with ⟨rfl,z⟩ | ⟨n1,z1⟩
    · have d:j<σ.length:=by have:=ZgI e; rw[Zb5] at this; rw[h.len]; exact this
      rw[Zfs d,if_pos rfl] at f
      cases f
      exact λm=>x<|h.sub _ m
    · rw[ZbO n1] at f; exact h.out j u b z1 f
theorem SR.wr(h:SR Z H0 O0 O H σ ρ){i:Nat}{l v:List PV}{a:Addr}{us c:List V}(e:sget ρ i=some (.own l))(p:σ[i]?=some (some<|.ref a))(q:H a=some (.lst us))(m:a∈O)(r:Reps Z (hide O H) v c) :
    SR Z H0 O0 O (upd H a<|.lst c) σ (sset ρ i<|some<|.own v)/\Same (hide O H) (hide O<|upd H a<|.lst c):=by
  have g:hide O (upd H a<|.lst c)=hide O H:=Zjk m;have B:H0 a=none:=by
    rcases h.new a m with z | z
    · exact absurd z (h.out i l a e p)
    · exact z
  refine ⟨⟨λb o k=>?_,h.sub,h.new,λb n=>?_,by rw[Zb5]; exact h.len,λj s k=>?_,λj k t D d f u=>?_,λj t b k x=>?_⟩,by rw[g]; exact λ_ _ z=>z⟩
  · rw[Zaj λz=>by rw[z,B] at k; cases k]; exact h.ext b o k
  · by_cases z:b=a
    · rw[z,Zah]; exact ⟨c,rfl⟩
    · rw[Zaj z]; exact h.ls b n
  · rcases ZaM k with ⟨rfl,z⟩ | ⟨d,z⟩
    · cases z
      exact ⟨_,p,.own m Zah (by rw[g]; exact r)⟩
    · obtain ⟨w,f,b⟩:=h.rel j s z
      refine ⟨w,f,?_⟩
      cases b with
      | val r=>exact .val (by rw[g]; exact r)
      | own n C A =>
        refine .own n ?_ (by rw[g]; exact A);rw[Zaj λy=>h.inj j i _ _ d z e (by rw[f,p,y])]; exact C
  · rcases ZaM f with ⟨rfl,z⟩ | ⟨n1,z1⟩
    · rcases ZaM u with ⟨rfl,_⟩ | ⟨n2,z2⟩
      · exact absurd rfl d
      · exact h.inj j k _ _ d e z2
    · rcases ZaM u with ⟨rfl,z⟩ | ⟨n2,z2⟩
      · exact h.inj j k _ _ d z1 e
      · exact h.inj j k _ _ d z1 z2
  · rcases ZaM k with ⟨rfl,z⟩ | ⟨n1,z1⟩
    · exact h.out j l b e x
    · exact h.out j t b z1 x
theorem SR.free(h:SR Z H0 O0 O H σ ρ){i:Nat}{l:List PV}(e:sget ρ i=some (.own l)):∃o,SR Z H0 O0 o H σ (sset ρ i<|some<|.val<|.lst l)/\Same (hide O H) (hide o H):=by
 obtain ⟨v,g,C⟩:=h.rel i _ e
 cases C with| @own _ a us m q r=>?_
 have Sh:Same (hide O H) (hide (O.filter (· ≠ a)) H):=Zeb λb c=>(Wm.mp c).1;have t:a∉O.filter (· ≠ a):=λz=>by simpa using (Wm.mp z).2
 have p:∀b,b∈O->b≠a->b∈O.filter (· ≠ a):=λb c y=>Wm.mpr ⟨c,by simpa using y⟩;refine ⟨O.filter (· ≠ a),⟨h.ext,λb c=>p b (h.sub b c) λz=>h.out i l a e g<|z ▸ c,λb c=>h.new b (Wm.mp c).1,λb c=>h.ls b (Wm.mp c).1,by rw[Zb5];exact h.len,λj s k=>?_,λj k n E f d A=>?_,λj n b k B=>?_⟩,Sh⟩
 ·rcases ZaM k with ⟨rfl,z⟩|⟨f,z⟩
  ·cases z
   refine ⟨_,g,.val ?_⟩;unfold Rep;exact ⟨a,us,rfl,by rw[hide_out t];exact q,r.same Sh⟩
  ·obtain ⟨w,d,b⟩:=h.rel j s z;refine ⟨w,d,?_⟩
   cases b with
   |val r=>exact .val<|r.same Sh
   |own c D x=>exact .own (p _ c λu=>h.inj j i _ _ f z e (by rw[d,g,u])) D<|x.same Sh
 ·rcases ZaM d with ⟨_,z⟩|⟨n1,z1⟩
  ·cases z
  ·rcases ZaM A with ⟨_,z⟩|⟨n2,z2⟩
   ·cases z
   ·exact h.inj j k _ _ f z1 z2
 ·rcases ZaM k with ⟨_,z⟩|⟨n1,z1⟩
  ·cases z
  ·exact h.out j n b z1 B
end
abbrev PK':=PV->Prop
abbrev ZE:=PSt->PK'->Prop
abbrev ZA:=PSt->(List PV->Prop)->Prop
abbrev ZT:=PSt->(Bool->Prop)->Prop
abbrev Up(Z:Zc)(O:ZZla)(H:Hp)(Q:VK):PK':=λp=>∀v a,Same H a->Rep Z (hide O a) p v->Q v a
def liE(Z:Zc)(c:Hp)(b:ZZla)(t:ZE):TE:=λd H Q=>∃O a,SR Z c b O H d a/\t a (Up Z O H Q)
def liA(Z:Zc)(e:Hp)(d:ZZla)(t:ZA):TA:=λf H Q=>∃O c,SR Z e d O H f c/\t c λg=>∀b a,Same H a->Reps Z (hide O a) g b->Q b a
def liT(Z:Zc)(e:Hp)(d:ZZla)(t:ZT):TT:=λf H Q=>∃O c,SR Z e d O H f c/\t c λb=>∀a,Same H a->Q b a
def liL(Z:Zc)(f:Hp)(e:ZZla)(t:ZA):TE:=λg H Q=>∃O c,SR Z f e O H g c/\t c λl=>∀a d b,Same H b->H a=none->b a=some (.lst d)->Reps Z (hide (a::O) b) l d->Q (.ref a) b
abbrev Mo{α:Type}(t:PSt->(α->Prop)->Prop):Prop:=∀a (A B:α->Prop),(∀p,A p->B p)->t a A->t a B
structure QE (Z:Zc) (X:Cx) (e:Expr) (t:ZE):Prop where
 mo:Mo t
 ok:∀H0 O0,PE X e (liE Z H0 O0 t)
structure QL (Z:Zc) (X:Cx) (e:Expr) (t:ZA):Prop where
 mo:Mo t
 ok:∀H0 O0,PE X e (liL Z H0 O0 t)
structure QA (Z:Zc) (X:Cx) (es:List Expr) (t:ZA):Prop where
 mo:Mo t
 ok:∀H0 O0,PA X es (liA Z H0 O0 t)
structure QT (Z:Zc) (X:Cx) (e:Expr) (t:ZT):Prop where
 mo:Mo t
 ok:∀H0 O0,PT X e (liT Z H0 O0 t)
structure QW (Z:Zc) (X:Cx) (e:Expr) (t:ZT):Prop where
 mo:Mo t
 ok:∀H0 O0,PW X e (liT Z H0 O0 t)
theorem QW.t{Z:Zc}{X:Cx}{e:Expr}{t:ZT}(h:QW Z X e t):QT Z X e t:=⟨h.mo,λa b=>(h.ok a b).pt⟩
theorem Zbf{X:Cx}{e:Expr}{t t':TE}(h:PE X e t)(m:∀b H Q,t' b H Q->t b H Q):PE X e t':=λa s b H Q I q=>h a s b H Q I<|m b H Q q
theorem ZqR{X:Cx}{e:List Expr}{t t':TA}(h:PA X e t)(m:∀b H Q,t' b H Q->t b H Q):PA X e t':=λc a s b H Q I q=>h c a s b H Q I<|m b H Q q
theorem Zpg{X:Cx}{e:Expr}{t t':TT}(h:PT X e t)(m:∀b H Q,t' b H Q->t b H Q):PT X e t':=λa s b H Q I q=>h a s b H Q I<|m b H Q q
theorem ZqS{X:Cx}{e:Expr}{t t':TT}(h:PW X e t)(m:∀b H Q,t' b H Q->t b H Q):PW X e t':=λc a s b H Q I q=>h c a s b H Q I<|m b H Q q
variable{X:Cx}
section
variable{i j:Nat}{x:Str}{pos p2 p3:Pos}{a b e:Expr}{es:List Expr}{ta tb te:ZE}{t:ZA}
abbrev ZqT(t:ZA):ZE:=λc Q=>t c λl=>Q<|.lst l
theorem QL.toE(h:QL Z X e t):QE Z X e (ZqT t):=⟨λc A B f q=>h.mo c _ _ (λ_=>f _) q,λp o=>Zbf (h.ok p o) λv H Q ⟨O,c,s,q⟩=>⟨O,c,s,h.mo c _ _ (λl k a u d S n g r=>k _ d S (by
 unfold Rep;exact ⟨a,u,rfl,by rw[hide_out<|s.ls.new n];exact g,r.same<|Zeb λb m=>Qy _ m⟩)) q⟩⟩
abbrev zV(i:Nat):ZE:=λc Q=>match sget c i with
 |some (.val p)=>Q p
 |_=>False
theorem qv(i:Nat)(g:X.N[i]?=some x:=by rfl)(d:Vis X.env.scope x:=by first|exact .inl rfl|exact .inr (.inl rfl)|exact .inr (.inr rfl))(l:(x==("__debug__":Str))=false:=by decide) (c:(x==("__classdict__":Str))=false:=by decide):QE Z X (.Name x pos) (zV i) :=
 ⟨λh A B f q=>by
  unfold zV at *
  split at q
  ·exact f _ q
  ·exact q.elim,λn m=>Zbf (ZiU g d l c) λo H Q ⟨O,h,s,q⟩=>by
  unfold zV at q
  split at q
  ·next p e =>
   obtain ⟨v,k,r⟩:=s.rel i _ e
   cases r with|val r=>exact ⟨v,k,q v H (λ_ _ z=>z) r⟩
  ·exact q.elim⟩
abbrev zC(p:PV):ZE:=λ_ Q=>Q p
theorem qc{v:V}{p:PV}(h:PE X e (tC v))(r:∀H,Rep Z H p v):QE Z X e (zC p):=⟨λ_ _ _ f q=>f _ q,λg d=>Zbf h λk H Q ⟨O,c,s,q⟩=>q v H (λ_ _ z=>z)<|r _⟩
theorem ZaA{i j}:QE Z X (.Constant (.int i) j pos) (zC<|.int i):=qc Zac λ_=>by unfold Rep;rfl
theorem ZhQ{b j}:QE Z X (.Constant (.bool b) j pos) (zC<|.bl b):=qc Zc5 λ_=>by unfold Rep;rfl
theorem ZlH{x j}:QE Z X (.Constant (.str x) j pos) (zC<|.str x):=qc ZcZ λ_=>by unfold Rep;rfl
abbrev R2':=PV->PV->PK'->Prop
def LR(Z:Zc)(r:R2)(z:R2'):Prop:=(∀p q (A B:PK'),(∀r,A r->B r)->z p q A->z p q B)/\∀O H p q x y Q,Ls O H->Rep Z (hide O H) p x->Rep Z (hide O H) q y->z p q (Up Z O H Q)->r x y H Q
abbrev zOp(z:R2')(ta tb:ZE):ZE:=λc Q=>ta c λp=>tb c λq=>z p q Q
theorem two{r:R2}{z:R2'}(l:LR Z r z)(D:Mo ta)(A:Mo tb){f:Hp}{d:ZZla}{m:L2.St}{H:Hp}{Q:VK}(h:liE Z f d (zOp z ta tb) m H Q):tOp r (liE Z f d ta) (liE Z f d tb) m H Q:=by
 obtain ⟨O,c,s,q⟩:=h;refine ⟨O,c,s,D c _ _ (λp k v G g B=>⟨O,c,s.same g,A c _ _ (λF E u w S2 y=>?_) k⟩) q⟩;have S:=λa o z=>S2 a o<|g a o z;exact l.2 O w p F v u Q (s.ls.same S) (B.h S2) y<|l.1 _ _ _ _ (λp k v C n=>k v C λa o z=>n a o<|S a o z) E
theorem mo2{z:R2'}(l:∀p q (A B:PK'),(∀r,A r->B r)->z p q A->z p q B)(h:Mo ta)(g:Mo tb):Mo (zOp z ta tb):=λc _ _ f q=>h c _ _ (λ_ k=>g c _ _ (λ_ d=>l _ _ _ _ f d) k) q
theorem ZcA{g:Operator}{r:R2}{z:R2'}(m:OpR X (binaryOp g) r)(l:LR Z r z)(c:QE Z X a ta)(d:QE Z X b tb):QE Z X (.BinOp a g b pos) (zOp z ta tb) :=
 ⟨mo2 l.1 c.mo d.mo,λk f=>Zbf (Zam m (c.ok k f)<|d.ok k f) λ_ _ _ h=>two l c.mo d.mo h⟩
abbrev zI(C:Int->Int->Prop)(g:Int->Int->PV):R2':=λp q Q=>match p,q with
 | .int i,.int j=>C i j/\Q (g i j)
 |_,_=>False
abbrev zI0(g:Int->Int->PV):R2':=λp q Q=>match p,q with
 | .int i,.int j=>Q<|g i j
 |_,_=>False
theorem Zax{H:Hp}{i:Int}{v:V}(h:Rep Z H (.int i) v):v = .int i:=by unfold Rep at h;exact h
theorem Zc2{H:Hp}{i:Bool}{v:V}(h:Rep Z H (.bl i) v):v = .bl i:=by unfold Rep at h;exact h
theorem Zb6{H:Hp}{i:Int}:Rep Z H (.int i) (.int i):=by unfold Rep;rfl
theorem Zcz{H:Hp}{i:Bool}:Rep Z H (.bl i) (.bl i):=by unfold Rep;rfl
theorem ZtB{C:Int->Int->Prop}{g:Int->Int->V}{g':Int->Int->PV}(h:∀i j H,Rep Z H (g' i j)<|g i j):LR Z (rI C g) (zI C g') :=
 ⟨λp q A B f h=>by
  unfold zI at *;split at h
  ·exact ⟨h.1,f _ h.2⟩
  ·exact h.elim,λO H p q x y Q _ d c k=>by
  unfold zI at k;split at k
  ·exact ⟨_,_,Zax d,Zax c,k.1,k.2 _ H (λ_ _ z=>z)<|h _ _ _⟩
  ·exact k.elim⟩
theorem ZqU{g:Int->Int->V}{g':Int->Int->PV}(h:∀i j H,Rep Z H (g' i j)<|g i j):LR Z (rI0 g) (zI0 g') :=
 ⟨λp q A B f h=>by
  unfold zI0 at *;split at h
  ·exact f _ h
  ·exact h.elim,λO H p q x y Q _ d c k=>by
  unfold zI0 at k;split at k
  ·exact ⟨_,_,Zax d,Zax c,k _ H (λ_ _ z=>z)<|h _ _ _⟩
  ·exact k.elim⟩
theorem li{f:Int->Int->Int}:LR Z (rI0 λi j => .int<|f i j) (zI0 λi j => .int<|f i j):=ZqU λ_ _ _=>Zb6
theorem lb{f:Int->Int->Bool}:LR Z (rI0 λi j => .bl<|f i j) (zI0 λi j => .bl<|f i j):=ZqU λ_ _ _=>Zcz
theorem lc{C:Int->Int->Prop}{f:Int->Int->Int}:LR Z (rI C λi j => .int<|f i j) (zI C λi j => .int<|f i j):=ZtB λ_ _ _=>Zb6
abbrev zN(ta:ZE):ZE:=λc Q=>ta c λp=>match p with
 | .int i=>Q<|.int<|-i
 |_=>False
abbrev Zm4:ZA:=λ_ Q=>Q []
abbrev Zdn(ta:ZE)(t:ZA):ZA:=λc Q=>ta c λp=>t c λl=>Q (p::l)
theorem ZbB:QA Z X [] Zm4:=⟨λ_ _ _ f q=>f _ q,λd c=>ZqR Zae λg H Q ⟨O,h,s,q⟩=>q [] H (λ_ _ z=>z) .nil⟩
theorem Zbt(d:QE Z X e te)(h:QA Z X es t)(A:starEach (e::es) X.env=(false,eval e X.env)::starEach es X.env:=by rfl):QA Z X (e::es) (Zdn te t) :=
 ⟨λc _ _ f q=>d.mo c _ _ (λ_ k=>h.mo c _ _ (λ_ g=>f _ g) k) q,λr n=>ZqR (Zaa (d.ok r n) (h.ok r n) A) λD H Q ⟨O,c,s,q⟩ =>
  ⟨O,c,s,d.mo c _ _ (λp k v C m y=>⟨O,c,s.same m,h.mo c _ _ (λl g B u S2 w=>g _ u (λa o z=>S2 a o<|m a o z)<|.cons (y.h S2) w) k⟩) q⟩⟩
section
variable{b c d:Expr}{tb tc td:ZE}
theorem qa1(f:QE Z X a ta)(g:starEach [a] X.env=(false,eval a X.env)::starEach [] X.env:=by rfl):QA Z X [a] (Zdn ta Zm4):=Zbt f ZbB g
theorem qa2(g:QE Z X a ta)(h:QE Z X b tb)(k:starEach [a,b] X.env=(false,eval a X.env)::starEach [b] X.env:=by rfl)(f:starEach [b] X.env=(false,eval b X.env)::starEach [] X.env:=by rfl):QA Z X [a,b] (Zdn ta<|Zdn tb Zm4):=Zbt g (qa1 h f) k
theorem qa3(g:QE Z X a ta)(h:QE Z X b tb)(m:QE Z X c tc)(k:starEach [a,b,c] X.env=(false,eval a X.env)::starEach [b,c] X.env:=by rfl)(f:starEach [b,c] X.env=(false,eval b X.env)::starEach [c] X.env:=by rfl)(l:starEach [c] X.env=(false,eval c X.env)::starEach [] X.env:=by rfl):QA Z X [a,b,c] (Zdn ta<|Zdn tb<|Zdn tc Zm4):=Zbt g (qa2 h m f l) k
theorem qa4(k:QE Z X a ta)(l:QE Z X b tb)(o:QE Z X c tc)(n:QE Z X d td)(m:starEach [a,b,c,d] X.env=(false,eval a X.env)::starEach [b,c,d] X.env:=by rfl)(f:starEach [b,c,d] X.env=(false,eval b X.env)::starEach [c,d] X.env:=by rfl)(h:starEach [c,d] X.env=(false,eval c X.env)::starEach [d] X.env:=by rfl)(g:starEach [d] X.env=(false,eval d X.env)::starEach [] X.env:=by rfl):QA Z X [a,b,c,d] (Zdn ta<|Zdn tb<|Zdn tc<|Zdn td Zm4):=Zbt k (qa3 l o n f h g) m
end
def LC(Z:Zc)(r:List V->Hp->VK->Prop)(z:List PV->PK'->Prop):Prop:=(∀p (A B:PK'),(∀r,A r->B r)->z p A->z p B)/\∀O H p x Q,Ls O H->Reps Z (hide O H) p x->z p (Up Z O H Q)->r x H Q
abbrev Zit(z:List PV->PK'->Prop)(t:ZA):ZE:=λc Q=>t c λl=>z l Q
theorem one{r:List V->Hp->VK->Prop}{z:List PV->PK'->Prop}(l:LC Z r z)(m:Mo t){n:Hp}{g:ZZla}{u:L2.St}{H:Hp}{Q:VK}(h:liE Z n g (Zit z t) u H Q):liA Z n g t u H λvs c=>r vs c Q:=by
 obtain ⟨O,f,s,q⟩:=h;exact ⟨O,f,s,m f _ _ (λy k vs c d A=>l.2 O c y vs Q (s.ls.same d) A<|l.1 _ _ _ (λp k v B w=>k v B λa o z=>w a o<|d a o z) k) q⟩
theorem Ziu{m:String}{p:Pos}{r:List V->Hp->VK->Prop}{z:List PV->PK'->Prop}(l:LC Z r z)(B:ZdZ X (.builtin m) r)(o:Gl X x)(s:X.mg x=none)(n:bootBuiltins x=some (.builtin m))(d:QA Z X (e::es) t)(w:x ≠ "__name__" := by decide) (g:(x==("__debug__" : Str))=false:=by decide)
    (u:starEach (e::es) X.env=(false,eval e X.env)::starEach es X.env:=by rfl) (c:(backTo pos<|starEach es X.env).any (·.1)=false:=by rfl):QE Z X (.Call (.Name x p) (e::es) [] pos) (Zit z t) :=
  ⟨λv _ _ f q=>d.mo v _ _ (λ_ k=>l.1 _ _ _ f k) q,λA y=>Zbf (Zan B o s n (d.ok A y) w g u c) λ_ _ _ h=>one l d.mo h⟩
end
theorem ZaW{H:Hp}:Same H H:=λ_ _ z=>z
theorem Zat{H d c:Hp}(a:Same H d)(b:Same d c):Same H c:=λ_ _ z=>b _ _<|a _ _ z
theorem rep_lst{H:Hp}{l:List PV}{v:V}(h:Rep Z H (.lst l) v):∃a us,v = .ref a/\H a=some (.lst us)/\Reps Z H l us:=by unfold Rep at h;exact h
theorem rep_tup{H:Hp}{l:List PV}{v:V}(h:Rep Z H (.tup l) v):∃a us,v = .ref a/\H a=some (.tup us)/\Reps Z H l us:=by unfold Rep at h;exact h
theorem rep_l{H:Hp}{l:List PV}{a:Addr}{us:List V}(h:H a=some (.lst us))(r:Reps Z H l us):Rep Z H (.lst l) (.ref a):=by unfold Rep;exact ⟨a,us,rfl,h,r⟩
theorem rep_t{H:Hp}{l:List PV}{a:Addr}{us:List V}(h:H a=some (.tup us))(r:Reps Z H l us):Rep Z H (.tup l) (.ref a):=by unfold Rep;exact ⟨a,us,rfl,h,r⟩
theorem Reps.at{H:Hp}{l:List PV}{us:List V}{i:Int}{p:PV}(h:Reps Z H l us)(e:atI l i=some p):∃u,atI us i=some u/\Rep Z H p u:=by
 unfold atI at *;rw[h.len]
 cases k:ixN l.length i with
 |none=>rw[k] at e;cases e
 |some j=>rw[k] at e;exact h.get e
theorem Zm5{O:ZZla}{H:Hp}{a:Addr}{o:HO}(n:H a=none):Same (hide O H) (hide (a::O)<|upd H a o):=λb u e=>by
 obtain ⟨m,e⟩:=hide_eq e;have c:b≠a:=λz=>by rw[z,n] at e;cases e
 rw[hide_out,Zaj c]
 ·exact e
 ·rintro (_|z)
  ·exact c rfl
  ·exact m (by assumption)
section
variable{i j:Nat}{x:Str}{pos p2 p3:Pos}{a b e:Expr}{es:List Expr}{ta tb te:ZE}{t:ZA}
inductive At (l:List PV) (i:Int) (Q:PK'):Prop
 |mk (v:PV) (h:atI l i=some v) (q:Q v):At l i Q
theorem At.mo{l:List PV}{i:Int}{A B:PK'}(f:∀p,A p->B p)(h:At l i A):At l i B:=let ⟨v,e,q⟩:=h;⟨v,e,f _ q⟩
abbrev zIx:R2':=λp q Q=>match p,q with
 | .lst l,.int i=>At l i Q
 | .tup l,.int i=>At l i Q
 |_,_=>False
theorem Zcg(g:QE Z X a ta)(n:QE Z X b tb)(N:ZkO b:=by exact λ_ _=>rfl):QE Z X (.Subscript a b pos) (zOp zIx ta tb):=by
 have l:LR Z (λx y H Q=>ZrJ X.K x y H Q\/Zqj X.K x y H Q) zIx:=⟨λp q A B f h=>by
  unfold zIx at *;split at h
  ·exact h.mo f
  ·exact h.mo f
  ·exact h.elim,λO H p q x y Q _ J G k=>by
  unfold zIx at k;split at k
  ·obtain ⟨a,o,e,h,r⟩:=rep_lst J;obtain ⟨v,w,k⟩:=k;obtain ⟨u,d,m⟩:=r.at w;exact .inl ⟨a,o,_,u,e,Zax G,.of<|Zao _ _ h,d,k u H ZaW m⟩
  ·obtain ⟨a,o,e,h,r⟩:=rep_tup J;obtain ⟨v,w,k⟩:=k;obtain ⟨u,d,m⟩:=r.at w;exact .inr ⟨a,o,_,u,e,Zax G,.of<|Zao _ _ h,d,k u H ZaW m⟩
  ·exact k.elim⟩
 have M:IxR X (λx y H Q=>ZrJ X.K x y H Q\/Zqj X.K x y H Q):=λv s c L K H x y z u Q I C F h=>h.elim (λh=>Za9 v s c L K H x y z u Q I C F h) λh=>Zaw v s c L K H x y z u Q I C F h;exact ⟨mo2 l.1 g.mo n.mo,λE D=>Zbf (ZaF M (g.ok E D) (n.ok E D) N) λ_ _ _ h=>two l g.mo n.mo h⟩
theorem SR.ow{g H:Hp}{d O:ZZla}{c:L2.St}{ρ:PSt}(s:SR Z g d O H c ρ){l:List PV}(e:sget ρ i=some (.own l)):∃a us,c[i]?=some (some<|.ref a)/\a∈O/\H a=some (.lst us)/\Reps Z (hide O H) l us:=by
 obtain ⟨v,f,r⟩:=s.rel i _ e
 cases r with|own m h r=>exact ⟨_,_,f,m,h,r⟩
abbrev zO(i:Nat)(f:List PV->Prop)(ρ:PSt):Prop:=match sget ρ i with
 |some (.own l)=>f l
 |_=>False
theorem Zph{f g:List PV->Prop}{ρ:PSt}(h:∀l,f l->g l)(k:zO i f ρ):zO i g ρ:=by
 unfold zO at *
 split at k
 ·exact h _ k
 ·exact k.elim
theorem ZlI{f:List PV->Prop}{ρ:PSt}(k:zO i f ρ):∃l,sget ρ i=some (.own l)/\f l:=by
 unfold zO at k
 split at k
 ·exact ⟨_,by assumption,k⟩
 ·exact k.elim
abbrev Zjl(p:PV)(f:Int->Prop):Prop:=match p with
 | .int i=>f i
 |_=>False
theorem ZcV{f g:Int->Prop}{p:PV}(h:∀l,f l->g l)(k:Zjl p f):Zjl p g:=by
 unfold Zjl at *
 split at k
 ·exact h _ k
 ·exact k.elim
theorem Zb7{f:Int->Prop}{p:PV}(k:Zjl p f):∃i,p = .int i/\f i:=by
 unfold Zjl at k
 split at k
 ·exact ⟨_,rfl,k⟩
 ·exact k.elim
abbrev zSq(p:PV)(f:List PV->Prop):Prop:=match p with
 | .lst l=>f l
 | .tup l=>f l
 |_=>False
theorem Zn1{f g:List PV->Prop}{p:PV}(h:∀l,f l->g l)(k:zSq p f):zSq p g:=by
 unfold zSq at *
 split at k
 ·exact h _ k
 ·exact h _ k
 ·exact k.elim
theorem ZlJ{f:List PV->Prop}{p:PV}{K:ZZfg}{O:ZZla}{H:Hp}{v:V}(r:Rep Z (hide O H) p v)(k:zSq p f):∃l a us,v = .ref a/\(SqL K H a us\/SqT K H a us)/\(∃o,H a=some o)/\Reps Z (hide O H) l us/\f l:=by
 unfold zSq at k
 split at k
 ·obtain ⟨a,us,e,h,r⟩:=rep_lst r;exact ⟨_,a,us,e,.inl<|.of<|Zao _ _ h,⟨_,Zao _ _ h⟩,r,k⟩
 ·obtain ⟨a,us,e,h,r⟩:=rep_tup r;exact ⟨_,a,us,e,.inr<|.of<|Zao _ _ h,⟨_,Zao _ _ h⟩,r,k⟩
 ·exact k.elim
abbrev ZpX(l:List PV)(f:PV->Prop):Prop:=match l with
 | [p]=>f p
 |_=>False
theorem Zpi{f g:PV->Prop}{l:List PV}(h:∀l,f l->g l)(k:ZpX l f):ZpX l g:=by
 unfold ZpX at *
 split at k
 ·exact h _ k
 ·exact k.elim
theorem Zm6{f:PV->Prop}{l:List PV}(k:ZpX l f):∃p,l=[p]/\f p:=by
 unfold ZpX at k
 split at k
 ·exact ⟨_,rfl,k⟩
 ·exact k.elim
theorem Reps.one{H:Hp}{p:PV}{us:List V}(h:Reps Z H [p] us):∃u,us=[u]/\Rep Z H p u:=by
 unfold Reps at h;obtain ⟨u,r,e,q,t⟩:=h;unfold Reps at t;exact ⟨u,by rw[e,t],q⟩
abbrev Zs1:List PV->PK'->Prop:=λl Q=>ZpX l λp=>zSq p λl=>Q<|.int l.length
theorem Zsh:LC Z (λxs H Q=>∃p ys,xs=[.ref p]/\(SqL X.K H p ys\/SqT X.K H p ys)/\Q (.int ys.length) H) Zs1 :=
 ⟨λp A B f h=>Zpi (λ_ h=>Zn1 (λ_=>f _) h) h,λO H p x Q _ r k=>by
  obtain ⟨p,rfl,d⟩:=Zm6 k;obtain ⟨u,rfl,g⟩:=r.one;obtain ⟨l,a,o,rfl,c,_,n,m⟩:=ZlJ (K:=X.K) g d;exact ⟨a,o,rfl,c,by rw[n.len];exact m _ H ZaW Zb6⟩⟩
theorem ZaT{p:Pos}(f:X.mg "len"=none) (d:QE Z X e te) (g:Gl X "len":= by rfl) (c:starEach [e] X.env=[(false,eval e X.env)]:=by rfl):QE Z X (.Call (.Name "len" p) [e] [] pos) (Zit Zs1<|Zdn te Zm4) :=
 Ziu Zsh Zas g f boot_len (Zbt d ZbB c) ∅ ∅ c rfl
theorem nw{O:ZZla}{H c:Hp}{l:List PV}{us:List V}{Q:VK}(S:Same H c)(k:∀a us c,Same H c->H a=none->c a=some (.lst us)->Reps Z (hide (a::O) c) l us->Q (.ref a) c)(r:Reps Z (hide O c) l us):∀p,c p=none->Q (.ref p) (upd c p<|.lst us):=λp n =>
 k p us _ (Zat S<|Zal n _) (S.free n) Zah (r.same<|Zm5 n)
abbrev Zsi(te:ZE):ZA:=λc Q=>te c λp=>zSq p Q
theorem Zjm{p:Pos}(o:X.mg "list"=none) (d:QE Z X e te) (m:Gl X "list":= by rfl) (g:starEach [e] X.env=[(false,eval e X.env)]:=by rfl):QL Z X (.Call (.Name "list" p) [e] [] pos) (Zsi te) :=
 ⟨λc A B f q=>d.mo c _ _ (λp k=>Zn1 f k) q,λy u=>Zbf (Zd1 ZeE m o boot_list (Zaa (d.ok y u) Zae g) ∅ ∅ g rfl) λD H Q ⟨O,c,s,q⟩ =>
  ⟨O,c,s,d.mo c _ _ (λp k v C n r=>by
   obtain ⟨l,a,z,rfl,h,_,w,k⟩:=ZlJ (K:=X.K) r k;exact ⟨a,z,rfl,h,nw n k w⟩) q⟩⟩
abbrev ZtC(t:ZA):ZE:=λc Q=>t c λl=>l.length<=1000/\Q (.tup l)
theorem ZqV{x1}(h:QA Z X es t):QE Z X (.Tuple es x1 pos) (ZtC t) :=
 ⟨λc _ _ f q=>h.mo c _ _ (λl k=>⟨k.1,f _ k.2⟩) q,λo m=>Zbf (Zcd<|h.ok o m) λv H Q ⟨O,c,s,q⟩=>⟨O,c,s,h.mo c _ _ (λl k r u d g=>⟨by
  rw[g.len];exact Qx<|ZaR k.1,λp n=>k.2 _ _ (Zat d<|Zal n _)<|rep_t (by rw[hide_out<|(s.ls.same d).new n];exact Zah)<|g.h<|Zal n _⟩) q⟩⟩
abbrev ZtD(t:ZA):ZA:=λc Q=>t c λl=>l.length<=1000/\Q l
theorem Zb8(h:QA Z X es t):QL Z X (.List es pos) (ZtD t) :=
 ⟨λc _ _ f q=>h.mo c _ _ (λl k=>⟨k.1,f _ k.2⟩) q,λn m=>Zbf (Zhc<|h.ok n m) λr H Q ⟨O,c,s,q⟩=>⟨O,c,s,h.mo c _ _ (λl k o p g d=>⟨by
  rw[d.len];exact Qx<|ZaR k.1,nw g k.2 d⟩) q⟩⟩
abbrev ZO:=PSt->(Option Int->Prop)->Prop
def liO(Z:Zc)(g:Hp)(f:ZZla)(t:ZO):TO:=λh H Q=>∃O d,SR Z g f O H h d/\t d λb=>∀c,Same H c->Q b c
structure QO (Z:Zc) (X:Cx) (e:Option Expr) (t:ZO):Prop where
 mo:Mo t
 ok:∀H0 O0,PO X e (liO Z H0 O0 t)
theorem ZqW{X:Cx}{e:Option Expr}{t t':TO}(h:PO X e t)(m:∀d H Q,t' d H Q->t d H Q):PO X e t':=λc s d H Q I q=>h c s d H Q I<|m d H Q q
abbrev zNo:ZO:=λ_ Q=>Q none
abbrev zSo(te:ZE):ZO:=λc Q=>te c λp=>Zjl p λi=>Q<|some i
theorem ZgJ:QO Z X none zNo:=⟨λ_ _ _ f q=>f _ q,λd c=>ZqW ZhV λg H Q ⟨O,h,s,q⟩=>q H ZaW⟩
theorem Zft(h:QE Z X e te):QO Z X (some e) (zSo te):=⟨λc _ _ f q=>h.mo c _ _ (λp k=>ZcV (λ_=>f _) k) q,λn l=>ZqW (ZhW<|h.ok n l) λo H Q ⟨O,c,s,q⟩=>⟨O,c,s,h.mo c _ _ (λp k v m d g=>by
 obtain ⟨i,rfl,k⟩:=Zb7 k;exact ⟨i,Zax g,k m d⟩) q⟩⟩
def ZcH(xs:List PV)(lo c:Option Int):List PV:=(xs.drop<|HT.sIx xs.length 0 lo).take<|HT.sIx xs.length xs.length c-HT.sIx xs.length 0 lo
theorem Reps.cut{H:Hp}{l:List PV}{us:List V}(h:Reps Z H l us)(lo c:Option Int):Reps Z H (ZcH l lo c) (Zko us lo c):=by
 unfold ZcH Zko;rw[h.len];exact (h.drop _).take _
abbrev zL(p:PV)(f:List PV->Prop):Prop:=match p with
 | .lst l=>f l
 |_=>False
theorem Ziv{f g:List PV->Prop}{p:PV}(h:∀l,f l->g l)(k:zL p f):zL p g:=by
 unfold zL at *
 split at k
 ·exact h _ k
 ·exact k.elim
theorem Zfu{f:List PV->Prop}{p:PV}(k:zL p f):∃l,p = .lst l/\f l:=by
 unfold zL at k
 split at k
 ·exact ⟨_,rfl,k⟩
 ·exact k.elim
abbrev zSl(te:ZE)(h f:ZO):ZA:=λc Q=>te c λp=>zL p λl=>h c λg=>f c λd=>Q<|ZcH l g d
variable{lo hi:Option Expr}{tl th:ZO}
theorem Zhw(m:QE Z X e te)(d:QO Z X lo tl)(u:QO Z X hi th):QL Z X (.Subscript e (.Slice lo hi none p2) pos) (zSl te tl th) :=
 ⟨λc _ _ f q=>m.mo c _ _ (λp k=>Ziv (λl k=>d.mo c _ _ (λ_ k=>u.mo c _ _ (λ_ k=>f _ k) k) k) k) q,λw o=>Zbf (ZeS ZhX (m.ok w o) (d.ok w o)<|u.ok w o) λC H Q ⟨O,c,s,q⟩ =>
  ⟨O,c,s,m.mo c _ _ (λp k v B g y=>by
   obtain ⟨l,rfl,k⟩:=Zfu k;obtain ⟨a,z,rfl,h,r⟩:=rep_lst y;exact ⟨O,c,s.same g,d.mo c _ _ (λlo k A S2=>⟨O,c,s.same<|Zat g S2,u.mo c _ _ (λhi k D n=>⟨a,z,rfl,.of<|n _ _<|S2 _ _<|Zao _ _ h,nw (Zat g<|Zat S2 n) k<|(r.cut lo hi).h<|Zat S2 n⟩) k⟩) k⟩) q⟩⟩
abbrev ZtE(ta tb:ZE):ZA:=λc Q=>ta c λp=>tb c λq=>zL p λl=>zL q λm=>l.length+m.length<=1000/\Q (l++m)
theorem Zm7(n:QE Z X a ta)(o:QE Z X b tb):QL Z X (.BinOp a .Add b pos) (ZtE ta tb) :=
 ⟨λg _ _ f q=>n.mo g _ _ (λp k=>o.mo g _ _ (λ_ k=>Ziv (λ_ k=>Ziv (λ_ k=>⟨k.1,f _ k.2⟩) k) k) k) q,λy w=>Zbf (Zam ZnQ (n.ok y w)<|o.ok y w) λM H Q ⟨O,g,s,q⟩ =>
  ⟨O,g,s,n.mo g _ _ (λp k v K z F=>⟨O,g,s.same z,o.mo g _ _ (λN k L J S2 D=>by
   obtain ⟨l,rfl,A⟩:=Zfu k;obtain ⟨m,rfl,I,B⟩:=Zfu A;obtain ⟨c,C,rfl,h,r⟩:=rep_lst F;obtain ⟨d,E,rfl,G,u⟩:=rep_lst D;exact ⟨c,d,C,E,rfl,rfl,S2 _ _<|Zao _ _ h,Zao _ _ G,by rw[r.len,u.len];exact Qx<|ZaR I,nw (Zat z S2) B<|(r.h S2).append u⟩) k⟩) q⟩⟩
abbrev Br(b:Bool)(A B:Prop):Prop:=match b with
 |true=>A
 |false=>B
theorem Br.mo{b:Bool}{A B d c:Prop}(f:A->d)(g:B->c)(h:Br b A B):Br b d c:=by
 cases b with
 |true=>exact f h
 |false=>exact g h
theorem br{p:Prop}[Decidable p]{A B:Prop}(f:p->A)(g:¬p->B):Br (decide p) A B:=by
 by_cases h:p
 ·rw[decide_eq_true h];exact f h
 ·rw[decide_eq_false h];exact g h
theorem brn{p:Prop}[Decidable p]{A B:Prop}(f:¬p->A)(g:p->B):Br (!decide p) A B:=by
 by_cases h:p
 ·rw[decide_eq_true h];exact g h
 ·rw[decide_eq_false h];exact f h
theorem brT{b:Bool}{A B:Prop}(h:b=true)(k:A):Br b A B:=by rw[h];exact k
theorem brF{b:Bool}{A B:Prop}(h:b=false)(k:B):Br b A B:=by rw[h];exact k
abbrev zTs(te:ZE):ZT:=λc Q=>te c λp=>match p with
 | .bl b=>Q b
 |_=>False
theorem Zew{Q:Bool->Prop}{p:PV}(k:match p with| .bl b=>Q b|_=>False):∃b,p = .bl b/\Q b:=by
 split at k
 ·exact ⟨_,rfl,k⟩
 ·exact k.elim
theorem Zhx(m:Mo te):Mo (zTs te):=λc A B f q=>m c _ _ (λp k=>by
 obtain ⟨b,rfl,k⟩:=Zew k;exact f _ k) q
theorem Zhy{c:CmpOp}{r:R2}{z:R2'}(m:OpR X (compareOp c) r)(l:LR Z r z)(d:QE Z X a ta)(f:QE Z X b tb)(n:behindInMarks c b=false:=by exact Zay _):QE Z X (.Compare a [c] [b] pos) (zOp z ta tb) :=
 ⟨mo2 l.1 d.mo f.mo,λk g=>Zbf (ZbD m (d.ok k g) (f.ok k g) n) λ_ _ _ h=>two l d.mo f.mo h⟩
theorem Zfv{f:CmpOp}{r:R2}{z:R2'}(n:OpR X (compareOp f) r)(l:LR Z r z)(c:QE Z X a ta)(d:QE Z X b tb)(u:behindInMarks f b=false:=by exact Zay _):QT Z X (.Compare a [f] [b] pos) (zTs<|zOp z ta tb) :=
 ⟨Zhx<|mo2 l.1 c.mo d.mo,λm h=>Zpg (Zav n (c.ok m h) (d.ok m h) u) λA H Q ⟨O,g,s,q⟩=>two l c.mo d.mo ⟨O,g,s,mo2 l.1 c.mo d.mo g _ _ (λp k v y o w=>by
  obtain ⟨b,rfl,k⟩:=Zew k;exact ⟨b,Zc2 w,k y o⟩) q⟩⟩
theorem ZgK(h:QE Z X e te)(g:∀c,isTrue e X.env c=(do let v ← c;standAt e.pos;holding [v] (truthy v)):=by intro _;rfl):QT Z X e (zTs te) :=
 ⟨Zhx h.mo,λo m=>Zpg (Zbv (h.ok o m) g) λr H Q ⟨O,d,s,q⟩=>⟨O,d,s,h.mo d _ _ (λp k v n f l=>by
  obtain ⟨b,rfl,k⟩:=Zew k;exact ⟨b,Zc2 l,k n f⟩) q⟩⟩
theorem Zsj(i j:Int):decide (V.int i=V.int j)=decide (i=j):=decide_eq_decide.mpr ⟨λh=>V.int.inj h,λh=>by rw[h]⟩
theorem ZqX(n:Bool):LR Z (λx y H Q=>ZrW x y=true/\Q (.bl<|n ^^ decide (x=y)) H) (zI0 λi j => .bl<|n ^^ decide (i=j)) :=
 ⟨λp q A B f h=>by
  unfold zI0 at *;split at h
  ·exact f _ h
  ·exact h.elim,λO H p q x y Q _ d c k=>by
  unfold zI0 at k;split at k
  ·rw[Zax d,Zax c];refine ⟨rfl,k _ H ZaW ?_⟩;rw[Zsj];exact Zcz
  ·exact k.elim⟩
theorem leq:LR Z rEq (zI0 λi j => .bl<|decide<|i=j):=by
 have:=ZqX (Z:=Z) false
 simp only[Bool.false_xor] at this;exact this
theorem lne:LR Z rNe (zI0 λi j => .bl<|!decide (i=j)):=by
 have:=ZqX (Z:=Z) true
 simp only[Bool.true_xor] at this;exact this
variable{tA tB':ZT}{rest:List Expr}
abbrev ZtF(t:ZT):ZT:=λc Q=>t c λb=>Q<|!b
theorem Zc7(h:QT Z X a tA):QT Z X (.UnaryOp .Not a pos) (ZtF tA):=⟨λg _ _ f q=>h.mo g _ _ (λ_=>f _) q,λd c=>Zpg (ZcB<|h.ok d c) λk H Q q=>q⟩
abbrev ZtG(t u:ZT):ZT:=λc Q=>t c λb=>Br b (u c Q)<|Q false
abbrev zOr(t u:ZT):ZT:=λc Q=>t c λb=>Br b (Q true)<|u c Q
theorem ZlK(h:QT Z X a tA):QW Z X (.BoolOp .And [a] pos) tA:=⟨h.mo,λc d=>Zks<|h.ok c d⟩
theorem ZgL(h:QT Z X a tA):QW Z X (.BoolOp .Or [a] pos) tA:=⟨h.mo,λc d=>ZdF<|h.ok c d⟩
theorem Zpj(h:QT Z X a tA)(l:QW Z X (.BoolOp .And (b::rest) pos) tB'):QW Z X (.BoolOp .And (a::b::rest) pos) (ZtG tA tB') :=
 ⟨λd A B f q=>h.mo d _ _ (λ_ k=>k.mo (l.mo d _ _ f)<|f _) q,λn m=>ZqS (ZnG (h.ok n m)<|l.ok n m) λr H Q ⟨O,d,s,q⟩=>⟨O,d,s,h.mo d _ _ (λc k p g=>by
  cases c with
  |true=>rw[if_pos rfl];exact ⟨O,d,s.same g,l.mo d _ _ (λb k o S2=>k o<|Zat g S2) k⟩
  |false=>rw[if_neg ∅];exact k p g) q⟩⟩
theorem Zm8(h:QT Z X a tA)(l:QW Z X (.BoolOp .Or (b::rest) pos) tB'):QW Z X (.BoolOp .Or (a::b::rest) pos) (zOr tA tB') :=
 ⟨λd A B f q=>h.mo d _ _ (λ_ k=>k.mo (f _)<|l.mo d _ _ f) q,λn m=>ZqS (ZdD (h.ok n m)<|l.ok n m) λr H Q ⟨O,d,s,q⟩=>⟨O,d,s,h.mo d _ _ (λc k p g=>by
  cases c with
  |true=>rw[if_pos rfl];exact k p g
  |false=>rw[if_neg ∅];exact ⟨O,d,s.same g,l.mo d _ _ (λb k o S2=>k o<|Zat g S2) k⟩) q⟩⟩
abbrev zIf(t:ZT)(ta tb:ZE):ZE:=λc Q=>t c λb=>Br b (ta c Q)<|tb c Q
theorem ZqY{c:Expr}(p:QT Z X c tA)(h:QE Z X a ta)(o:QE Z X b tb):QE Z X (.IfExp c a b pos) (zIf tA ta tb) :=
 ⟨λd A B f q=>p.mo d _ _ (λ_ k=>k.mo (h.mo d _ _ f)<|o.mo d _ _ f) q,λn m=>Zbf (ZiV (p.ok n m) (h.ok n m)<|o.ok n m) λu H Q ⟨O,d,s,q⟩=>⟨O,d,s,p.mo d _ _ (λc k r g=>by
  cases c with
  |true=>rw[if_pos rfl];exact ⟨O,d,s.same g,h.mo d _ _ (λb k v l S2=>k v l<|Zat g S2) k⟩
  |false=>rw[if_neg ∅];exact ⟨O,d,s.same g,o.mo d _ _ (λb k v l S2=>k v l<|Zat g S2) k⟩) q⟩⟩
theorem Zm9(h:QE Z X a ta):QE Z X (.UnaryOp .USub a pos) (zN ta) :=
 ⟨λc A B f q=>h.mo c _ _ (λp k=>by
  split at k
  ·exact f _ k
  ·exact k.elim) q,λn l=>Zbf (ZkA Zg8<|h.ok n l) λo H Q ⟨O,c,s,q⟩=>⟨O,c,s,h.mo c _ _ (λp k v m d g=>by
  split at k
  ·exact ⟨_,Zax g,k _ m d Zb6⟩
  ·exact k.elim) q⟩⟩
end
abbrev ZF:=List PV->PK'->Prop
abbrev MoF(S:ZF):Prop:=∀a (A B:PK'),(∀p,A p->B p)->S a A->S a B
inductive liF (Z:Zc) (S:ZF) (vs:List V) (H:Hp) (Q:VK) (E:XK):Prop
 |mk (O:ZZla) (ps:List PV) (l:Ls O H) (r:Reps Z (hide O H) ps vs) (s:S ps (Up Z O H Q)):liF Z S vs H Q E
structure Fn (P:Program) (w:World) (K:ZZfg) (mg:ZZmg) (base:Heap) (Z:Zc) (x:Str) (k:Nat) (S:ZF):Prop where
 mo:MoF S
 has:∃ps,HasX P w K mg base x k ps (liF Z S)
theorem Fn.mono{P:Program}{w:World}{K:ZZfg}{b:ZZmg}{base:Heap}{x:Str}{j k:Nat}{S:ZF}(h:Fn P w K b base Z x j S)(e:j<=k):Fn P w K b base Z x k S:=⟨h.mo,let ⟨ps,a⟩:=h.has;⟨ps,a.mono e⟩⟩
theorem Up.tr{O:ZZla}{H a:Hp}{Q:VK}(d:Same H a)(p:PV)(k:Up Z O H Q p):Up Z O a Q p:=λv c b=>k v c<|Zat d b
section
variable{i j k:Nat}{x m:Str}{pos p2 p3 apos:Pos}{a b e o:Expr}{es:List Expr}{ta tb te:ZE}{t:ZA}{S:ZF}
theorem Zak{p:Pos}(h:Fn X.prog X.w X.K X.mg X.base Z x k S)(g:QA Z X (e::es) t)(B:Room k X.A:=by assumption)(u:Gl X x:=by rfl)(l:(x==("__debug__" : Str))=false:=by decide)
    (v:starEach (e::es) X.env=(false,eval e X.env)::starEach es X.env:=by rfl) (d:(backTo pos<|starEach es X.env).any (·.1)=false:=by rfl):QE Z X (.Call (.Name x p) (e::es) [] pos) (Zit S t):=by
  obtain ⟨r,z⟩:=h.has;exact ⟨λc _ _ f q=>g.mo c _ _ (λ_ k=>h.mo _ _ _ f k) q,λA y=>Zbf (Zbs z Zgh B u (g.ok A y) l v d) λE H Q ⟨O,c,s,q⟩ =>
    ⟨O,c,s,g.mo c _ _ (λr k C D n w=>⟨O,r,s.ls.same n,w,h.mo _ _ _ (Up.tr n) k⟩) q⟩⟩
abbrev ZK:=PV->Prop->Prop
abbrev zKd:ZK:=λp A=>match p with
 | .kd _=>A
 |_=>False
abbrev zKp:ZK:=λp A=>match p with
 | .kp _=>A
 |_=>False
structure Mt (P:Program) (w:World) (K:ZZfg) (mg:ZZmg) (base:Heap) (Z:Zc) (G:ZK) (m:Str) (k:Nat) (S:ZF):Prop where
 mo:MoF S
 g:∀p A B,(A->B)->G p A->G p B
 go:∀p A,G p A->A
 ok:∀(p:PV) (x:V) (H:Hp) (O:ZZla),Rep Z (hide O H) p x->G p True->∃a C dx fs ps dvs sp,x = .ref a/\H a=some (.ins C dx fs)/\Cls K C/\HasMX P w K mg base C m k ps dvs sp/\fs.lookup m=none ∧
  ∀H1 vs ws Q,Same H H1->Ls O H1->Reps Z (hide O H1) vs ws->S (p::vs) (Up Z O H1 Q)->sp (x::(ws++dvs)) H1 Q E0
theorem Mt.mono{P:Program}{w:World}{K:ZZfg}{c:ZZmg}{base:Heap}{G:ZK}{m:Str}{j k:Nat}{S:ZF}(h:Mt P w K c base Z G m j S)(e:j<=k):Mt P w K c base Z G m k S :=
 ⟨h.mo,h.g,h.go,λp x H O r g=>let ⟨a,C,dx,fs,ps,dvs,sp,h1,h2,h3,h4,h5,h6⟩:=h.ok p x H O r g;⟨a,C,dx,fs,ps,dvs,sp,h1,h2,h3,h4.mono e,h5,h6⟩⟩
abbrev zM(G:ZK)(S:ZF)(ta:ZE)(t:ZA):ZE:=λc Q=>ta c λo=>G o<|t c λl=>S (o::l) Q
theorem q_m{G:ZK}{pl:Sem Bool}(h:Mt X.prog X.w X.K X.mg X.base Z G m k S)(d:QE Z X o ta)(n:QA Z X (e::es) t)(Y:Room k X.A:=by assumption)
    (r:starEach (e::es) X.env=(false,eval e X.env)::starEach es X.env:=by rfl) (g:(backTo pos<|starEach es X.env).any (·.1)=false:=by rfl)
    (E:eval (.Call (.Attribute o m apos) (e::es) [] pos) X.env=(do
      let ov ← eval o X.env
      standAt apos.atName
      let (f,first) ← holding [ov] (getMethod ov m pl)
      callWith pos f first (backTo pos<|starEach (e::es) X.env) (backToKw pos<|keywordEach [] X.env)):=by rfl) :
    QE Z X (.Call (.Attribute o m apos) (e::es) [] pos) (zM G S ta t) :=
  ⟨λc _ _ f q=>d.mo c _ _ (λ_ k=>h.g _ _ _ (λk=>n.mo c _ _ (λ_ k=>h.mo _ _ _ f k) k) k) q,λz y=>Zbf (Zi8 (d.ok z y) Zgh Y (n.ok z y) r g E) λσ H Q ⟨O,c,s,q⟩ =>
    ⟨O,c,s,d.mo c _ _ (λp k v K u P=>by
      obtain ⟨a,C,F,J,M,w,R,W,I,U,T,B,A⟩:=h.ok p v K O P<|h.g _ _ _ (λ_=>trivial) k;exact ⟨a,C,F,J,M,w,R,W,I,U,T,B,O,c,s.same u,n.mo c _ _ (λl k N D S2 L=>A D l N Q S2 (s.ls.same<|Zat u S2) L<|h.mo _ _ _ (Up.tr<|Zat u S2) k)<|h.go _ _ k⟩) q⟩⟩
def Zsk(Z:Zc)(f:ZZla)(d:Hp)(J:It)(l:List PV):Prop:=∀O H,Same (hide f d) (hide O H)->Ls O H->∀i:Nat,(i=l.length->J.stop i H)/\∀p,l[i]?=some p->J.go i H/\∀x c,J.yld i H x c->Same H c/\Rep Z (hide O c) p x
def liI(Z:Zc)(g:Hp)(f:ZZla)(t:ZA):TI:=λh H R=>∃O d,SR Z g f O H h d/\t d λl=>∀J c,Same H c->Zsk Z O c J l->R J c
structure QI (Z:Zc) (X:Cx) (tg it:Expr) (t:ZA):Prop where
 mo:Mo t
 ok:∀H0 O0,PI X tg it (liI Z H0 O0 t)
theorem Zkb{X:Cx}{f e:Expr}{t t':TI}(h:PI X f e t)(m:∀d H Q,t' d H Q->t d H Q):PI X f e t':=λc s d H Q I q=>h c s d H Q I<|m d H Q q
variable{tg:Expr}
abbrev zIt(te:ZE):ZA:=λc Q=>te c λp=>zL p Q
theorem Zec(h:QE Z X e te):QI Z X tg e (zIt te) :=
 ⟨λd _ _ f q=>h.mo d _ _ (λp k=>Ziv f k) q,λD B=>Zkb (Zf8<|h.ok D B) λL H R ⟨O,d,s,q⟩=>⟨O,d,s,h.mo d _ _ (λp k v C F G=>by
  obtain ⟨l,rfl,k⟩:=Zfu k;obtain ⟨a,c,rfl,n,r⟩:=rep_lst G;refine ⟨a,rfl,⟨c,.of<|Zao _ _ n⟩,k _ C F λK z S2 _ i=>?_⟩;have g:z a=some (.lst c):=Zao _ _<|S2 _ _ n;refine ⟨λe=>⟨c,.of g,by rw[e,r.len];exact Q2 _⟩,λp y=>?_⟩;obtain ⟨u,w,A⟩:=r.get y;refine ⟨⟨c,u,.of g,w⟩,λx J ⟨E,I⟩=>?_⟩;subst E;have:=I c<|.of g;rw[w] at this;cases this;exact ⟨ZaW,A.same S2⟩) q⟩⟩
def ZhR(lo:Int)(n:Nat):List PV:=(List.range n).map λi:Nat => .int<|lo+(i:Int)
theorem ZaE{lo:Int}{n:Nat}:(ZhR lo n).length=n:=by unfold ZhR;rw[Q0,Q9]
theorem ZaN{lo:Int}{n i:Nat}{p:PV}(h:(ZhR lo n)[i]?=some p):i<n/\p = .int (lo+i):=by
 have l:i<n:=by have:=(Qn.mp h).1;rw[ZaE] at this;exact this
 unfold ZhR at h;rw[Q4,Qj l] at h;exact ⟨l,(Option.some.inj h).symm⟩
theorem Zn2{O:ZZla}{H:Hp}{lo:Int}{n:Nat}:Zsk Z O H (Itr lo n) (ZhR lo n):=λh q _ _ i=>⟨λe=>by rw[ZaE] at e;exact U0 e.symm,λp d=>by
 obtain ⟨l,rfl⟩:=ZaN d;refine ⟨l,λx g ⟨f,c⟩=>?_⟩;subst f c;exact ⟨ZaW,Zb6⟩⟩
abbrev zR1(te:ZE):ZA:=λc Q=>te c λp=>Zjl p λj=>j<2^62 /\ -(2^62)<=j/\Q (ZhR 0 j.toNat)
theorem Zb9{p:Pos}(n:X.mg "range"=none) (h:QE Z X e te) (g:Gl X "range":= by rfl) (d:starEach [e] X.env=[(false,eval e X.env)]:=by rfl):QI Z X tg (.Call (.Name "range" p) [e] [] pos) (zR1 te) :=
 ⟨λc _ _ f q=>h.mo c _ _ (λp k=>ZcV (λ_ k=>⟨k.1,k.2.1,f _ k.2.2⟩) k) q,λz w=>Zkb (Zc9 g n (Zaa (h.ok z w) Zae d) d) λB H R ⟨O,c,s,q⟩=>⟨O,c,s,h.mo c _ _ (λp k v y l u=>by
  obtain ⟨j,rfl,A,r,k⟩:=Zb7 k;exact ⟨j,by rw[Zax u],r,A,k _ y l Zn2⟩) q⟩⟩
abbrev zR2(ta tb:ZE):ZA:=λc Q=>ta c λp=>tb c λq=>Zjl p λi=>Zjl q λj=>(-(2^62)<=i/\i<2^62 /\ -(2^62)<=j/\j<2^62)/\Q (ZhR i (j-i).toNat)
theorem ZqZ{p:Pos}(A:X.mg "range"=none) (g:QE Z X a ta) (h:QE Z X b tb) (y:Gl X "range":= by rfl) (n:starEach [a,b] X.env=[(false,eval a X.env),(false,eval b X.env)]:=by rfl) (d:starEach [b] X.env=[(false,eval b X.env)]:=by rfl):QI Z X tg (.Call (.Name "range" p) [a,b] [] pos) (zR2 ta tb) :=
 ⟨λc _ _ f q=>g.mo c _ _ (λp k=>h.mo c _ _ (λ_ k=>ZcV (λ_ k=>ZcV (λ_ k=>⟨k.1,f _ k.2⟩) k) k) k) q,λu r=>Zkb (Zky y A (Zaa (g.ok u r) (Zaa (h.ok u r) Zae d) (by rw[n,d])) n d) λI H R ⟨O,c,s,q⟩=>⟨O,c,s,g.mo c _ _ (λp k v G l C=>⟨O,c,s.same l,h.mo c _ _ (λJ k F z S2 B=>by
  obtain ⟨i,rfl,w⟩:=Zb7 k;obtain ⟨j,rfl,E,D⟩:=Zb7 w;exact ⟨i,j,by rw[Zax C,Zax B],E,D _ z (Zat l S2) Zn2⟩) k⟩) q⟩⟩
end
structure ZD where
 nx:PSt->Prop
 rt:PK'
 bk:PSt->Prop
 ct:PSt->Prop
abbrev ZS:=ZD->PSt->Prop
structure ZD.Le (D D':ZD):Prop where
 nx:∀ρ,D.nx ρ->D'.nx ρ
 rt:∀p,D.rt p->D'.rt p
 bk:∀ρ,D.bk ρ->D'.bk ρ
 ct:∀ρ,D.ct ρ->D'.ct ρ
abbrev MoS(t:ZS):Prop:=∀D a b,ZD.Le D a->t D b->t a b
def dnN(Z:Zc)(e:Hp)(d O:ZZla)(H:Hp)(q:L2.St->Hp->Prop):PSt->Prop:=λf=>∀c a b,SR Z e d c b a f->Same (hide O H) (hide c b)->q a b
def dn(Z:Zc)(b:Hp)(a O:ZZla)(H:Hp)(D:Ends):ZD :=
 ⟨dnN Z b a O H D.nx,λp=>∀v c,Same b c->Rep Z (hide a c) p v->D.rt v c,dnN Z b a O H D.bk,dnN Z b a O H D.ct⟩
theorem Zhz{e:Hp}{c O d:ZZla}{H b:Hp}{q:L2.St->Hp->Prop}(S:Same (hide O H) (hide d b))(ρ:PSt)(h:dnN Z e c O H q ρ):dnN Z e c d b q ρ:=λf a g s S2=>h f a g s<|Zat S S2
theorem Zna{d:Hp}{b O c:ZZla}{H a:Hp}{D:Ends}(S:Same (hide O H) (hide c a)):ZD.Le (dn Z d b O H D) (dn Z d b c a D):=⟨Zhz S,λ_ h=>h,Zhz S,Zhz S⟩
def liS(Z:Zc)(b:Hp)(a:ZZla)(t:ZS):TS:=λD d H=>∃O c,SR Z b a O H d c/\t (dn Z b a O H D) c
structure QS (Z:Zc) (X:Cx) (s:Stmt) (t:ZS):Prop where
 mo:MoS t
 ok:∀H0 O0,PS X s (liS Z H0 O0 t)
structure QSs (Z:Zc) (X:Cx) (s:List Stmt) (t:ZS):Prop where
 mo:MoS t
 ok:∀H0 O0,PSs X s (liS Z H0 O0 t)
theorem QS.m{b:Stmt}{u:ZS}{D a:ZD}{ρ:PSt}(h:QS Z X b u)(q:u D ρ)(l:D.Le a):u a ρ:=h.mo _ _ _ l q
theorem QSs.m{b:List Stmt}{u:ZS}{D a:ZD}{ρ:PSt}(h:QSs Z X b u)(q:u D ρ)(l:D.Le a):u a ρ:=h.mo _ _ _ l q
theorem Zdo{X:Cx}{e:Stmt}{t t':TS}(h:PS X e t)(m:∀D b H,t' D b H->t D b H):PS X e t':=λa s b H D I q=>h a s b H D I<|m D b H q
theorem Zn3{X:Cx}{e:List Stmt}{t t':TS}(h:PSs X e t)(m:∀D b H,t' D b H->t D b H):PSs X e t':=λa s b H D I q=>h a s b H D I<|m D b H q
section
variable{i j k:Nat}{x m:Str}{pos p2 p3 apos:Pos}{a b e o:Expr}{es:List Expr}{ta tb te:ZE}{t:ZA}{tc:ZT}{st:Stmt}{ss s2:List Stmt}{u u2:ZS}
abbrev zNx:ZS:=λD c=>D.nx c
abbrev ZtH(u u2:ZS):ZS:=λD c=>u ⟨λc=>u2 D c,D.rt,D.bk,D.ct⟩ c
theorem Zbo:QSs Z X [] zNx:=⟨λ_ _ _ l h=>l.nx _ h,λf d=>Zn3 ZaB λD c H ⟨O,g,s,q⟩=>q O c H s ZaW⟩
theorem Zai(h:QS Z X st u):QSs Z X [st] u:=⟨h.mo,λc d=>Zag<|h.ok c d⟩
theorem Zaf(h:QS Z X st u)(c:QSs Z X ss u2):QSs Z X (st::ss) (ZtH u u2) :=
 ⟨λD y f l q=>h.m q ⟨λ_ k=>c.mo _ _ _ l k,l.rt,l.bk,l.ct⟩,λn g=>Zn3 (Zad (h.ok n g)<|c.ok n g) λD B H ⟨O,f,s,q⟩ =>
  ⟨O,f,s,h.m q ⟨λd k w v A r p=>⟨w,d,r,c.mo _ _ _ (Zna p) k⟩,λ_ z=>z,λ_ z=>z,λ_ z=>z⟩⟩⟩
abbrev Zq0(i:Nat)(te:ZE):ZS:=λD c=>te c λp=>D.nx<|sset c i<|some<|.val p
theorem ZaC(i:Nat)(f:X.N.Nodup)(h:QE Z X e te)(n:X.N[i]?=some x:=by rfl)(g:Loc X.env.scope x:=by first|exact .inl rfl|exact .inr rfl)(w:swapsWith e (some<|.Name x p2) pos.line X.env=pure false:=by rfl)(A:X.fn x=true\/X.env.scope.names.lookup x=some .local:=by first|exact .inl rfl|exact .inr rfl|assumption):QS Z X (.Assign [.Name x p2] e pos) (Zq0 i te) :=
 ⟨λD E c l q=>h.mo c _ _ (λp k=>l.nx _ k) q,λB y=>Zdo (ZaG f n g (h.ok B y) w A) λD C H ⟨O,c,s,q⟩=>⟨O,c,s,h.mo c _ _ (λp k v z d r=>k O _ z ((s.same d).set r)<|Zaz d) q⟩⟩
abbrev Znb(i:Nat)(t:ZA):ZS:=λD c=>t c λl=>D.nx<|sset c i<|some<|.own l
theorem Zch(i:Nat)(r:X.N.Nodup)(h:QL Z X e t)(y:X.N[i]?=some x:=by rfl)(w:Loc X.env.scope x:=by first|exact .inl rfl|exact .inr rfl)(A:swapsWith e (some<|.Name x p2) pos.line X.env=pure false:=by rfl)(E:X.fn x=true\/X.env.scope.names.lookup x=some .local:=by first|exact .inl rfl|exact .inr rfl|assumption):QS Z X (.Assign [.Name x p2] e pos) (Znb i t) :=
 ⟨λD I c l q=>h.mo c _ _ (λp k=>l.nx _ k) q,λF B=>Zdo (ZaG r y w (h.ok F B) A E) λD G H ⟨O,c,s,q⟩=>⟨O,c,s,h.mo c _ _ (λl k a J C v n g z=>by
  obtain ⟨f,d⟩:=s.own v (i:=i) n g z;exact k _ _ C f d) q⟩⟩
abbrev Zsl(i:Nat)(u:ZS):ZS:=λD c=>zO i (λl=>u D<|sset c i<|some<|.val<|.lst l) c
theorem ZbZ(i:Nat)(h:QS Z X st u):QS Z X st (Zsl i u) :=
 ⟨λD r f l q=>Zph (λ_ k=>h.mo _ _ _ l k) q,λp g=>Zdo (h.ok p g) λD v H ⟨O,f,s,q⟩=>by
  obtain ⟨l,e,q⟩:=ZlI q;obtain ⟨n,c,d⟩:=s.free e;exact ⟨n,_,c,h.mo _ _ _ (Zna d) q⟩⟩
abbrev ZtI(te:ZE):ZS:=λD c=>te c D.rt
theorem Zau(h:QE Z X e te):QS Z X (.Return (some e) pos) (ZtI te) :=
 ⟨λD y c l q=>h.mo c _ _ l.rt q,λr f=>Zdo (Zar<|h.ok r f) λD w H ⟨O,c,s,q⟩=>⟨O,c,s,h.mo c _ _ (λp k v g n d=>k v g (Zat s.ext n)<|d.same<|Zeb s.sub) q⟩⟩
abbrev ZtJ(c:ZT)(u u2:ZS):ZS:=λD d=>c d λb=>Br b (u D d)<|u2 D d
theorem Zci{c:Expr}(r:QT Z X c tc)(h:QSs Z X ss u)(g:QSs Z X s2 u2):QS Z X (.If c ss s2 pos) (ZtJ tc u u2) :=
 ⟨λD y d l q=>r.mo d _ _ (λ_ k=>k.mo (h.mo _ _ _ l)<|g.mo _ _ _ l) q,λp n=>Zdo (Za1 (r.ok p n) (h.ok p n)<|g.ok p n) λD w H ⟨O,d,s,q⟩=>⟨O,d,s,r.mo d _ _ (λc k v f=>by
  cases c with
  |true=>rw[if_pos rfl];exact ⟨O,d,s.same f,h.mo _ _ _ (Zna<|Zaz f) k⟩
  |false=>rw[if_neg ∅];exact ⟨O,d,s.same f,g.mo _ _ _ (Zna<|Zaz f) k⟩) q⟩⟩
theorem Zpk:QS Z X st (λ_ _=>False):=⟨λ_ _ _ _ q=>q,λ_ _ _ _ _ _ _ _ ⟨_,_,_,q⟩=>q.elim⟩
inductive While (fs:List Nat) (c:ZT) (u:ZS) (D:ZD) (ρ:PSt):Prop
 |mk (W:Nat->PSt->Prop) (m:Nat) (h0:W m (sfg fs ρ)) (hs:∀m ρ,W m ρ->c ρ λb=>Br b (u ⟨λρ2=>∃m',m'<m/\W m' (sfg fs ρ2),D.rt,D.nx,λρ2=>∃m',m'<m/\W m' (sfg fs ρ2)⟩ ρ) (D.nx ρ)):While fs c u D ρ
theorem ZgM(y:List Nat){c:Expr}(N:QT Z X c tc)(h:QSs Z X ss u)(hp:PassesOwn (model X.prog X.w) X.A X.env X.xe:=by exact PassesOwn.leaving):QS Z X (.While c ss [] pos) (While y tc u) :=
 ⟨λD Y v l ⟨W,m,G,L⟩=>⟨W,m,G,λm v w=>by
  refine N.mo v _ _ (λb k=>?_)<|L m v w
  cases b with
  |true=>exact h.m (show u _ _ from k) ⟨λ_ z=>z,l.rt,l.nx,λ_ z=>z⟩
  |false=>exact l.nx _ k⟩,λr q=>Zdo (Zcn hp (N.ok r q)<|h.ok r q) λD σ H ⟨O,v,s,W,m,G,L⟩=>by
  refine ⟨λm g C=>∃n d,SR Z r q n C g d/\Same (hide O H) (hide n C)/\W m d,⟨m,O,_,s.fg y,ZaW,G⟩,?_⟩;rintro m g C ⟨n,d,A,U,w⟩;refine ⟨n,d,A,N.mo d _ _ (λb k S I=>?_)<|L m d w⟩;have S2:=Zat U<|Zaz I
  cases b with
  |true =>
   show if true=true then _ else _
   rw[if_pos rfl];refine ⟨λJ Q=>∃p,p<m/\∃R f,SR Z r q R Q J f/\Same (hide O H) (hide R Q)/\W p f,λ_ _ z=>z,n,d,A.same I,h.m k ⟨?_,λ_ z=>z,?_,?_⟩⟩
   ·rintro f ⟨p,E,F⟩ K P T M B;exact ⟨p,E,K,_,M.fg y,Zat S2 B,F⟩
   ·exact Zhz S2
   ·rintro f ⟨p,E,F⟩ K P T M B;exact ⟨p,E,K,_,M.fg y,Zat S2 B,F⟩
  |false =>
   show if false=true then _ else _
   rw[if_neg ∅];exact k n g S (A.same I) S2⟩
abbrev ZG:=PV->PSt->(PSt->Prop)->Prop
structure QG (Z:Zc) (X:Cx) (tg:Expr) (g:ZG):Prop where
 mo:∀p ρ (A B:PSt->Prop),(∀ρ,A ρ->B ρ)->g p ρ A->g p ρ B
 ok:∃g':TG,PG X tg g'/\∀H0 O0 O H σ ρ p v (Q:L2.St->Hp->Prop),SR Z H0 O0 O H σ ρ->Rep Z (hide O H) p v->g p ρ (λρ'=>∀σ',SR Z H0 O0 O H σ' ρ'->Q σ' H)->g' v σ H Q
abbrev gN(i:Nat):ZG:=λp c k=>k<|sset c i<|some<|.val p
theorem Zg6(i:Nat)(c:X.N.Nodup)(h:X.N[i]?=some x:=by rfl)(d:Loc X.env.scope x:=by first|exact .inl rfl|exact .inr rfl)(l:X.fn x=true\/X.env.scope.names.lookup x=some .local:=by first|exact .inl rfl|exact .inr rfl|assumption):QG Z X (.Name x pos) (gN i) :=
 ⟨λp g A B f q=>f _ q,Zcm i,ZaL c h d l,λw n O H y g p v Q s r k=>k _<|s.set r⟩
inductive For (l:List PV) (fs:List Nat) (g:ZG) (u:ZS) (D:ZD) (ρ:PSt):Prop
 |mk (I:Nat->PSt->Prop) (h0:I 0 (sfg fs ρ)) (hs:∀i p ρ',l[i]?=some p->I i ρ'->g p ρ' λρ2=>u ⟨λρ3=>I (i+1) (sfg fs ρ3),D.rt,D.nx,λρ3=>I (i+1) (sfg fs ρ3)⟩ ρ2) (hd:∀ρ',I l.length ρ'->D.nx ρ'):For l fs g u D ρ
abbrev ZtK(d:List Nat)(f:ZA)(g:ZG)(u:ZS):ZS:=λD c=>f c λl=>For l d g u D c
theorem ZbC(K:List Nat){R it:Expr}{g:ZG}(N:QI Z X R it t)(hg:QG Z X R g)(h:QSs Z X ss u)(hp:PassesOwn (model X.prog X.w) X.A X.env X.xe:=by exact PassesOwn.leaving)(hc:X.calm=true:=by rfl)(F:∀x,foldedSetIterable it X.env x=pure x:=by intro _;rfl):QS Z X (.For R it ss [] pos) (ZtK K t g u):=by
 obtain ⟨mg,g',pg,U⟩:=hg;refine ⟨λD D' M l q=>N.mo M _ _ (λls ⟨I,h0,F,Y⟩=>⟨I,h0,λi p d e w=>by
  refine mg _ _ _ _ (λf k=>?_)<|F i p d e w;exact h.m k ⟨λ_ z=>z,l.rt,l.nx,λ_ z=>z⟩,λd w=>l.nx _<|Y d w⟩) q,λE C=>Zdo (ZdY hp hc (N.ok E C) pg (h.ok E C) F) λD σ H ⟨O,M,s,q⟩=>⟨O,M,s,N.mo M _ _ (λl ⟨I,h0,F,Y⟩ J H1 S1 wk=>?_) q⟩⟩
 refine ⟨λi m n A=>m=l.length-i/\i<=l.length/\∃r d,SR Z E C r A n d/\Same (hide O H1) (hide r A)/\I i d,⟨_,rfl,Q6 _,O,_,(s.same S1).fg K,ZaW,h0⟩,?_⟩;rintro i m n A ⟨rfl,a2,r,d,S,L,w⟩;obtain ⟨w1,w2⟩:=wk r A L S.ls i;have S0:Same (hide O H) (hide r A):=Zat (Zaz S1) L
 by_cases e:i=l.length
 ·refine .inl ⟨w1 e,Y d (e ▸ w) r n A S S0⟩
 ·have T:i<l.length:=⋯;obtain ⟨go,yl⟩:=w2 l[i]<|Q7 T;refine .inr ⟨go,λv B=>∃G f,SR Z E C G B v f/\Same (hide O H1) (hide G B)/\I (i+1) f,λv B ⟨G,f,a,b,c⟩=>⟨l.length-(i+1),⋯,rfl,T,G,f,a,b,c⟩,λx B y=>?_⟩;obtain ⟨S2,r2⟩:=yl x B y;refine U E C r B n d _ x _ (S.same S2) r2<|mg _ _ _ _ (λf k v s2=>?_)<|F i _ d (Q7 T) w;refine ⟨r,f,s2,h.m k ⟨?_,λ_ z=>z,?_,?_⟩⟩
  ·exact λa0 w3 P a1 H3 Q W=>⟨P,_,Q.fg K,Zat L<|Zat (Zaz S2) W,w3⟩
  ·exact Zhz (Zat S0<|Zaz S2)
  ·exact λa0 w3 P a1 H3 Q W=>⟨P,_,Q.fg K,Zat L<|Zat (Zaz S2) W,w3⟩
abbrev ZtL(i:Nat)(f:Int->Int->Int)(te:ZE):ZS:=λD c=>zV i c λp=>te c λq=>Zjl p λd=>Zjl q λj=>D.nx<|sset c i<|some<|.val<|.int<|f d j
theorem Zq1{A B:PK'}{ρ:PSt}(f:∀p,A p->B p)(q:zV i ρ A):zV i ρ B:=by
 unfold zV at *
 split at q
 ·exact f _ q
 ·exact q.elim
theorem Zn4{A:PK'}{ρ:PSt}(q:zV i ρ A):∃p,sget ρ i=some (.val p)/\A p:=by
 unfold zV at q
 split at q
 ·exact ⟨_,by assumption,q⟩
 ·exact q.elim
theorem Zq2(i:Nat){w:Operator}{f:Int->Int->Int}(z:PIp X w (ipI f))(J:X.N.Nodup)(h:QE Z X e te)(B:X.N[i]?=some x:=by rfl)(A:Loc X.env.scope x:=by first|exact .inl rfl|exact .inr rfl)(G:X.fn x=true\/X.env.scope.names.lookup x=some .local:=by first|exact .inl rfl|exact .inr rfl|assumption):QS Z X (.AugAssign (.Name x p2) w e pos) (ZtL i f te) :=
 ⟨λD N g l q=>Zq1 (λp k=>h.mo g _ _ (λ_ k=>ZcV (λ_ k=>ZcV (λ_ k=>l.nx _ k) k) k) k) q,λI C=>Zdo (ZiW J B A (h.ok I C) z G) λD Q H ⟨O,g,s,q⟩=>by
  obtain ⟨p,M,q⟩:=Zn4 q;obtain ⟨v,L,r⟩:=s.rel i _ M
  cases r with|val r=>?_
  refine ⟨v,L,O,g,s,h.mo g _ _ (λR k P E n K=>?_) q⟩;obtain ⟨c,rfl,y⟩:=Zb7 k;obtain ⟨d,rfl,F⟩:=Zb7 y;exact ⟨c,d,Zax r,Zax K,F O _ E ((s.same n).set Zb6)<|Zaz n⟩⟩
abbrev ZtM(i:Nat)(te:ZE):ZS:=λD c=>zO i (λl=>te c λp=>l.length<1000/\D.nx (sset c i<|some<|.own<|l++[p])) c
theorem Zc3(i:Nat)(h:QE Z X e te)(M:X.N[i]?=some x:=by rfl)(F:Vis X.env.scope x:=by first | exact .inl rfl | exact .inr (.inl rfl) | exact .inr (.inr rfl))(K:(x==("__debug__" : Str))=false:=by decide) (z:(x==("__classdict__" : Str))=false:=by decide)
    (d:attributeBase (.Name x p3) "append" X.env (eval (.Name x p3) X.env)=eval (.Name x p3) X.env:=by rfl)
    (f:((backTo p2<|starEach [e] X.env).all (λx=>!x.1)&&(backToKw p2<|keywordEach [] X.env).all (λx=>x.1.isSome)&&decide (([e]:List Expr).length+([]:List Keyword).length+(if ([]:List Keyword).isEmpty then 0 else 1)<30))=true:=by rfl)
    (c:(apos.endLine==p2.line)=true:=by rfl) (C:starEach [e] X.env=[(false,eval e X.env)]:=by rfl) (y:swapsWith (.Call (.Attribute (.Name x p3) "append" apos) [e] [] p2) none pos.line X.env=pure false:=by rfl):QS Z X (.Expr (.Call (.Attribute (.Name x p3) "append" apos) [e] [] p2) pos) (ZtM i te) :=
  ⟨λD R w l q=>Zph (λ_ k=>h.mo w _ _ (λ_ k=>⟨k.1,l.nx _ k.2⟩) k) q,λJ I=>Zdo (Zcc (Zqm PySem.F.plainAttrs_list PySem.F.slot_list_append PySem.F.type_list_append ZkQ (ZiU M F K z) (Zaa (h.ok J I) Zae C) d f c C rfl) y) λD P H ⟨O,w,s,q⟩=>by
    obtain ⟨l,A,q⟩:=ZlI q;obtain ⟨a,B,E,m,g,r⟩:=s.ow A;refine ⟨_,E,.inl ⟨rfl,B,.of g⟩,O,w,s,h.mo w _ _ (λp k v Q n N=>?_) q⟩;obtain ⟨G,L⟩:=(s.same n).wr A E (n _ _ g) m<|(r.h n).append<|.cons N .nil;exact ⟨a,B,v,rfl,rfl,n _ _ g,by rw[r.len]; exact ZaR<|Qx k.1,k.2 O P _ G<|Zat (Zaz n) L⟩⟩
end
@[reducible] def ini:List Str->List PV->PSt
 | [],_=>[]
 |_::N,[]=>none::ini N []
 |_::N,v::vs=>some (.val v)::ini N vs
theorem ini_len:∀(N:List Str) (vs:List PV),(ini N vs).length=N.length
 | [],_=>rfl
 |_::N,[]=>congrArg (· + 1)<|ini_len N []
 |_::N,_::vs=>congrArg (· + 1)<|ini_len N vs
theorem ZlL:∀(N:List Str) (i:Nat),sget (ini N []) i=none
 | [],_=>rfl
 |_::_,0=>rfl
 |_::N,i+1=>ZlL N i
theorem ini_get:∀ {N:List Str} {vs:List PV} {i:Nat} {s:Sl},sget (ini N vs) i=some s->∃p,s = .val p/\vs[i]?=some p
 | [],_,_,_,h=>by cases h
 |_::N,[],i,s,h=>by rw[ZlL] at h;cases h
 |_::N,v::vs,0,s,h=>by cases h;exact ⟨v,rfl,rfl⟩
 |_::N,v::vs,i+1,s,h=>ini_get (N:=N) (vs:=vs) (i:=i) h
theorem Ziw{N ps:List Str}{S:ZF}{t:ZS}{body:List Stmt}{vs:List V}{H:Hp}{Q:VK}{E:XK}(c:∀vs Q,S vs Q->vs.length=ps.length)(f:QSs Z X body t)
    (B:ps.length<=N.length) (w:∀vs Q,S vs Q->t ⟨λ_=>Q .non,Q,λ_=>False,λ_=>False⟩ (ini N vs)) (h:liF Z S vs H Q E):∃t,PSs X body t/\t { nx:=λ_ b=>Q .non b,rt:=Q } (L2.start N vs) H:=by
  obtain ⟨O,pv,l,r,q⟩:=h;have J:=r.len;have C:=c _ _ q;refine ⟨_,f.ok H O,O,ini N pv,⟨ZaW,λ_ m=>m,λ_ m => .inl m,l,?_,λi I e=>?_,λi j o m n y _=>?_,λi o a e _=>?_⟩,f.m (w pv _ q) ⟨λG k D A b g F=>k .non b g.ext (by unfold Rep; rfl),λp k v b=>k v b,λ_ z=>z.elim,λ_ z=>z.elim⟩⟩
  · unfold L2.start; rw[Qc,Q0,Wr,ini_len]; omega
  · obtain ⟨p,rfl,x⟩:=ini_get e
    obtain ⟨u,d,s⟩:=r.get x;refine ⟨u,?_,.val s⟩;unfold L2.start;rw[Wd (by rw[Q0]; exact (Qn.mp d).1),Q4,d]; rfl
  · obtain ⟨p,z,_⟩:=ini_get y; cases z
  · obtain ⟨p,z,_⟩:=ini_get e; cases z
theorem Za2{P:Program}{w:World}{K:ZZfg}{g:ZZmg}{base:Heap}{x:Str}{d:Stmt}{k:Nat}{N ps:List Str}{S:ZF}{t:ZS}(n:Here K g x d)(b:∀f i,Fun K x x d f i->Binds K i ps [])(m:FnScope N ps (Zab d))(mo:MoF S)(e:∀vs Q,S vs Q->vs.length=ps.length)
    (body:∀(f:Addr) (c:Value) (A:Around) (a:List Env) (s:Shared) (H:Hp) (E:XK),Room k (A.deeper<|envOfC x (Zab d) s.heap.objs.size f c)->QSs Z (cxX P w K g base N x (Zab d) f c A a s H E) (Za4 d) t)
    (j:ps.length<=N.length) (o:∀vs Q,S vs Q->t ⟨λ_=>Q .non,Q,λ_=>False,λ_=>False⟩ (ini N vs)):Fn P w K g base Z x (k+1) S :=
  ⟨mo,ps,n.hasX b λf i F=>F.okx m (λvs H Q E h=>by
    obtain ⟨O,pv,l,r,q⟩:=h;rw[r.len]; exact e _ _ q) λc A a s H vs Q E p h=>Ziw e (body f c A a s H E p) j o h⟩
variable{P:Program}{w:World}{K:ZZfg}{mg:ZZmg}{base:Heap}
@[irreducible] def num:(κ:KX)->κ.F->PV
 | .q,x => .tup [.int x.num,.int x.den]
 | .r _ _,x => .int x.val
abbrev Zex(κ:KX)(xs:ZZlk κ):PV:=.lst<|xs.map<|num κ
theorem ZcE{O:ZZla}{H:Hp}{κ:KX}{x:κ.F}{v:V}(l:Ls O H)(h:NR κ H v x):Rep Z (hide O H) (num κ x) v:=by
 unfold num
 cases κ with
 |q =>
  obtain ⟨a,rfl,h⟩:=h;have b:a∉O:=λm=>by obtain ⟨d,q⟩:=l a m;rw[h] at q;cases q
  exact rep_t (by rw[hide_out b];exact h)<|.cons Zb6<|.cons Zb6 .nil
 |r p c=>cases h;exact Zb6
theorem Zc4{O:ZZla}{H:Hp}{κ:KX}{x:κ.F}{v:V}(h:Rep Z (hide O H) (num κ x) v):NR κ H v x:=by
 unfold num at h
 cases κ with
 |q =>
  obtain ⟨a,g,rfl,h,r⟩:=rep_tup h;unfold Reps at r;obtain ⟨u,d,rfl,c,r⟩:=r;obtain ⟨f,rfl,b⟩:=r.one;rw[Zax c,Zax b] at h;exact ⟨a,rfl,Zao _ _ h⟩
 |r p e=>exact Zax h
theorem Zf3{O:ZZla}{H:Hp}{κ:KX}{v:V}(h:Rep Z (hide O H) (.kd κ) v):∃a,v = .ref a/\KdX Z.f Z.r κ H a:=by
 unfold Rep at h;obtain ⟨a,e,h⟩:=h;exact ⟨a,e,h.1.same Zao⟩
theorem Zq3{H:Hp}{κ:KX}{v:V}(h:Rep Z H (.kd κ) v):Gd Z H:=by
 unfold Rep at h;obtain ⟨a,e,h⟩:=h;exact h.2
theorem Reps.two{H:Hp}{p q:PV}{us:List V}(h:Reps Z H [p,q] us):∃u v,us=[u,v]/\Rep Z H p u/\Rep Z H q v:=by
 unfold Reps at h;obtain ⟨u,r,e,c,t⟩:=h;obtain ⟨v,b,a⟩:=t.one;exact ⟨u,v,by rw[e,b],c,a⟩
inductive S2 (g:(κ:KX)->κ.F->κ.F->κ.F):ZF
 |mk {Q:PK'} {κ:KX} {x y:κ.F} (h1:B1 κ x) (h2:B1 κ y) (q:Q (num κ (g κ x y))):S2 g [.kd κ,num κ x,num κ y] Q
inductive Snz:ZF
 |mk {Q:PK'} {κ:KX} {x:κ.F} (q:∀b:Bool,(b=true↔x=0)->Q (.bl b)):Snz [.kd κ,num κ x] Q
inductive Zsm:ZF
 |mk {Q:PK'} {κ:KX} {t:Int} (x:κ.F) (h:NumV κ t x) (q:Q (num κ x)):Zsm [.kd κ,.int t] Q
theorem ZpY(p:PV)(A B:Prop)(f:A->B)(h:zKd p A):zKd p B:=by cases p <;> first|exact f h|exact h
theorem Zkc(p:PV)(A:Prop)(h:zKd p A):A:=by cases p <;> first|exact h|exact h.elim
theorem Zkd{p:PV}{A:Prop}(h:zKd p A):∃κ,p = .kd κ:=by cases p <;> first|exact ⟨_,rfl⟩|exact h.elim
theorem mt_2{m:Str}{g:(b:KX)->b.F->b.F->b.F}(h:Zpc P w K mg base Z.f Z.r m g):Mt P w K mg base Z zKd m 2 (S2 g) :=
 ⟨λj A B f ⟨d,c,q⟩=>⟨d,c,f _ q⟩,ZpY,Zkc,λp x H O r I=>by
  obtain ⟨b,rfl⟩:=Zkd I;obtain ⟨a,rfl,y⟩:=Zf3 r;obtain ⟨C,D,E,j,N,U,G,L,W,o,rfl,k⟩:=h b H a y;refine ⟨a,C,D,E,j,_,U,rfl,G,L,W.toX,o,λF M Y Q J S T i=>?_⟩;generalize e:PV.kd b::M=l at i;obtain ⟨d,c,q⟩:=i
  cases e
  obtain ⟨u,v,rfl,R,z⟩:=T.two;exact k F u v _ _ Q J (Zc4 R) (Zc4 z) d c λt s S2 n=>q t s S2<|ZcE (S.same S2) n⟩
theorem mt_m(h:ZqN P w K mg base Z.f Z.r):Mt P w K mg base Z zKd "minus" 3 (S2 λ_ x y=>x-y) :=
 ⟨λg A B f ⟨c,b,q⟩=>⟨c,b,f _ q⟩,ZpY,Zkc,λp x H O r G=>by
  obtain ⟨i,rfl⟩:=Zkd G;obtain ⟨a,rfl,o⟩:=Zf3 r;obtain ⟨C,z,D,g,M,T,F,J,U,k,rfl,j⟩:=h i H a o;refine ⟨a,C,z,D,g,_,T,rfl,F,J,U.toX,k,λE L W Q I R S d=>?_⟩;generalize e:PV.kd i::L=l at d;obtain ⟨c,b,q⟩:=d
  cases e
  obtain ⟨u,v,rfl,N,s⟩:=S.two;exact j E u v _ _ Q I (Zc4 N) (Zc4 s) c b λt m S2 n=>q t m S2<|ZcE (R.same S2) n⟩
def NoughtZ(P:Program)(w:World)(K:ZZfg)(mg:ZZmg)(base:Heap)(CF CR:Addr):Prop :=
 ∀(c:KX) (H:Hp) (s:Addr),KdX CF CR c H s->∃C h f g a e,H s=some (.ins C h f)/\Cls K C/\HasM P w K mg base C "is_nought" 2 g a e/\f.lookup ("is_nought":Str)=none/\a=[] ∧
  ∀(d:Hp) (u:V) (x:c.F) (Q:VK),NR c d u x->(∀b:Bool,(b=true↔x=0)->Q (.bl b) d)->e [.ref s,u] d Q E0
theorem mt_nz(h:NoughtZ P w K mg base Z.f Z.r):Mt P w K mg base Z zKd "is_nought" 2 Snz :=
 ⟨λg A B f ⟨q⟩=>⟨λb e=>f _<|q b e⟩,ZpY,Zkc,λp x H O r v=>by
  obtain ⟨i,rfl⟩:=Zkd v;obtain ⟨a,rfl,m⟩:=Zf3 r;obtain ⟨C,n,o,g,D,G,t,y,I,k,rfl,j⟩:=h i H a m;refine ⟨a,C,n,o,g,_,G,rfl,t,y,I.toX,k,λd z M Q J L F c=>?_⟩;generalize e:PV.kd i::z=l at c;obtain ⟨q⟩:=c
  cases e
  obtain ⟨u,rfl,E⟩:=F.one;exact j d u _ Q (Zc4 E) λb s=>q b s _ d ZaW Zcz⟩
theorem mt_num(h:ZlD P w K mg base Z.f Z.r):Mt P w K mg base Z zKd "number" 3 Zsm :=
 ⟨λd A B f ⟨x,b,q⟩=>⟨x,b,f _ q⟩,ZpY,Zkc,λp x H O r z=>by
  obtain ⟨g,rfl⟩:=Zkd z;obtain ⟨a,rfl,m⟩:=Zf3 r;obtain ⟨C,o,s,d,G,M,y,E,N,j,rfl,i⟩:=h g H a m;refine ⟨a,C,o,s,d,_,M,rfl,y,E,N,j,λv F R Q D J L c=>?_⟩;generalize e:PV.kd g::F=l at c;obtain ⟨x,b,q⟩:=c
  cases e
  obtain ⟨u,rfl,I⟩:=L.one;rw[Zax I];exact i v _ _ Q _ D b λt k S2 n=>q t k S2<|ZcE (J.same S2) n⟩
abbrev Zpl(s:Option Sl):Option Sl:=match s with
 |some (.val p)=>some<|.val p
 |_=>none
@[reducible] def cap:List (Nat×Str)->PSt->PSt
 | [],_=>[]
 |c::r,ρ=>Zpl (sget ρ c.1)::cap r ρ
theorem ZlM:∀(caps:List (Nat×Str)) (ρ:PSt),(cap caps ρ).length=caps.length
 | [],_=>rfl
 |_::r,ρ=>congrArg (· + 1)<|ZlM r ρ
theorem ZlN:∀ {caps:List (Nat×Str)} {ρ:PSt} {i:Nat} {s:Sl},sget (cap caps ρ) i=some s->∃p c,s = .val p/\caps[i]?=some c/\sget ρ c.1=some (.val p)
 | [],_,_,_,h=>by cases h
 |c::r,ρ,0,s,h=>by
  have h:Zpl (sget ρ c.1)=some s:=h;unfold Zpl at h
  split at h
  ·cases h;exact ⟨_,c,rfl,rfl,by assumption⟩
  ·cases h
 |c::r,ρ,i+1,s,h=>ZlN (caps:=r) (i:=i) h
theorem SR.cap{t H f:Hp}{o O:ZZla}{g:L2.St}{ρ:PSt}(h:SR Z t o O H g ρ)(S:Same H f)(caps:List (Nat×Str)):∀ {vs:List V} {ps:List PV},Reps Z (hide O f) ps vs →
    SR Z t o O f (vs.map some++caps.map λp=>(g[p.1]?).join) (ps.map (λp=>some<|.val p)++Zp.cap caps ρ):=fun {vs ps} r=>by
  have E:=r.len;have b:∀(ps:List PV) (vs:List V),Reps Z (hide O f) ps vs->∀i s,sget (ps.map (λp=>some<|.val p)++Zp.cap caps ρ) i=some s->∃p v,s = .val p/\(vs.map some++caps.map λp=>(g[p.1]?).join)[i]?=some (some v)/\Rep Z (hide O f) p v:=by
    intro ps
    induction ps with
    | nil =>
      intro vs r i s e;have:vs=[]:=by unfold Reps at r; exact r
      subst this;obtain ⟨p,c,rfl,C,F⟩:=ZlN (ρ:=ρ) (i:=i) e;obtain ⟨v,k,d⟩:=h.rel _ _ F
      cases d with | val d=>exact ⟨p,v,rfl,by show (List.map _ caps)[i]?=_; rw[Q4,C]; show some ((g[c.1]?).join)=_; rw[k]; rfl,d.h S⟩
    | cons q ps D =>
      intro vs r i s e;unfold Reps at r;obtain ⟨u,A,rfl,y,x⟩:=r
      cases i with
      | zero=>cases e; exact ⟨q,u,rfl,rfl,y⟩
      | succ i=>exact D A x i s e
  refine ⟨Zat h.ext S,h.sub,h.new,h.ls.same S,?_,λi s e=>?_,λi j l m n B _=>?_,λi l a e _=>?_⟩
  · rw[Qc,Qc,Q0,Q0,Q0,ZlM,E]
  · obtain ⟨p,v,rfl,k,d⟩:=b ps vs r i s e; exact ⟨v,k,.val d⟩
  · obtain ⟨p,v,z,_⟩:=b ps vs r i _ B; cases z
  · obtain ⟨p,v,z,_⟩:=b ps vs r i _ e; cases z
inductive Comp (l:List PV) (f:PV->PK'->Prop) (Q:List PV->Prop):Prop
 |mk (r:List PV) (h:r.length=l.length) (hz:l.length<=1000) (hs:∀(i:Nat) p,l[i]?=some p->f p λv=>r[i]?=some v) (q:Q r):Comp l f Q
section
variable{x y:Str}{pos p2 p3 apos:Pos}{a b e elt it tg:Expr}{es:List Expr}{ta tb te:ZE}{t ti:ZA}{scope:Scope}{caps:List (Nat×Str)}
theorem Comp.mo{l:List PV}{f g:PV->PK'->Prop}{A B:List PV->Prop}(h:∀p (C:PK'),f p C->g p C)(k:∀r,A r->B r)(c:Comp l f A):Comp l g B:=let ⟨r,h1,h2,h3,h4⟩:=c;⟨r,h1,h2,λi p e=>h _ _<|h3 i p e,k _ h4⟩
theorem ZlO{J:It}{l:List PV}{F H j:Hp}{E O:ZZla}{A:L2.St}{ρ:PSt}{g:TG}{n:Nat}{Q:VK}(s:SR Z F E O H A ρ)(I:Same H j)(R:Zsk Z O j J l)(me:Mo te){f:PV->PK'->Prop}
    (c:Comp l f λr=>∀a us h,Same H h->H a=none->h a=some (.lst us)->Reps Z (hide (a::O) h) r us->Q (.ref a) h)
    (hg:∀p v d C N,Same j d->Rep Z (hide O d) p v->f p C->(∀q,C q->Up Z O d N q)->g v (st0 n caps A) d λo U=>(∀(i:Nat) v,(st0 n caps A)[i]?=some (some v)->o[i]?=some (some v))/\liE Z F E te o U N) :
    Ze9 n caps g (liE Z F E te) A J j λys d=>∀D,d D=none->Q (.ref D) (upd d D<|.lst ys):=by
  obtain ⟨r,lr,hz,hs,q⟩:=c;refine ⟨λi m ys h=>m=l.length-i/\i<=l.length/\Same j h/\Reps Z (hide O h) (r.take i) ys,⟨_,rfl,Q6 _,ZaW,.nil⟩,?_⟩;rintro i m ys h ⟨rfl,hi,k,z⟩;have ly:ys.length=i:=by rw[z.len,Qi]; omega
  have l1:=ZaR hz;obtain ⟨T,S⟩:=R O h (Zaz k) ((s.ls.same I).same k) i;refine ⟨⋯,?_⟩
  by_cases e:i=l.length
  · refine .inl ⟨T e,nw (Zat I k) q ?_⟩
    rw[e,<-lr,List.take_length] at z; exact z
  · have B:i<l.length:=⋯
    obtain ⟨M,W⟩:=S l[i]<|Q7 B;refine .inr ⟨M,⋯,λv u=>Same j u/\Reps Z (hide O u) (r.take<|i+1) (ys++[v]),λv u ⟨k1,L⟩=>⟨l.length-(i+1),⋯,rfl,B,k1,L⟩,λx d yx=>?_⟩;obtain ⟨S2,r2⟩:=W x d yx;refine hg _ x d _ _ (Zat k S2) r2 (hs i _<|Q7 B) λq eq v u G Y=>⟨Zat k<|Zat S2 G,?_⟩;rw[List.take_add_one,eq];exact (z.h<|Zat S2 G).append<|.cons Y .nil
abbrev zCo(caps:List (Nat×Str))(ti:ZA)(te:ZE):ZA:=λc Q=>ti c λl=>Comp l (λp=>te (some (.val p)::cap caps c)) Q
theorem Zjn{d:Hp}{c:ZZla}(n:Mo ti)(j:Mo te)(m:L2.St)(H:Hp)(Q:VK)(h:liL Z d c (zCo caps ti te) m H Q):ZhZ 1 caps (liI Z d c ti) (Zcm 0) (liE Z d c te) m H Q:=by
 obtain ⟨O,i,s,q⟩:=h;refine ⟨O,i,s,n i _ _ (λl k J A g o=>ZlO s g o j k λp v z C N S2 r f u=>?_) q⟩;exact ⟨ZkX,O,_,s.cap (Zat g S2) caps (vs:=[v]) (ps:=[p])<|.cons r .nil,j _ _ _ u f⟩
theorem Zei(x:Str)(caps:List (Nat×Str))(o:QI Z X (.Name x p2) it ti)(u:∀g d c C,QE Z (ZaD X scope (x::caps.map (·.2)) d c C g) elt te)(n:CapsOk X scope caps:=by repeat (first | exact trivial | refine And.intro ⟨rfl,rfl,by first | exact .inl rfl | exact .inr rfl⟩ ?_))(G:X.calm=true:=by rfl)
    (p:(x::caps.map (·.2)).Nodup:=by decide +kernel)
    (r:(scope.names.all λy=>!(y.2==NameKind.free)||(X.env.cells.lookup y.1).isSome)=true:=by rfl)
    (j:scope.kind = .function:=by rfl) (m:∀y∈scope.names,y.2 ≠ .cell:=by decide +kernel)
    (h:∀y∈scope.names,y.2 = .local->scope.names.lookup y.1=some .local:=by decide +kernel) (F:∀x,foldedSetIterable it X.env x=pure x:=by intro _; rfl)
    (s:∀g d c C,Loc (ZaD X scope (x::caps.map (·.2)) d c C g).env.scope x/\(ZaD X scope (x::caps.map (·.2)) d c C g).env.scope.names.lookup x=some .local:=by exact λ_ _ _ _=>⟨.inl rfl,rfl⟩) :
    QL Z X (.ListComp elt [⟨.Name x p2,it,[],0⟩] scope pos) (zCo caps ti te):=by
  have H:Mo te:=(u [] X.s₀ X.H₀ 0).mo;exact ⟨λE A B f q=>o.mo E _ _ (λl k=>k.mo (λ_ _ z=>z) f) q,λD v=>Zbf (Zgf [x] caps G (o.ok D v) (λg d c C=>ZaL (i:=0) p rfl (s g d c C).1<|.inr (s g d c C).2) (λg d c C=>(u g d c C).ok D v) n r j m h F)<|Zjn o.mo H⟩
theorem Zpm(i:Nat)(x:Str)(caps:List (Nat×Str)){j p4:Pos}(S:X.N.Nodup)(r:QI Z X (.Name x p2) it ti)(G:∀f d c C,QE Z (ZaD X scope (x::caps.map (·.2)) d c C f) elt te)(M:X.N[i]?=some y:=by rfl)(B:X.env.scope.names.lookup y=some .local:=by rfl)(p:CapsOk X scope caps:=by repeat (first | exact trivial | refine And.intro ⟨rfl,rfl,by first | exact .inl rfl | exact .inr rfl⟩ ?_))(hc:X.calm=true:=by rfl)
    (E:(x::caps.map (·.2)).Nodup:=by decide +kernel)
    (A:(scope.names.all λy=>!(y.2==NameKind.free)||(X.env.cells.lookup y.1).isSome)=true:=by rfl)
    (v:swapsWith (.ListComp elt [⟨.Name x p2,it,[],0⟩] scope pos) (some<|.Name y p4) j.line X.env=pure true:=by rfl)
    (m:scope.kind = .function:=by rfl) (o:∀y∈scope.names,y.2 ≠ .cell:=by decide +kernel)
    (h:∀y∈scope.names,y.2 = .local->scope.names.lookup y.1=some .local:=by decide +kernel) (W:∀x,foldedSetIterable it X.env x=pure x:=by intro _; rfl)
    (F:∀f d c C,Loc (ZaD X scope (x::caps.map (·.2)) d c C f).env.scope x/\(ZaD X scope (x::caps.map (·.2)) d c C f).env.scope.names.lookup x=some .local:=by exact λ_ _ _ _=>⟨.inl rfl,rfl⟩) :
    QS Z X (.Assign [.Name y p4] (.ListComp elt [⟨.Name x p2,it,[],0⟩] scope pos) j) (Znb i<|zCo caps ti te):=by
  have Q:Mo te:=(G [] X.s₀ X.H₀ 0).mo;refine ⟨λD D' u l q=>r.mo u _ _ (λls k=>k.mo (λ_ _ z=>z) λ_=>l.nx _) q,λJ I=>Zdo (ZcD [x] caps S M B hc (r.ok J I) (λf d c C=>ZaL (i:=0) E rfl (F f d c C).1<|.inr (F f d c C).2) (λf d c C=>(G f d c C).ok J I) p A v m o h W) λD Y H ⟨O,u,s,q⟩=>Zjn r.mo Q Y H _ ⟨O,u,s,r.mo u _ _ (λls k=>k.mo (λ_ _ z=>z) λl k a us N T n g U=>?_) q⟩⟩;obtain ⟨L,R⟩:=s.own T (i:=i) n g U;exact k _ _ N L R
def ZhS:List PV->List PV->List PV
 |a::l,b::m => .tup [a,b]::ZhS l m
 |_,_=>[]
theorem ZbP:∀(l m:List PV),(ZhS l m).length=min l.length m.length
 | [],[]=>rfl
 | [],_::_=>by simp[ZhS]
 |_::_,[]=>by simp[ZhS]
 |a::l,b::m=>by simp only[ZhS,W7,ZbP l m];omega
theorem ZcW:∀ {l m:List PV} {i:Nat} {p:PV},(ZhS l m)[i]?=some p->∃a b,l[i]?=some a/\m[i]?=some b/\p = .tup [a,b]
 | [],[],i,p,h=>by simp[ZhS] at h
 | [],_::_,i,p,h=>by simp[ZhS] at h
 |_::_,[],i,p,h=>by simp[ZhS] at h
 |a::l,b::m,0,p,h=>by simp only[ZhS] at h;cases h;exact ⟨a,b,rfl,rfl,rfl⟩
 |a::l,b::m,i+1,p,h=>by simp only[ZhS] at h;exact ZcW (l:=l) (m:=m) (i:=i) h
abbrev ZtN(ta tb:ZE):ZA:=λc Q=>ta c λp=>tb c λq=>zL p λl=>zL q λm=>Q<|ZhS l m
theorem Zjo{B:List Expr}{k0}{j p:Pos}(hm:X.mg "zip"=none) (D:QE Z X a ta) (I:QE Z X b tb) (hg:Gl X "zip":= by rfl) (hs:starEach [a,b] X.env=[(false,eval a X.env),(false,eval b X.env)]:=by rfl) (g:starEach [b] X.env=[(false,eval b X.env)]:=by rfl):QI Z X (.Tuple B k0 j) (.Call (.Name "zip" p) [a,b] [] pos) (ZtN ta tb) :=
 ⟨λh _ _ f q=>D.mo h _ _ (λ_ k=>I.mo h _ _ (λ_ k=>Ziv (λ_ k=>Ziv (λ_ k=>f _ k) k) k) k) q,λY W=>Zkb (Zld hg hm (Zaa (D.ok Y W) (Zaa (I.ok Y W) Zae g) (by rw[hs,g])) hs g) λσ H R ⟨O,h,s,q⟩=>⟨O,h,s,D.mo h _ _ (λp k v H1 Q r1=>⟨O,h,s.same Q,I.mo h _ _ (λp' k v' H2 S2 r2=>by
  obtain ⟨l,rfl,k2⟩:=Zfu k;obtain ⟨m,rfl,k3⟩:=Zfu k2;obtain ⟨c,A,rfl,hc,r⟩:=rep_lst r1;obtain ⟨d,o,rfl,hd,U⟩:=rep_lst r2;have n:=Zaz S2 _ _ hc;refine ⟨c,d,rfl,⟨A,.of<|Zao _ _ n⟩,⟨o,.of<|Zao _ _ hd⟩,k3 _ H2 (Zat Q S2) λO3 M C L3 i=>?_⟩;have F:M c=some (.lst A):=Zao _ _<|C _ _ n;have G:M d=some (.lst o):=Zao _ _<|C _ _ hd;have lr:=r.len;have a0:=U.len;refine ⟨λe=>⟨A,o,.of F,.of G,by rw[ZbP] at e;omega⟩,λp hp=>?_⟩;obtain ⟨x,y,hx,hy,rfl⟩:=ZcW hp;obtain ⟨u,L,ru⟩:=r.get hx;obtain ⟨v,J,rv⟩:=U.get hy;refine ⟨⟨A,o,u,v,.of F,.of G,L,J⟩,λz H4 ⟨T,nT,ez,x',y',ex,ey,eH⟩=>?_⟩;have N:=ex A<|.of F;have S:=ey o<|.of G;rw[L] at N;cases N;rw[J] at S;cases S;subst ez eH;have E:=Zal nT<|HO.tup [u,v];exact ⟨E,rep_t (by rw[hide_out<|L3.new nT];exact Zah)<|.cons (((ru.h S2).same C).h E)<|.cons ((rv.same C).h E) .nil⟩) k⟩) q⟩⟩
abbrev gT(i j:Nat):ZG:=λp c k=>match p with
 | .tup [a,b]=>k<|sset (sset c i<|some<|.val a) j<|some<|.val b
 |_=>False
theorem Zn5{i j:Nat}{p:PV}{ρ:PSt}{k:PSt->Prop}(h:gT i j p ρ k):∃a b,p = .tup [a,b]/\k (sset (sset ρ i<|some<|.val a) j<|some<|.val b):=by
 unfold gT at h
 split at h
 ·exact ⟨_,_,rfl,h⟩
 ·exact h.elim
theorem ZtO(i j:Nat){k:Nat}(m:X.N.Nodup)(E:X.N[i]?=some x:=by rfl)(C:X.N[j]?=some y:=by rfl)(z:Loc X.env.scope x:=by first | exact .inl rfl | exact .inr rfl)(o:Loc X.env.scope y:=by first | exact .inl rfl | exact .inr rfl)(G:X.fn x=true\/X.env.scope.names.lookup x=some .local:=by first | exact .inl rfl | exact .inr rfl | assumption)(h:X.fn y=true\/X.env.scope.names.lookup y=some .local:=by first | exact .inl rfl | exact .inr rfl | assumption)(l:X.calm=true:=by rfl)
    (J:(assignEach [.Name x p2,.Name y p3] X.env).map (·.2)=assign (.Name x p2) X.env::(assignEach [.Name y p3] X.env).map (·.2):=by rfl) (d:(assignEach [.Name y p3] X.env).map (·.2)=assign (.Name y p3) X.env::(assignEach [] X.env).map (·.2):=by rfl)
    (F:(assignEach [.Name x p2,.Name y p3] X.env).length=2:=by rfl) (g:(assignEach [.Name x p2,.Name y p3] X.env).findIdx? (·.1)=none:=by rfl):QG Z X (.Tuple [.Name x p2,.Name y p3] k pos) (gT i j) :=
  ⟨λp I A B f q=>by obtain ⟨a,b,rfl,k⟩:=Zn5 q; exact f _ k,_,ZfT l (Zbp (ZaL m E z G) (Zbp (ZaL m C o h) Zej d) J) F g,λM L O H R I p v Q s r q=>by
    obtain ⟨a,b,rfl,k⟩:=Zn5 q;obtain ⟨c,N,rfl,l,r⟩:=rep_tup r;obtain ⟨u,v,rfl,D,n⟩:=r.two;exact ⟨c,[u,v],rfl,.of<|Zao _ _ l,rfl,u,[v],rfl,v,[],rfl,rfl,k _<|(s.set D).set n⟩⟩
abbrev Zq4(l:List PV)(f:Int->Int->Prop):Prop:=match l with
 | [.int i,.int j]=>f i j
 |_=>False
theorem Zjp{l:List PV}{f:Int->Int->Prop}(h:Zq4 l f):∃i j,l=[.int i,.int j]/\f i j:=by
 unfold Zq4 at h
 split at h
 ·exact ⟨_,_,rfl,h⟩
 ·exact h.elim
theorem Zq5{f:Int->Int->Int}:LC Z (λxs H Q=>∃i j,xs=[.int i,.int j]/\Q (.int<|f i j) H) (λl Q=>Zq4 l λi j=>Q<|.int<|f i j) :=
 ⟨λp A B g h=>by obtain ⟨i,j,rfl,k⟩:=Zjp h;exact g _ k,λO H p x Q _ r h=>by
  obtain ⟨i,j,rfl,k⟩:=Zjp h;obtain ⟨u,v,rfl,d,c⟩:=r.two;exact ⟨i,j,by rw[Zax d,Zax c],k _ H ZaW Zb6⟩⟩
theorem ZlP{p:Pos}(k:X.mg "max"=none) (h:QE Z X a ta) (m:QE Z X b tb) (g:Gl X "max":= by rfl) (n:X.calm=true:=by rfl) (f:starEach [a,b] X.env=(false,eval a X.env)::starEach [b] X.env:=by rfl) (d:starEach [b] X.env=[(false,eval b X.env)]:=by rfl) (c:(backTo pos<|starEach [b] X.env).any (·.1)=false:=by rfl):QE Z X (.Call (.Name "max" p) [a,b] [] pos) (Zit (λl Q=>Zq4 l λi j=>Q<|.int (if j>i then j else i))<|Zdn ta<|Zdn tb Zm4) :=
 Ziu Zq5 (ZkE n) g k PyProof.Rows.Boot.«max» (Zbt h (Zbt m ZbB d) f) ∅ ∅ f c
theorem Zn6{p:Pos}(k:X.mg "min"=none) (h:QE Z X a ta) (m:QE Z X b tb) (g:Gl X "min":= by rfl) (n:X.calm=true:=by rfl) (f:starEach [a,b] X.env=(false,eval a X.env)::starEach [b] X.env:=by rfl) (d:starEach [b] X.env=[(false,eval b X.env)]:=by rfl) (c:(backTo pos<|starEach [b] X.env).any (·.1)=false:=by rfl):QE Z X (.Call (.Name "min" p) [a,b] [] pos) (Zit (λl Q=>Zq4 l λi j=>Q<|.int (if j<i then j else i))<|Zdn ta<|Zdn tb Zm4) :=
 Ziu Zq5 (ZkF n) g k PyProof.Rows.Boot.«min» (Zbt h (Zbt m ZbB d) f) ∅ ∅ f c
abbrev ZtP(i:Nat)(te:ZE):ZS:=λD c=>zO i (λl=>te c λp=>zL p λm=>l.length+m.length<=1000/\D.nx (sset c i<|some<|.own<|l++m)) c
theorem Zq6(i:Nat)(h:QE Z X e te)(S:X.N[i]?=some x:=by rfl)(G:Vis X.env.scope x:=by first | exact .inl rfl | exact .inr (.inl rfl) | exact .inr (.inr rfl))(Q:(x==("__debug__" : Str))=false:=by decide) (z:(x==("__classdict__" : Str))=false:=by decide)
    (d:attributeBase (.Name x p3) "extend" X.env (eval (.Name x p3) X.env)=eval (.Name x p3) X.env:=by rfl)
    (f:((backTo p2<|starEach [e] X.env).all (λx=>!x.1)&&(backToKw p2<|keywordEach [] X.env).all (λx=>x.1.isSome)&&decide (([e]:List Expr).length+([]:List Keyword).length+(if ([]:List Keyword).isEmpty then 0 else 1)<30))=true:=by rfl)
    (c:(apos.endLine==p2.line)=true:=by rfl) (E:starEach [e] X.env=[(false,eval e X.env)]:=by rfl) (u:swapsWith (.Call (.Attribute (.Name x p3) "extend" apos) [e] [] p2) none pos.line X.env=pure false:=by rfl):QS Z X (.Expr (.Call (.Attribute (.Name x p3) "extend" apos) [e] [] p2) pos) (ZtP i te) :=
  ⟨λD D' o l q=>Zph (λ_ k=>h.mo o _ _ (λ_ k=>Ziv (λ_ k=>⟨k.1,l.nx _ k.2⟩) k) k) q,λM J=>Zdo (Zcc (Zqm PySem.F.plainAttrs_list PySem.F.slot_list_extend PySem.F.type_list_extend ZkS (ZiU S G Q z) (Zaa (h.ok M J) Zae E) d f c E rfl) u) λD W H ⟨O,o,s,q⟩=>by
    obtain ⟨l,B,q⟩:=ZlI q;obtain ⟨a,C,F,m,g,r⟩:=s.ow B;refine ⟨_,F,.inl ⟨rfl,C,.of g⟩,O,o,s,h.mo o _ _ (λp k v Y j U=>?_) q⟩;obtain ⟨n,rfl,L,k⟩:=Zfu k;obtain ⟨b,T,rfl,N,A⟩:=rep_lst U;obtain ⟨I,R⟩:=(s.same j).wr B F (j _ _ g) m<|(r.h j).append A;exact ⟨a,b,C,T,rfl,rfl,j _ _ g,Zao _ _ N,by rw[r.len,A.len]; exact Qx<|ZaR L,k O W _ I<|Zat (Zaz j) R⟩⟩
end
end Zp
namespace My
open PySem L2 PyProof.Rows
end My
namespace My
end My
namespace My
open PySem L2 PyProof.Rows
section
variable{κ:KX}
noncomputable def Zsn(f v:Nat->κ.F):Nat->κ.F
 |0=>0
 |m+1=>Zsn f v m+f m*v m
theorem ZlQ{f v:Nat->κ.F}:∀ {m},(∀j<m,f j*v j=0)->Zsn f v m=0
 |0,_=>rfl
 |m+1,h=>by
  show Zsn f v m+f m*v m=0;rw[ZlQ λj a=>h j ⋯,h m ⋯];grind
end
end My
namespace L2
open PySem PySem.Spec PyProof.Rows
end L2
namespace My
open PySem L2 PyProof.Rows
section
variable{κ:KX}
def QN(κ:KX)(D:Int)(M:Nat)(x:κ.F):Prop:=match κ with
 | .q=>∃X:Int,x=Rat.divInt X D/\X.natAbs<=M
 | .r _ _=>True
theorem QN.mono{D:Int}{M N:Nat}{x:κ.F}(h:QN κ D M x)(l:M<=N):QN κ D N x:=by
 cases κ with
 |r p b=>exact trivial
 |q=>obtain ⟨X,e,a⟩:=h;exact ⟨X,e,Q1 a l⟩
theorem QN.mul{D E:Int}{M N:Nat}{x y:κ.F}(h:QN κ D M x)(g:QN κ E N y):QN κ (D*E) (M*N) (x*y):=by
 cases κ with
 |r p c=>exact trivial
 |q =>
  obtain ⟨X,rfl,a⟩:=h;obtain ⟨Y,rfl,b⟩:=g;exact ⟨X*Y,Ug _ _,by rw[Qs];exact Wx a b⟩
theorem QN.add{D:Int}(a:0<D){M N:Nat}{x y:κ.F}(h:QN κ D M x)(g:QN κ D N y):QN κ D (M+N) (x+y):=by
 cases κ with
 |r p d=>exact trivial
 |q =>
  obtain ⟨X,rfl,b⟩:=h;obtain ⟨Y,rfl,c⟩:=g;refine ⟨X+Y,?_,Q1 (Int.natAbs_add_le X Y)<|Nat.add_le_add b c⟩;show Rat.divInt X D+Rat.divInt Y D=_;rw[Rat.divInt_add_divInt _ _ ⋯ ⋯,W4 (Int.ne_of_gt<|W2 a a) ⋯,<-Int.add_mul,Qt]
theorem QN.zero{D:Int}{M:Nat}:QN κ D M 0:=by
 cases κ with
 |r p a=>exact trivial
 |q=>exact ⟨0,(Rat.zero_divInt D).symm,Q6 _⟩
theorem QN.b1{D:Int}(a:0<D)(e:D.natAbs<2^3000){M:Nat}(d:M<2^3000){x:κ.F}(h:QN κ D M x):B1 κ x:=by
 cases κ with
 |r p g=>exact trivial
 |q =>
  obtain ⟨X,rfl,b⟩:=h;obtain ⟨c,f⟩:=Zd9 X a;refine ⟨?_,?_⟩
  ·show Bits 1000000 (Rat.divInt X D).num;exact Zjc f ((Bits.of (n:=3000)<|Qq b d).up ∅)<|Zjd X a
  ·show Bits 4000 ((Rat.divInt X D).den:Int);exact Zjc c ((Bits.of (n:=3000) e).up ∅)<|λz=>⋯
theorem Zs2{t b:Int}(c:1<=b)(h:b<=4)(a:t.natAbs<=9):QN .q 12 108 (Rat.divInt t b):=by
 rcases (by omega:b=1\/b=2\/b=3\/b=4) with rfl|rfl|rfl|rfl
 ·exact ⟨t*12,by rw[W4 ∅ ∅];omega,⋯⟩
 ·exact ⟨t*6,by rw[W4 ∅ ∅];omega,⋯⟩
 ·exact ⟨t*4,by rw[W4 ∅ ∅];omega,⋯⟩
 ·exact ⟨t*3,by rw[W4 ∅ ∅];omega,⋯⟩
noncomputable def pI(F G:ZZlk κ)(i:Nat):Nat->Nat->κ.F
 |0,_=>0
 |j+1,k=>pI F G i j k+(if i+j=k then F.getD i 0*G.getD j 0 else 0)
noncomputable def pO(F G:ZZlk κ):Nat->Nat->κ.F
 |0,_=>0
 |i+1,k=>pO F G i k+pI F G i G.length k
noncomputable def ZeQ(F G:ZZlk κ)(i j:Nat):ZZlk κ:=(List.range<|F.length+G.length).map λk=>pO F G i k+pI F G i j k
theorem Zca(F G:ZZlk κ)(i j:Nat):(ZeQ F G i j).length=F.length+G.length:=by unfold ZeQ;simp
theorem Zjq{F G:ZZlk κ}{i j k:Nat}(h:k<F.length+G.length):(ZeQ F G i j).getD k 0=pO F G i k+pI F G i j k:=by
 unfold ZeQ;rw[Q3,Q4,Qj h];rfl
theorem Zfw{F G:ZZlk κ}{i j k:Nat}(h:k<(ZeQ F G i j).length):(ZeQ F G i j)[k]=pO F G i k+pI F G i j k:=by simp[ZeQ]
theorem add00{κ:KX}:(0:κ.F)+0=0:=by grind
theorem Zq7(F G:ZZlk κ):ZeQ F G 0 0=List.replicate (F.length+G.length) 0:=by
 apply List.ext_getElem (by rw[Zca,Wr])
 intro k b a;rw[Zfw,List.getElem_replicate];exact add00
theorem Znc(F G:ZZlk κ)(i:Nat):ZeQ F G i G.length=ZeQ F G (i+1) 0:=by
 unfold ZeQ
 congr 1
 funext k
 show pO F G i k+pI F G i G.length k=(pO F G i k+pI F G i G.length k)+0;grind
theorem ZlR{F G:ZZlk κ}{i j:Nat}(a:i<F.length)(d:j<G.length):ZeQ F G i (j+1)=(ZeQ F G i j).set (i+j) ((ZeQ F G i j).getD (i+j) 0+F.getD i 0*G.getD j 0):=by
 rw[Zjq ⋯]
 apply List.ext_getElem (by rw[We,Zca,Zca])
 intro k c b;rw[List.getElem_set,Zfw,Zfw];show pO F G i k+(pI F G i j k+(if i+j=k then F.getD i 0*G.getD j 0 else 0))=_
 by_cases e:i+j=k
 ·subst e;rw[if_pos rfl,if_pos rfl];grind
 ·rw[if_neg e,if_neg e];grind
theorem Zpn{F G:ZZlk κ}{D E:Int}{M N:Nat}(c:0<D*E)(g:∀x∈F,QN κ D M x)(f:∀x∈G,QN κ E N x)(i:Nat)(d:i<F.length):∀(j k:Nat),j<=G.length->QN κ (D*E) (j*(M*N)) (pI F G i j k)
 |0,k,_=>QN.zero
 |j+1,k,h=>by
  have l:=Zpn c g f i d j k ⋯;have e:(j+1)*(M*N)=j*(M*N)+M*N:=U3 _ _;rw[e];refine QN.add c l ?_
  split
  ·have a:F.getD i 0∈F:=by rw[Q3,Q7 d];exact Wl d
   have b:G.getD j 0∈G:=by rw[Q3,Q7 (show j<G.length by omega)];exact Wl _
   exact QN.mul (g _ a)<|f _ b
  ·exact QN.zero
theorem Zpo{F G:ZZlk κ}{D E:Int}{M N:Nat}(a:0<D*E)(c:∀x∈F,QN κ D M x)(b:∀x∈G,QN κ E N x):∀(i k:Nat),i<=F.length->QN κ (D*E) (i*(G.length*(M*N))) (pO F G i k)
 |0,k,_=>QN.zero
 |i+1,k,h=>by
  have e:(i+1)*(G.length*(M*N))=i*(G.length*(M*N))+G.length*(M*N):=U3 _ _;rw[e];exact QN.add a (Zpo a c b i k ⋯)<|Zpn a c b i ⋯ _ k<|Q2 _
theorem Zpp{F G:ZZlk κ}{D E:Int}{M N:Nat}(c:0<D*E)(e:∀x∈F,QN κ D M x)(d:∀x∈G,QN κ E N x){i j:Nat}(h:i<F.length)(g:j<=G.length):∀x∈ZeQ F G i j,QN κ (D*E) (F.length*(G.length*(M*N))) x:=λx f=>by
 unfold ZeQ at f;obtain ⟨k,_,rfl⟩:=Wy.mp f;refine (QN.add c (Zpo c e d i k ⋯)<|Zpn c e d i h j k g).mono ?_;have a:j*(M*N)<=G.length*(M*N):=Ql _ g;have b:(i+1)*(G.length*(M*N))<=F.length*(G.length*(M*N)):=Ql _ h;rw[U3] at b;omega
theorem Zq8{F G:ZZlk κ}{i k:Nat}:∀ {j:Nat},i+j<=k->pI F G i j k=0
 |0,_=>rfl
 |j+1,h=>by
  show pI F G i j k+(if i+j=k then F.getD i 0*G.getD j 0 else 0)=0;rw[Zq8 ⋯,if_neg ⋯];exact add00
theorem Zq9{F G:ZZlk κ}{k:Nat}:∀ {i:Nat},i+G.length<=k+1->pO F G i k=0
 |0,_=>rfl
 |i+1,h=>by
  show pO F G i k+pI F G i G.length k=0;rw[Zq9 ⋯,Zq8 ⋯];exact add00
theorem ZlS{F G:ZZlk κ}{k:Nat}(h:F.length+G.length<=k+1):pO F G F.length k=0:=Zq9 h
end
theorem Zke{p:Int}(h:p=2\/p=3\/p=5\/p=7\/p=11\/p=97):M2.Prm p:=by
 refine ⟨⋯,λd b g c=>?_⟩;have f:d<10:=by
  refine Uq λz=>?_;have:=M2.sq_mono (a:=10) ⋯ z;omega
 have e:=U2 c;have i:=M2.sq_mono (a:=2) ⋯ b;rcases (by omega:d=2\/d=3\/d=4\/d=5\/d=6\/d=7\/d=8\/d=9) with rfl|rfl|rfl|rfl|rfl|rfl|rfl|rfl <;> omega
theorem Zso(c:Int):∃m:Int,atI [V.int 2,V.int 3,V.int 5,V.int 7,V.int 11,V.int 97] (c/3%6)=some (.int m)/\PK m:=by
 rcases (by omega:c/3%6=0\/c/3%6=1\/c/3%6=2\/c/3%6=3\/c/3%6=4\/c/3%6=5) with e|e|e|e|e|e <;> rw[e]
 ·exact ⟨2,rfl,.inr ⟨Zke ⋯,∅⟩⟩
 ·exact ⟨3,rfl,.inr ⟨Zke ⋯,∅⟩⟩
 ·exact ⟨5,rfl,.inr ⟨Zke ⋯,∅⟩⟩
 ·exact ⟨7,rfl,.inr ⟨Zke ⋯,∅⟩⟩
 ·exact ⟨11,rfl,.inr ⟨Zke ⋯,∅⟩⟩
 ·exact ⟨97,rfl,.inr ⟨Zke ⋯,∅⟩⟩
inductive ZdT (vs:List V) (H:Hp) (Q:VK) (zE:XK):Prop
 |mk (n:Int) (_:vs=[.int n]) (_:2<=n) (_:n<=999983) (_:∀p:Int,PK p->Q (.int p) H):ZdT vs H Q zE
inductive ZcX (vs:List V) (H:Hp) (Q:VK) (zE:XK):Prop
 |mk (c:Int) (_:vs=[.int c]) (_:∀(H':Hp) (p:Int),Same H H'->PK p->Q (.int p) H'):ZcX vs H Q zE
inductive ZbN (vs:List V) (H:Hp) (Q:VK) (zE:XK):Prop
 |mk (κ:KX) (t:Int) (x:κ.F) (_:vs=[.int κ.P,.int t]) (_:NumV κ t x) (_:∀H' v,Same H H'->NR κ H' v x->Q v H'):ZbN vs H Q zE
inductive Zdp (vs:List V) (H:Hp) (Q:VK) (zE:XK):Prop
 |mk (κ:KX) (u:V) (x:κ.F) (_:vs=[.int κ.P,u]) (_:NR κ H u x) (_:Q (.bl true) H):Zdp vs H Q zE
theorem Zn7{p:Prop}[Decidable p]{Q:V->Hp->Prop}{H:Hp}(h:p)(k:Q (.bl true) H):Q (.bl<|decide p) H:=by rw[decide_eq_true h];exact k
theorem Znd{n:Nat}(h:1<=n):ixN n (-1)=some (n-1):=by
 unfold ixN;rw[if_neg ∅,if_pos ⋯]
 congr 1
 omega
theorem ZdU{κ:KX}{l:ZZlk κ}{i:Nat}(h:i<l.length):l[i]?=some (l.getD i 0):=by
 rw[Q3,Q7 h];rfl
theorem Zfx{κ:KX}{H:Hp}{xs:List V}{f:ZZlk κ}(h:AllG (NR κ H) xs f){i:Nat}(a:i<f.length):∃v,xs[i]?=some v/\NR κ H v (f.getD i 0):=by
 obtain ⟨v,b⟩:=Zd4 (ZdU a) h.1.symm;obtain ⟨x,c,d⟩:=h.get b;rw[ZdU a] at c
 cases c
 exact ⟨v,b,d⟩
inductive Zey (vs:List V) (H:Hp) (Q:VK) (zE:XK):Prop
 |mk (c j:Int) (_:vs=[.int c,.int j]) (_:j.natAbs<=1000) (_:∀m:Int,Q (.int m) H):Zey vs H Q zE
inductive ZdV (vs:List V) (H:Hp) (Q:VK) (zE:XK):Prop
 |mk (κ:KX) (c:Int) (_:vs=[.int κ.P,.int c]) (_:∀H' v (x:κ.F),Same H H'->NR κ H' v x->QN κ 12 108 x->Q v H'):ZdV vs H Q zE
inductive ZgN (vs:List V) (H:Hp) (Q:VK) (zE:XK):Prop
 |mk (κ:KX) (a:Addr) (xs:List V) (g:ZZlk κ) (_:vs=[.int κ.P,.ref a]) (_:H a=some (.lst xs)) (_:AllG (NR κ H) xs g) (_:∀(H':Hp) (D:Addr) (r:Nat),Same H H'->H' D=some (.lst (xs.take r))->r<=g.length->(∀j,r<=j->g.getD j 0=0)->(r=0\/g.getD (r-1) 0≠0)->(D=a\/H D=none)->Q (.ref D) H'):ZgN vs H Q zE
inductive Zcj (vs:List V) (H:Hp) (Q:VK) (zE:XK):Prop
 |mk (κ:KX) (fa ga:Addr) (xs ys:List V) (F G:ZZlk κ) (D E:Int) (M N:Nat) (_:vs=[.int κ.P,.ref fa,.ref ga]) (_:H fa=some (.lst xs)) (_:H ga=some (.lst ys)) (_:AllG (NR κ H) xs F) (_:AllG (NR κ H) ys G) (_:F.length<=100) (_:G.length<=100) (_:(∀x∈F,QN κ D M x)) (_:(∀x∈G,QN κ E N x)) (_:0<D) (_:0<E) (_:(D.natAbs<2^3000/\E.natAbs<2^3000/\M<2^3000/\N<2^3000/\(D*E).natAbs<2^3000)) (_:F.length*(G.length*(M*N))<2^3000) (_:∀(H':Hp) (R:Addr) (zs:List V) (r:Nat),Same H H'->H' R=some (.lst zs)->AllG (NR κ H') zs ((ZeQ F G F.length 0).take r)->r<=F.length+G.length->(∀j,r<=j->(ZeQ F G F.length 0).getD j 0=0)->(r=0\/(ZeQ F G F.length 0).getD (r-1) 0≠0)->H R=none->Q (.ref R) H'):Zcj vs H Q zE
theorem Zne{κ:KX}{H:Hp}{xs:List V}{f:ZZlk κ}(h:AllG (NR κ H) xs f)(r:Nat):AllG (NR κ H) (xs.take r) (f.take r):=by
 obtain ⟨l,h⟩:=h;refine ⟨by rw[Qi,Qi,l],λi v d a b=>?_⟩;rw[Wh] at a b
 by_cases c:i<r
 ·rw[if_pos c] at a b;exact h i v d a b
 ·rw[if_neg c] at a;cases a
section
variable{κ:KX}
noncomputable def Zjr(f g:ZZlk κ):Nat->κ.F
 |0=>0
 |k+1=>Zjr f g k+f.getD k 0*g.getD k 0
noncomputable def Zpq(f g:ZZlk κ):κ.F:=Zjr f g f.length
theorem ZlT{f g:ZZlk κ}{i:Nat}{x y:κ.F}(b:f[i]?=some x)(a:g[i]?=some y):Zjr f g (i+1)=Zjr f g i+x*y:=by
 show Zjr f g i+f.getD i 0*g.getD i 0=_;rw[Q3,Q3,b,a];rfl
end
theorem Zjs{x:Rat}{A:Int}(a:0<A)(h:(x.den:Int) ∣ A):x=Rat.divInt (x.num*(A/x.den)) A:=by
 have b:=(Zbj x).pos;obtain ⟨c,rfl⟩:=h;rw[Int.mul_ediv_cancel_left c ⋯];have:Rat.divInt x.num x.den=Rat.divInt (x.num*c) (x.den*c):=by
  rw[W4 ⋯ ⋯];rw[Qt,W0 c]
 rw[<-this,Qu]
theorem Zix{X Y D:Int}(a:0<D):Rat.divInt X D+Rat.divInt Y D=Rat.divInt (X+Y) D:=by
 rw[Rat.divInt_add_divInt _ _ ⋯ ⋯,W4 (Int.ne_of_gt<|W2 a a) ⋯,<-Int.add_mul,Qt]
def tS(f g:List Rat)(A C:Int):Nat->Int
 |0=>0
 |k+1=>tS f g A C k+(f.getD k 0).num*(A/(f.getD k 0).den)*(g.getD k 0).num*(C/(g.getD k 0).den)
theorem Zn8{f g:List Rat}{A C:Int}(d:0<A)(c:0<C)(e:∀x∈f,(x.den:Int) ∣ A)(h:∀x∈g,(x.den:Int) ∣ C):∀k,k<=f.length->k<=g.length->Rat.divInt (tS f g A C k) (A*C)=Zjr (κ:=.q) f g k
 |0,_,_=>Rat.zero_divInt _
 |k+1,h1,h2=>by
  have a:f.getD k 0∈f:=by rw[Q3,Q7 (show k<f.length by omega)];exact Wl _
  have b:g.getD k 0∈g:=by rw[Q3,Q7 (show k<g.length by omega)];exact Wl _
  have m:=Zn8 d c e h k ⋯ ⋯;have j:=Zjs d<|e _ a;have l:=Zjs c<|h _ b;have i:(f.getD k 0)*(g.getD k 0)=Rat.divInt ((f.getD k 0).num*(A/(f.getD k 0).den)*(g.getD k 0).num*(C/(g.getD k 0).den)) (A*C):=by
   conv=>lhs;rw[j,l]
   rw[Ug,<-Qt]
  show Rat.divInt (tS f g A C k+_) (A*C)=Zjr (κ:=.q) f g k+(f.getD k 0:Rat)*(g.getD k 0:Rat);rw[<-Zix (W2 d c),m,i]
def W60(f:List Rat):Prop:=∀x∈f,x.num.natAbs<=10^500/\x.den<=10^200
inductive Zck (vs:List V) (H:Hp) (Q:VK) (zE:XK):Prop
 |mk (s:Addr) (t b:Int) (_:vs=[.ref s,.int t,.int b]) (_:0<b) (_:b.natAbs<=10^1000) (_:∀(r:Addr) (x y:Int),H r=none->Fc x y->x*b=t*y->Q (.ref r) (upd H r (.tup [.int x,.int y]))):Zck vs H Q zE
inductive ZgO (CF:Addr) (vs:List V) (H:Hp) (Q:VK) (zE:XK):Prop
 |mk (s r1 r2:Addr) (xs ys:List V) (f g:List Rat) (B C:Int) (_:vs=[.ref s,.ref r1,.ref r2]) (_:FrA CF H s) (_:H r1=some (.lst xs)) (_:H r2=some (.lst ys)) (_:AllG (NR .q H) xs f) (_:AllG (NR .q H) ys g) (_:f.length=g.length) (_:f.length<=100) (_:W60 f) (_:W60 g) (_:0<B) (_:B.natAbs<=10^200) (_:(∀x∈f,((Rat.den x:Nat):Int) ∣ B)) (_:0<C) (_:C.natAbs<=10^200) (_:(∀x∈g,((Rat.den x:Nat):Int) ∣ C)) (_:∀H' v,Same H H'->NR .q H' v (Zpq (κ:=.q) f g)->Q v H'):ZgO CF vs H Q zE
inductive ZgP (CR:Addr) (vs:List V) (H:Hp) (Q:VK) (zE:XK):Prop
 |mk (p:Nat) (hp:PrN p) (s r1 r2:Addr) (xs ys:List V) (f g:List (KX.r p hp).F) (_:vs=[.ref s,.ref r1,.ref r2]) (_:ReA CR p H s) (_:H r1=some (.lst xs)) (_:H r2=some (.lst ys)) (_:AllG (NR (.r p hp) H) xs f) (_:AllG (NR (.r p hp) H) ys g) (_:f.length=g.length) (_:f.length<=100) (_:∀H' v,Same H H'->NR (.r p hp) H' v (Zpq f g)->Q v H'):ZgP CR vs H Q zE
def ZlU(P:Program)(w:World)(K:ZZfg)(m:ZZmg)(base:Heap)(CF CR:Addr):Prop :=
 ∀(a:KX) (H:Hp) (s:Addr),KdX CF CR a H s->∃C o l n d i,H s=some (.ins C o l)/\Cls K C/\HasM P w K m base C "sum_of_products" 3 n d i/\l.lookup ("sum_of_products":Str)=none/\d=[] ∧
  ∀(b:Hp) (j h:Addr) (k e:List V) (f g:ZZlk a) (D E M N:Nat) (Q:VK),Same H b->b j=some (.lst k)->b h=some (.lst e)->AllG (NR a b) k f->AllG (NR a b) e g->f.length=g.length->f.length<=100->(∀x∈f,QN a (D:Int) M x)->(∀x∈g,QN a (E:Int) N x)->0<D->D<=10^200->0<E->E<=10^200->M<=10^500->N<=10^500->(∀c v,Same b c->NR a c v (Zpq f g)->Q v c)->i [.ref s,.ref j,.ref h] b Q E0
theorem Zn9{D M:Nat}(j:0<D)(i:D<=10^200)(g:M<=10^500){f:List Rat}(h:∀x∈f,QN .q (D:Int) M x):W60 f/\∀x∈f,((Rat.den x:Nat):Int) ∣ (D:Int):=by
 refine ⟨λx a=>?_,λx a=>?_⟩
 ·obtain ⟨X,e,b⟩:=h x a;have e:x=Rat.divInt X D:=e;obtain ⟨c,d⟩:=Zd9 X (show (0:Int)<(D:Int) by omega);rw[<-e] at c d;refine ⟨?_,?_⟩
  ·by_cases z:X=0
   ·have:=Zjd X (show (0:Int)<(D:Int) by omega) z;rw[<-e] at this;rw[this];exact Q6 _
   ·exact Q1 (Zbh d z) (Q1 b g)
  ·have:=Zbh c (show (D:Int)≠0 by omega);rw[Qk,Qk] at this;omega
 ·obtain ⟨X,e,b⟩:=h x a;have e:x=Rat.divInt X D:=e;rw[e];exact (Zd9 X (show (0:Int)<(D:Int) by omega)).1
theorem Zed{n i:Nat}(h:n<=10^i)(a:i<=1000:=by decide):n<=10^1000:=Q1 h<|W5 ∅ a
theorem ZdC{n i:Nat}(h:n<=10^i)(a:i<=2000:=by decide):n<=10^2000:=Q1 h<|W5 ∅ a
theorem Zoa:10^2000<2^8000:=by decide +kernel
theorem Zpr{i j:Int}(h:i.natAbs<=10^2000)(h':j.natAbs<=10^2000):IntMulOk i j :=
 .of_bits (Q1 (ZdI (n:=8000)<|Qq h Zoa) ∅) (Q1 (ZdI (n:=8000)<|Qq h' Zoa) ∅)
theorem Zsp{a b:Int}{i j:Nat}(c:a.natAbs<=10^i)(d:b.natAbs<=10^j):(a*b).natAbs<=10^(i+j):=by
 rw[Qs,Wf];exact Wx c d
theorem Zob{A b:Int}:(A/b).natAbs<=A.natAbs:=Int.natAbs_ediv_le_natAbs A b
end My
namespace Zp
open My
open PySem L2 PyProof.Rows
variable{Z:Zc}{X:Cx}
section
variable{x y m:Str}{pos p2 p3 p4 apos:Pos}{a b c e elt it tg o:Expr}{es:List Expr}{ta tb tc te:ZE}{t ti:ZA}{scope:Scope}{caps:List (Nat×Str)}
abbrev zPr(p:PV)(f:PV->PV->Prop):Prop:=match p with
 | .tup [a,b]=>f a b
 |_=>False
theorem Zps{p:PV}{f:PV->PV->Prop}(h:zPr p f):∃a b,p = .tup [a,b]/\f a b:=by
 unfold zPr at h
 split at h
 ·exact ⟨_,_,rfl,h⟩
 ·exact h.elim
abbrev ZrL(caps:List (Nat×Str))(ti:ZA)(te:ZE):ZA:=λd Q=>ti d λl=>Comp l (λp C=>zPr p λa b=>te (some (.val a)::some (.val b)::cap caps d) C) Q
theorem ZoV{u v:V}{d:List (Option V)}:∀(i:Nat) w,((none:Option V)::none::d)[i]?=some (some w)->(some u::some v::d)[i]?=some (some w)
 |0,_,h=>by simp at h
 |1,_,h=>by simp at h
 |i+2,_,h=>by simpa using h
theorem Ziy{K:ZZfg}{i:Hp}{g:ZZla}(D:Mo ti)(j:Mo te)(z:L2.St)(H:Hp)(Q:VK)(h:liL Z i g (ZrL caps ti te) z H Q):ZhZ 2 caps (liI Z i g ti) (ZnH K 2<|ZeM (Zcm 0)<|ZeM (Zcm 1) ZpV) (liE Z i g te) z H Q:=by
 obtain ⟨O,w,s,q⟩:=h;refine ⟨O,w,s,D w _ _ (λl k J L n E=>ZlO s n E j k λp v I C N S2 r f G=>?_) q⟩;obtain ⟨a,b,rfl,f⟩:=Zps f;obtain ⟨d,M,rfl,F,r⟩:=rep_tup r;obtain ⟨u,v,rfl,B,A⟩:=r.two;exact ⟨d,[u,v],rfl,.of<|Zao _ _ F,rfl,u,[v],rfl,v,[],rfl,rfl,ZoV,O,_,s.cap (Zat n S2) caps (vs:=[u,v]) (ps:=[a,b])<|.cons B<|.cons A .nil,j _ _ _ G f⟩
theorem Zra(x y:Str)(caps:List (Nat×Str)){k0:Nat}(v:QI Z X (.Tuple [.Name x p2,.Name y p3] k0 p4) it ti)(D:∀h g d C,QE Z (ZaD X scope (x::y::caps.map (·.2)) g d C h) elt te)(s:CapsOk X scope caps:=by repeat (first | exact trivial | refine And.intro ⟨rfl,rfl,by first | exact .inl rfl | exact .inr rfl⟩ ?_))(F:X.calm=true:=by rfl)
    (u:(x::y::caps.map (·.2)).Nodup:=by decide +kernel)
    (w:(scope.names.all λy=>!(y.2==NameKind.free)||(X.env.cells.lookup y.1).isSome)=true:=by rfl)
    (p:scope.kind = .function:=by rfl) (r:∀y∈scope.names,y.2 ≠ .cell:=by decide +kernel)
    (j:∀y∈scope.names,y.2 = .local->scope.names.lookup y.1=some .local:=by decide +kernel) (K:∀x,foldedSetIterable it X.env x=pure x:=by intro _; rfl)
    (I:∀h g d C,Loc (ZaD X scope (x::y::caps.map (·.2)) g d C h).env.scope x/\(ZaD X scope (x::y::caps.map (·.2)) g d C h).env.scope.names.lookup x=some .local/\Loc (ZaD X scope (x::y::caps.map (·.2)) g d C h).env.scope y/\(ZaD X scope (x::y::caps.map (·.2)) g d C h).env.scope.names.lookup y=some .local:=by exact λ_ _ _ _=>⟨.inl rfl,rfl,.inl rfl,rfl⟩) :
    QL Z X (.ListComp elt [⟨.Tuple [.Name x p2,.Name y p3] k0 p4,it,[],0⟩] scope pos) (ZrL caps ti te):=by
  have H:∀h g d C,PG (ZaD X scope (x::y::caps.map (·.2)) g d C h) (.Tuple [.Name x p2,.Name y p3] k0 p4) (ZnH X.K 2<|ZeM (Zcm 0)<|ZeM (Zcm 1) ZpV):=λh g d C=>let ⟨l1,l2,l3,l4⟩:=I h g d C; ZfT (n:=2) F (Zbp (ZaL (i:=0) u rfl l1<|.inr l2)<|Zbp (ZaL (i:=1) u rfl l3<|.inr l4) Zej);have L:Mo te:=(D [] X.s₀ X.H₀ 0).mo;exact ⟨λJ A B f q=>v.mo J _ _ (λl k=>k.mo (λ_ _ z=>z) f) q,λG E=>Zbf (Zgf [x,y] caps F (v.ok G E) H (λh g d C=>(D h g d C).ok G E) s w p r j K)<|Ziy v.mo L⟩
abbrev zUn(te:ZE):ZE:=λd Q=>te d λp=>match p with
 | .kp κ=>Q<|.kd κ
 |_=>False
theorem ZlV(u:NoAttr X.K Z.p "under") (r:Cls X.K Z.p) (h:QE Z X e te) (C:attributeBase e "under" X.env (eval e X.env)=eval e X.env:=by rfl):QE Z X (.Attribute e "under" pos) (zUn te) :=
 ⟨λg _ _ f q=>h.mo g _ _ (λp k=>by
  split at k
  ·exact f _ k
  ·exact k.elim) q,λB z=>Zbf (Zd0 (h.ok B z) C) λD H Q ⟨O,g,s,q⟩=>⟨O,g,s,h.mo g _ _ (λp k v A j i=>by
  split at k
  ·unfold Rep at i;obtain ⟨a,w,d,rfl,l,n⟩:=i;exact ⟨a,Z.p,w,_,.ref d,rfl,Zao _ _ l,r,u,rfl,k _ A j (by unfold Rep;exact ⟨d,rfl,n⟩)⟩
  ·exact k.elim) q⟩⟩
end
section
variable{x y:Str}{pos p2 p3 p4:Pos}{e elt it:Expr}{te:ZE}{ti:ZA}{scope:Scope}
theorem Znf{z:Str}(i:Nat)(x y:Str)(caps:List (Nat×Str)){k0:Nat}{h p5:Pos}(N:X.N.Nodup)(r:QI Z X (.Tuple [.Name x p2,.Name y p3] k0 p4) it ti)(A:∀d c b C,QE Z (ZaD X scope (x::y::caps.map (·.2)) c b C d) elt te)(J:X.N[i]?=some z:=by rfl)(w:X.env.scope.names.lookup z=some .local:=by rfl)(o:CapsOk X scope caps:=by repeat (first | exact trivial | refine And.intro ⟨rfl,rfl,by first | exact .inl rfl | exact .inr rfl⟩ ?_))(F:X.calm=true:=by rfl)
    (p:(x::y::caps.map (·.2)).Nodup:=by decide +kernel)
    (v:(scope.names.all λy=>!(y.2==NameKind.free)||(X.env.cells.lookup y.1).isSome)=true:=by rfl)
    (u:swapsWith (.ListComp elt [⟨.Tuple [.Name x p2,.Name y p3] k0 p4,it,[],0⟩] scope pos) (some<|.Name z p5) h.line X.env=pure true:=by rfl)
    (j:scope.kind = .function:=by rfl) (m:∀y∈scope.names,y.2 ≠ .cell:=by decide +kernel)
    (f:∀y∈scope.names,y.2 = .local->scope.names.lookup y.1=some .local:=by decide +kernel) (S:∀x,foldedSetIterable it X.env x=pure x:=by intro _; rfl)
    (I:∀d c b C,Loc (ZaD X scope (x::y::caps.map (·.2)) c b C d).env.scope x/\(ZaD X scope (x::y::caps.map (·.2)) c b C d).env.scope.names.lookup x=some .local/\Loc (ZaD X scope (x::y::caps.map (·.2)) c b C d).env.scope y/\(ZaD X scope (x::y::caps.map (·.2)) c b C d).env.scope.names.lookup y=some .local:=by exact λ_ _ _ _=>⟨.inl rfl,rfl,.inl rfl,rfl⟩) :
    QS Z X (.Assign [.Name z p5] (.ListComp elt [⟨.Tuple [.Name x p2,.Name y p3] k0 p4,it,[],0⟩] scope pos) h) (Znb i<|ZrL caps ti te):=by
  have P:∀d c b C,PG (ZaD X scope (x::y::caps.map (·.2)) c b C d) (.Tuple [.Name x p2,.Name y p3] k0 p4) (ZnH X.K 2<|ZeM (Zcm 0)<|ZeM (Zcm 1) ZpV):=λd c b C=>let ⟨l1,l2,l3,l4⟩:=I d c b C; ZfT (n:=2) F (Zbp (ZaL (i:=0) p rfl l1<|.inr l2)<|Zbp (ZaL (i:=1) p rfl l3<|.inr l4) Zej);have L:Mo te:=(A [] X.s₀ X.H₀ 0).mo;refine ⟨λD Y t l q=>r.mo t _ _ (λU k=>k.mo (λ_ _ z=>z) λ_=>l.nx _) q,λE B=>Zdo (ZcD [x,y] caps N J w F (r.ok E B) P (λd c b C=>(A d c b C).ok E B) o v u j m f S) λD T H ⟨O,t,s,q⟩=>Ziy r.mo L T H _ ⟨O,t,s,r.mo t _ _ (λU k=>k.mo (λ_ _ z=>z) λl k a W K Q n g R=>?_) q⟩⟩;obtain ⟨G,M⟩:=s.own Q (i:=i) n g R;exact k _ _ K G M
end
theorem Zs3(p:PV)(A B:Prop)(f:A->B)(h:zKp p A):zKp p B:=by cases p <;> first|exact f h|exact h
theorem Zrb(p:PV)(A:Prop)(h:zKp p A):A:=by cases p <;> first|exact h|exact h.elim
section
variable{P:Program}{w:World}{K:ZZfg}{mg:ZZmg}{base:Heap}
theorem Ziz{m:Str}{k:Nat}{ps:List Str}{S:ZF}(i:Cls K Z.p)(mo:MoF S)(h:HasMX P w K mg base Z.p m k ps [] (liF Z S))(j:(m==("under":Str))=false:=by decide):Mt P w K mg base Z zKp m k S :=
 ⟨mo,Zs3,Zrb,λp x H O r f=>by
  cases p <;> try exact f.elim
  unfold Rep at r;obtain ⟨a,e,d,rfl,c,g⟩:=r;refine ⟨a,Z.p,e,_,ps,[],_,rfl,Zao _ _ c,i,h,?_,λt q s Q b l n o=>?_⟩
  ·rw[Qr,j];rfl
  ·rw[Wq];refine ⟨O,_,l,.cons ?_ n,o⟩;unfold Rep;exact ⟨a,e,d,rfl,Zaz b _ _ c,g.same<|Zaz b⟩⟩
theorem Zf4{m c:Str}{e:Stmt}{k:Nat}{N ps:List Str}{S:ZF}{t:ZS}(o:HereM K Z.p m c e)(b:∀f i,Fun K m c e f i->Binds K i ps [])(n:FnScope N ps (Zab e))(g:∀vs Q,S vs Q->vs.length=ps.length)
    (body:∀(f:Addr) (d:Value) (A:Around) (a:List Env) (s:Shared) (H:Hp) (E:XK),Room k (A.deeper<|envOfC c (Zab e) s.heap.objs.size f d)->QSs Z (cxX P w K mg base N c (Zab e) f d A a s H E) (Za4 e) t)
    (j:ps.length<=N.length) (p:∀vs Q,S vs Q->t ⟨λ_=>Q .non,Q,λ_=>False,λ_=>False⟩ (ini N vs)):HasMX P w K mg base Z.p m (k+1) ps [] (liF Z S) :=
  o.hasMX b λf i F=>F.okx n (λvs H Q E h=>by
    obtain ⟨O,pv,l,r,q⟩:=h;rw[r.len]; exact g _ _ q) λd A a s H vs Q E u h=>Ziw g (body f d A a s H E u) j p h
end
inductive CompI (l:List PV) (f:PV->PK'->Prop) (Q:List PV->Prop):Prop
 |mk (Pv:Nat->List PV->Prop) (hz:l.length<=1000) (h0:Pv 0 []) (hs:∀(i:Nat) p r,l[i]?=some p->r.length=i->Pv i r->f p λv=>Pv (i+1) (r++[v])) (q:∀r,r.length=l.length->Pv l.length r->Q r):CompI l f Q
theorem CompI.mo{l:List PV}{f:PV->PK'->Prop}{A B:List PV->Prop}(k:∀r,A r->B r)(c:CompI l f A):CompI l f B:=let ⟨Pv,h1,h2,h3,h4⟩:=c;⟨Pv,h1,h2,h3,λr a b=>k _<|h4 r a b⟩
section
variable{x:Str}{pos p2:Pos}{elt it:Expr}{te:ZE}{ti:ZA}{scope:Scope}{caps:List (Nat×Str)}
abbrev Zs4(caps:List (Nat×Str))(ti:ZA)(te:ZE):ZA:=λa Q=>ti a λl=>CompI l (λp=>te (some (.val p)::cap caps a)) Q
theorem Zpt{t:Hp}{n:ZZla}(F:Mo ti)(M:Mo te)(B:L2.St)(H:Hp)(Q:VK)(h:liL Z t n (Zs4 caps ti te) B H Q):ZhZ 1 caps (liI Z t n ti) (Zcm 0) (liE Z t n te) B H Q:=by
 obtain ⟨O,A,s,q⟩:=h;refine ⟨O,A,s,F A _ _ (λl c J w u G=>?_) q⟩;obtain ⟨y,S,P,T,q⟩:=c;refine ⟨λi m b f=>m=l.length-i/\i<=l.length/\Same w f/\∃r,r.length=i/\y i r/\Reps Z (hide O f) r b,⟨_,rfl,Q6 _,ZaW,[],rfl,P,.nil⟩,?_⟩;rintro i m b f ⟨rfl,hi,a,r,g,pv,o⟩;have ly:b.length=i:=by rw[o.len,g]
 have Y:=ZaR S;obtain ⟨K,I⟩:=G O f (Zaz a) ((s.ls.same u).same a) i;refine ⟨⋯,?_⟩
 by_cases e:i=l.length
 ·refine .inl ⟨K e,nw (Zat u a) (q r (by rw[g,e]) (by rw[<-e];exact pv)) o⟩
 ·have j:i<l.length:=⋯;obtain ⟨D,L⟩:=I l[i]<|Q7 j;refine .inr ⟨D,⋯,λv d=>Same w d/\∃r,r.length=i+1/\y (i+1) r/\Reps Z (hide O d) r (b++[v]),λv d ⟨U,C⟩=>⟨l.length-(i+1),⋯,rfl,j,U,C⟩,λx E W=>?_⟩;obtain ⟨S2,R⟩:=L x E W;refine ⟨ZkX,O,_,s.cap (Zat u<|Zat a S2) caps (vs:=[x]) (ps:=[l[i]])<|.cons R .nil,M _ _ _ (λp k v d z N=>⟨Zat a<|Zat S2 z,r++[p],by rw[Qc,g];rfl,k,(o.h<|Zat S2 z).append<|.cons N .nil⟩)<|T i _ r (Q7 j) g pv⟩
theorem Zrc(x:Str)(caps:List (Nat×Str))(j:QI Z X (.Name x p2) it ti)(p:∀c b a C,QE Z (ZaD X scope (x::caps.map (·.2)) b a C c) elt te)(h:CapsOk X scope caps:=by repeat (first | exact trivial | refine And.intro ⟨rfl,rfl,by first | exact .inl rfl | exact .inr rfl⟩ ?_))(v:X.calm=true:=by rfl)
    (m:(x::caps.map (·.2)).Nodup:=by decide +kernel)
    (n:(scope.names.all λy=>!(y.2==NameKind.free)||(X.env.cells.lookup y.1).isSome)=true:=by rfl)
    (e:scope.kind = .function:=by rfl) (g:∀y∈scope.names,y.2 ≠ .cell:=by decide +kernel)
    (d:∀y∈scope.names,y.2 = .local->scope.names.lookup y.1=some .local:=by decide +kernel) (u:∀x,foldedSetIterable it X.env x=pure x:=by intro _; rfl)
    (o:∀c b a C,Loc (ZaD X scope (x::caps.map (·.2)) b a C c).env.scope x/\(ZaD X scope (x::caps.map (·.2)) b a C c).env.scope.names.lookup x=some .local:=by exact λ_ _ _ _=>⟨.inl rfl,rfl⟩) :
    QL Z X (.ListComp elt [⟨.Name x p2,it,[],0⟩] scope pos) (Zs4 caps ti te):=by
  have w:Mo te:=(p [] X.s₀ X.H₀ 0).mo;exact ⟨λt A B f q=>j.mo t _ _ (λl k=>k.mo f) q,λs r=>Zbf (Zgf [x] caps v (j.ok s r) (λc b a C=>ZaL (i:=0) m rfl (o c b a C).1<|.inr (o c b a C).2) (λc b a C=>(p c b a C).ok s r) h n e g d u)<|Zpt j.mo w⟩
end
theorem ZhA:∀ {ρ:PSt} {i:Nat} {s:Option Sl},i<ρ.length->sget (sset ρ i s) i=s
 |_::_,0,_,_=>rfl
 |_::ρ,i+1,_,h=>ZhA (ρ:=ρ) (i:=i)<|Nat.lt_of_succ_lt_succ h
theorem ZgQ:∀ {ρ:PSt} {i:Nat} {s:Option Sl},ρ.length<=i->sset ρ i s=ρ
 | [],_,_,_=>rfl
 |a::ρ,i+1,_,h=>congrArg (a :: ·)<|ZgQ (ρ:=ρ) (i:=i)<|Nat.le_of_succ_le_succ h
theorem Zf5:∀ {ρ:PSt} {i:Nat} {s t:Option Sl},sset (sset ρ i s) i t=sset ρ i t
 | [],_,_,_=>rfl
 |_::_,0,_,_=>rfl
 |a::ρ,i+1,_,_=>congrArg (a :: ·)<|Zf5 (ρ:=ρ) (i:=i)
theorem ZlW{o:Stmt}{i:Nat}{t:ZA}(m:Mo t)(h:QS Z X o (Znb i t)):QS Z X o (Zq0 i<|ZqT t) :=
 ⟨λD v a l q=>m a _ _ (λ_=>l.nx _) q,λn g=>Zdo (h.ok n g) λD u H ⟨O,a,s,q⟩=>⟨O,a,s,m a _ _ (λl k r b f c d=>by
  by_cases e:i<a.length
  ·obtain ⟨p,j,S2⟩:=c.free<|ZhA e;rw[Zf5] at j;exact k p b f j<|Zat d S2
  ·rw[ZgQ<|Nat.le_of_not_lt e] at c;have k:dnN Z n g O H D.nx (sset a i<|some<|.val<|.lst l):=k;rw[ZgQ<|Nat.le_of_not_lt e] at k;exact k r b f c d) q⟩⟩
abbrev zEx(b:ZE):ZS:=λD a=>b a λ_=>D.nx a
theorem Zpu{e:Expr}{c:ZE}{a:Pos}(h:QE Z X e c)(f:swapsWith e none a.line X.env=pure false:=by rfl):QS Z X (.Expr e a) (zEx c) :=
 ⟨λD n b l q=>h.mo b _ _ (λ_ k=>l.nx _ k) q,λj g=>Zdo (Zcc (h.ok j g) f) λD m H ⟨O,b,s,q⟩=>⟨O,b,s,h.mo b _ _ (λ_ k v i d _=>k O m i (s.same d)<|Zaz d) q⟩⟩
abbrev Zsq(i:Nat)(d:ZE):ZS:=λD c=>zV i c λp=>d c λq=>Zjl p λa=>Zjl q λb=>IntMulOk a b/\D.nx (sset c i<|some<|.val<|.int<|a*b)
theorem Zpv(i:Nat){x:Str}{p2 b:Pos}{e:Expr}{f:ZE}{t:TIp}(n:PIp X .Mult t)(u:∀x y H Q,(∃i j,x = .int i/\y = .int j/\IntMulOk i j/\Q (.int<|i*j) H)->t x y H Q)(I:X.N.Nodup)(h:QE Z X e f)(z:X.N[i]?=some x:=by rfl)(w:Loc X.env.scope x:=by first|exact .inl rfl|exact .inr rfl)(F:X.fn x=true\/X.env.scope.names.lookup x=some .local:=by first|exact .inl rfl|exact .inr rfl|assumption):QS Z X (.AugAssign (.Name x p2) .Mult e b) (Zsq i f) :=
 ⟨λD N a l q=>Zq1 (λp k=>h.mo a _ _ (λ_ k=>ZcV (λ_ k=>ZcV (λ_ k=>⟨k.1,l.nx _ k.2⟩) k) k) k) q,λG A=>Zdo (ZiW I z w (h.ok G A) n F) λD P H ⟨O,a,s,q⟩=>by
  obtain ⟨p,B,q⟩:=Zn4 q;obtain ⟨v,K,r⟩:=s.rel i _ B
  cases r with|val r=>?_
  refine ⟨v,K,O,a,s,h.mo a _ _ (λM k L C g J=>u _ _ _ _ ?_) q⟩;obtain ⟨c,rfl,m⟩:=Zb7 k;obtain ⟨d,rfl,E,o⟩:=Zb7 m;exact ⟨c,d,Zax r,Zax J,E,o O _ C ((s.same g).set Zb6)<|Zaz g⟩⟩
section
variable{x y:Str}{pos p2:Pos}{elt it:Expr}{te:ZE}{ti:ZA}{scope:Scope}
theorem ZgR(i:Nat)(x:Str)(caps:List (Nat×Str)){d p4:Pos}(v:X.N.Nodup)(r:QI Z X (.Name x p2) it ti)(u:∀j b a C,QE Z (ZaD X scope (x::caps.map (·.2)) b a C j) elt te)(t:X.N[i]?=some y:=by rfl)(o:X.env.scope.names.lookup y=some .local:=by rfl)(h:CapsOk X scope caps:=by repeat (first | exact trivial | refine And.intro ⟨rfl,rfl,by first | exact .inl rfl | exact .inr rfl⟩ ?_))(E:X.calm=true:=by rfl)
    (p:(x::caps.map (·.2)).Nodup:=by decide +kernel)
    (n:(scope.names.all λy=>!(y.2==NameKind.free)||(X.env.cells.lookup y.1).isSome)=true:=by rfl)
    (m:swapsWith (.ListComp elt [⟨.Name x p2,it,[],0⟩] scope pos) (some<|.Name y p4) d.line X.env=pure true:=by rfl)
    (e:scope.kind = .function:=by rfl) (g:∀y∈scope.names,y.2 ≠ .cell:=by decide +kernel)
    (c:∀y∈scope.names,y.2 = .local->scope.names.lookup y.1=some .local:=by decide +kernel) (D:∀x,foldedSetIterable it X.env x=pure x:=by intro _; rfl)
    (s:∀j b a C,Loc (ZaD X scope (x::caps.map (·.2)) b a C j).env.scope x/\(ZaD X scope (x::caps.map (·.2)) b a C j).env.scope.names.lookup x=some .local:=by exact λ_ _ _ _=>⟨.inl rfl,rfl⟩) :
    QS Z X (.Assign [.Name y p4] (.ListComp elt [⟨.Name x p2,it,[],0⟩] scope pos) d) (Zq0 i<|ZqT<|zCo caps ti te) :=
  ZlW (λw A B f q=>r.mo w _ _ (λl k=>k.mo (λ_ _ z=>z) f) q) (Zpm i x caps v r u t o h E p n m e g c D s)
end
variable{P:Program}{w:World}{K:ZZfg}{mg:ZZmg}{base:Heap}
section
variable{pos:Pos}{e:Expr}{te:ZE}{t:ZA}
abbrev zG(i:Nat)(ρ:PSt)(A:Prop):Prop:=match sget ρ i with
 |some (.val<|.kd _)=>A
 |some (.val<|.kp _)=>A
 |_=>False
theorem Zrd{i:Nat}{d H:Hp}{b O:ZZla}{f:L2.St}{ρ:PSt}{A:Prop}(s:SR Z d b O H f ρ)(h:zG i ρ A):A/\Gd Z (hide O H):=by
 unfold zG at h
 split at h
 ·next κ e =>
  obtain ⟨v,c,r⟩:=s.rel i _ e
  cases r with|val r =>
   unfold Rep at r;obtain ⟨a,_,r⟩:=r;exact ⟨h,r.2⟩
 ·next κ e =>
  obtain ⟨v,c,r⟩:=s.rel i _ e
  cases r with|val r =>
   unfold Rep at r;obtain ⟨a,_,_,_,_,r⟩:=r;exact ⟨h,r.2⟩
 ·exact h.elim
theorem Zsr{i:Nat}{ρ:PSt}{A B:Prop}(f:A->B)(h:zG i ρ A):zG i ρ B:=by
 unfold zG at *
 split at h
 ·exact f h
 ·exact f h
 ·exact h.elim
abbrev zFr(i:Nat)(t:ZA):ZE:=λa Q=>zG i a<|t a λl=>Q<|.fr l
theorem ZtQ(i:Nat)(h:QL Z X e t):QE Z X e (zFr i t):=⟨λc A B f q=>Zsr (λq=>h.mo c _ _ (λ_=>f _) q) q,λp j=>Zbf (h.ok p j) λv H Q ⟨O,c,s,q⟩=>by
 obtain ⟨q,g⟩:=Zrd s q;exact ⟨O,c,s,h.mo c _ _ (λl k a u d S n o r=>k _ d S (by
  unfold Rep;exact ⟨a,u,rfl,λm=>g.1 a m (by by_cases e:a∈O;exact hide_in e;rw[hide_out e];exact n),by rw[hide_out<|s.ls.new n];exact o,r.same<|Zeb λb m=>Qy _ m⟩)) q⟩⟩
abbrev zF(p:PV)(f:List PV->Prop):Prop:=match p with
 | .fr l=>f l
 |_=>False
theorem Zre{O:ZZla}{H:Hp}{Q:VK}{p:PV}(h:zF p λl=>Up Z O H Q<|.lst l):Up Z O H Q p:=λv b S r=>by
 unfold zF at h
 split at h
 ·refine h v b S ?_;unfold Rep at *;obtain ⟨a,c,e,_,q,r⟩:=r;exact ⟨a,c,e,q,r⟩
 ·exact h.elim
end
theorem Zss{x:Str}{k:Nat}{S c:ZF}(h:Fn P w K mg base Z x k c)(mo:MoF S)(f:∀ps Q,S ps Q->c ps λp=>zF p λl=>Q<|.lst l):Fn P w K mg base Z x k S :=
 ⟨mo,let ⟨ps,a⟩:=h.has;⟨ps,let ⟨f',fd,F,m,kp,b⟩:=a.ex;⟨f',fd,F.imp (λd H Q E q=>by
  obtain ⟨O,pv,l,r,s⟩:=q;exact ⟨O,pv,l,r,h.mo _ _ _ (λp k=>Zre k)<|f _ _ s⟩),m,kp,b⟩⟩⟩
theorem Zst{G:ZK}{m:Str}{k:Nat}{S b:ZF}(h:Mt P w K mg base Z G m k b)(mo:MoF S)(f:∀ps Q,S ps Q->b ps λp=>zF p λl=>Q<|.lst l):Mt P w K mg base Z G m k S :=
 ⟨mo,h.2,h.3,λp x H O r c=>let ⟨a,C,dx,fs,ps,dvs,sp,e,c1,c2,c3,c4,c5⟩:=h.4 p x H O r c;⟨a,C,dx,fs,ps,dvs,sp,e,c1,c2,c3,c4,λq g o Q d i j n=>c5 q g o Q d i j<|h.1 _ _ _ (λp k=>Zre k)<|f _ _ n⟩⟩
end Zp
namespace My
open PySem L2 PyProof.Rows
section
variable{P:Program}{w:World}{K:ZZfg}{mg:ZZmg}{base:Heap}{CF CR:Addr}
theorem sc_Fractions_common_bottom:FnScope ["self","some","bottom","one"] ["self","some"] (Zab Za0):=‹2›
theorem ZiA(h:HereM K CF "common_bottom" "Fractions.common_bottom" Za0) (c:Has P w K mg base "divisor" 1 ["one","other"] ZaX):HasM P w K mg base CF "common_bottom" 2 ["self","some"] [] (ZbM K):=by
 refine h.hasM (λ_ _ F=>F.b2 λ_ _ _ _ _ _ _ _=>rfl) λf fd F=>F.ok sc_Fractions_common_bottom (λW H Q E h=>?_)<|λZ A I s H W Q E hr h=>?_
 ·obtain ⟨_,_,_,_,_,rfl,_⟩:=h
  rfl
 obtain ⟨sf,r,xs,f,B,rfl,g,N,hB,S,j,k⟩:=h;have D:=sc_Fractions_common_bottom.nd;refine ⟨_,(Zad (ZaG (i:=2) D rfl (Or.inl rfl) Zac)
  (Zad (ZdY PassesOwn.never rfl (Zf8<|pv 1) (ZaL (i:=3) D rfl<|Or.inl rfl)<|Zag<|Za1 (Zav Zda (Zam Zbr (pv 2)<|ZaF Zaw (pv 3) Zac<|λ_ _=>rfl) Zac<|Zay _) (Zag<|ZaG (i:=2) D rfl (Or.inl rfl)<|Zam ZaH (Zam Zb2 (pv 2)<|ZaI c hr (by rfl)<|Zaa (pv 2)<|Zaa (ZaF Zaw (pv 3) Zac<|λ_ _=>rfl) Zae)<|ZaF Zaw (pv 3) Zac<|λ_ _=>rfl) ZaB)
  (Zag<|Zar<|pv 2))),?_⟩
 have Y:=N.1;refine ⟨_,rfl,r,rfl,⟨_,SqL.of g⟩,?_⟩;refine ZiZ (xs:=xs) (λi p t=>∃(A:Int) (z:Option V),p=[some<|.ref sf,some<|.ref r,some<|.int A,z]/\t=H/\ZqP .q (f.take i) A) ⟨1,none,rfl,rfl,∅,λx o=>by simp at o,λB _=>Int.one_dvd _⟩ ?_ ?_ ?_
 ·rintro i p t-⟨A,z,rfl,rfl,-⟩;exact SqL.of g
 ·rintro i v p t T ⟨A,z,rfl,rfl,l,L,G⟩;obtain ⟨x,o,a,rfl,u⟩:=N.get T;have hd:=(Zbj x).pos;have mx:=Qp o;have C:A ∣ B:=G B λy e=>j y<|List.mem_of_mem_take e;have O:Bits 4000 A:=S.le<|Zbh C ⋯;have X:Bits 4000 (Rat.den x:Int):=S.le<|Zbh (j x mx) ⋯;have m:f.take (i+1)=f.take i++[x]:=by rw[List.take_succ,o];rfl
  refine ⟨_,rfl,_,rfl,a,_,1,_,rfl,rfl,SqT.of u,rfl,_,_,rfl,rfl,(show (Rat.den x:Int)≠0 by omega),rfl,_,rfl,?_⟩;refine ZeG (λJ=>?_)<|λJ=>?_
  ·obtain ⟨U,d1,d2,lm⟩:=Zm2 l hd;have M:(Int.gcd A (Rat.den x:Int):Int)≠0:=by have:=M3.gcd_ne (a:=A) (b:=(Rat.den x:Int)) ⋯;omega
   have gb:Bits 4000 (Int.gcd A (Rat.den x:Int):Int):=O.le<|Zbh (Wk A (Rat.den x:Int)) ⋯;have fb:=M3.fdiv_le (Wk A (Rat.den x:Int)) M;refine ⟨_,rfl,_,rfl,_,rfl,a,_,1,_,rfl,rfl,SqT.of u,rfl,A,_,rfl,_,_,rfl,rfl,⟨M,gb⟩,_,rfl,a,_,1,_,rfl,rfl,SqT.of u,rfl,_,_,rfl,rfl,Bits.mulG ((O.le fb).up ∅) X,?_⟩;refine ⟨_,_,rfl,rfl,U,λy e=>?_,λn d=>?_⟩
   ·rw[m] at e;rcases W6.mp e with q|q
    ·exact Int.dvd_trans (L y q) d1
    ·rw[Qh.mp q];exact d2
   ·rw[m] at d;exact lm n (G n λy e=>d y<|W6.mpr<|.inl e)<|d x<|W6.mpr<|.inr<|Qh.mpr rfl
  ·refine ⟨A,_,rfl,rfl,l,λy e=>?_,λn d=>?_⟩
   ·rw[m] at e;rcases W6.mp e with q|q
    ·exact L y q
    ·rw[Qh.mp q];have R:A.fmod (Rat.den x:Int)=0:=J;rw[W8 _ ⋯] at R;exact Int.dvd_of_emod_eq_zero R
   ·rw[m] at d;exact G n λy e=>d y<|W6.mpr<|.inl e
 ·rintro p t ⟨A,z,rfl,rfl,l⟩;rw[Y,List.take_length] at l;exact ⟨_,rfl,k A l⟩
theorem Zdq:FnScope ["self","some"] ["self","some"] (Zab Zbl):=‹2›
theorem Zkf(h:HereM K CR "common_bottom" "Kind.common_bottom" Zbl):HasM P w K mg base CR "common_bottom" 1 ["self","some"] [] Zev:=by
 refine h.hasM (λ_ _ F=>F.b2 λ_ _ _ _ _ _ _ _=>rfl) λf e F=>F.ok Zdq (λb H Q E h=>?_)<|λc A a s H b Q E g h=>?_
 ·obtain ⟨_,_,rfl,_⟩:=h
  rfl
 obtain ⟨d,r,rfl,k⟩:=h;exact ⟨_,(Zag<|Zar Zac),k⟩
end
section
variable{P:Program}{w:World}{K:ZZfg}{mg:ZZmg}{base:Heap}{CF CR cN:Addr}
theorem ZiB{o:Tok}(h:HereD K CF "number" "Fractions.number" ZaY #[.int 1 o]) (c:ExcC K mg "NoNumber" cN) (d:Has P w K mg base "divisor" 1 ["one","other"] ZaX):HasMX P w K mg base CF "number" 2 ["self","top","bottom"] [] Zck:=by
 refine h.hasMX (ds:=[]) .nil (λf C T F=>F.binds λ_ _ _ _ _ _ u p=>by obtain ⟨_,_,_,rfl⟩:=Zc1 (show u.length=3 by simpa using p);exact ⟨_,rfl,rfl⟩) λf C T F=>?_;refine F.okx sc_Fractions_number (λx H Q E h=>?_)<|λB A g s H x Q E G h=>?_
 ·obtain ⟨_,_,_,rfl,_⟩:=h
  rfl
 obtain ⟨J,t,b,rfl,q,lb,k⟩:=h;have m:=sc_Fractions_number.nd;refine ⟨_,(Zad (Za1 (Zav Za6 (pv 2) Zac<|Zay _) (Zag<|Zdy c ZfY rfl (by rfl)<|Zaa ZcZ Zae) ZaB)
  (Zad (ZaG (i:=3) m rfl (Or.inl rfl)<|ZaI d G (by rfl)<|Zaa (pv 1)<|Zaa (pv 2) Zae)
  (Zad (Za1 (Zav Zg9 (pv 2) Zac<|Zay _) (Zag<|ZaG (i:=3) m rfl (Or.inl rfl)<|ZkA Zg8<|pv 3) ZaB)
  (Zag<|Zar<|Zcd<|Zaa (Zam ZeU (pv 1)<|pv 3)<|Zaa (Zam ZeU (pv 2)<|pv 3) Zae)))),?_⟩
 refine ⟨_,rfl,rfl,_,rfl,?_⟩;refine Zc0 (λz=>absurd z ⋯)<|λ_=>?_;refine ⟨_,rfl,_,rfl,t,b,rfl,?_⟩;refine ⟨_,rfl,_,_,rfl,rfl,_,rfl,?_⟩;refine ZbR (λl=>absurd l ⋯)<|λl=>?_;have L:=M3.gcd_ne (a:=t) (b:=b) ⋯;have D:Int.gcd t b<=b.natAbs:=Wu ⋯<|Wv.mpr<|W1 t b;have e:(Int.gcd t b:Int)≠0/\((Int.gcd t b:Int)).natAbs<=10^1000:=⟨⋯,Q1 (show _<=b.natAbs from D) lb⟩;obtain ⟨n,y,v,I,M⟩:=M3.low (t:=t) q;refine ⟨_,rfl,_,rfl,_,_,rfl,rfl,e,_,rfl,_,rfl,_,_,rfl,rfl,e,(by show 2<=sizeLine;decide),λr j=>?_⟩;exact k r _ _ j ⟨y,n⟩ v
theorem sc_Fractions_sum_of_products:FnScope ["self","some","others","ahead","behind","total","one","other"] ["self","some","others"] (Zab ZaV):=‹2›
theorem Zng(h:HereM K CF "sum_of_products" "Fractions.sum_of_products" ZaV) (M:Cls K CF) (Tz:mg "zip"=none) (hB:HasM P w K mg base CF "common_bottom" 2 ["self","some"] [] (ZbM K)) (hN:HasMX P w K mg base CF "number" 2 ["self","top","bottom"] [] Zck):HasM P w K mg base CF "sum_of_products" 3 ["self","some","others"] [] (ZgO CF):=by
 refine h.hasM (λ_ _ F=>F.b3 λ_ _ _ _ _ _ _ _ _=>rfl) λf fd F=>F.ok sc_Fractions_sum_of_products (λvs H Q E h=>?_)<|λa4 A U s H vs Q E R h=>?_
 ·obtain ⟨_,_,_,_,_,_,_,_,_,rfl,_⟩:=h
  rfl
 obtain ⟨g,r1,L,xs,ys,b,c,J,a1,rfl,⟨X,hs⟩,O,Y,d,j,a5,a3,w1,w2,b0,bl,bd,c0,B,cd,k⟩:=h;have l:=sc_Fractions_sum_of_products.nd;refine ⟨_,(Zad (ZaG (i:=3) l rfl (Or.inl rfl)<|Zgg (pv 0) R<|Zaa (pv 1) Zae)
  (Zad (ZaG (i:=4) l rfl (Or.inl rfl)<|Zgg (pv 0) R<|Zaa (pv 2) Zae)
  (Zad (ZaG (i:=5) l rfl (Or.inl rfl) Zac)
  (Zad (ZdY PassesOwn.never rfl (Zld (by rfl) Tz<|Zaa (pv 1)<|Zaa (pv 2) Zae) (ZfT rfl<|Zbp (ZaL (i:=6) l rfl<|Or.inl rfl)<|Zbp (ZaL (i:=7) l rfl<|Or.inl rfl) Zej)<|Zag<|ZiW (i:=5) l rfl (Or.inl rfl) (Zam ZaH (Zam ZaH (Zam ZaH (ZaF Zaw (pv 6) Zac<|λ_ _=>rfl)<|Zam ZeU (pv 3)<|ZaF Zaw (pv 6) Zac<|λ_ _=>rfl)<|ZaF Zaw (pv 7) Zac<|λ_ _=>rfl)<|Zam ZeU (pv 4)<|ZaF Zaw (pv 7) Zac<|λ_ _=>rfl) ZnI)
  (Zag<|Zar<|Zi8 (pv 0) Zgh R<|Zaa (pv 5)<|Zaa (Zam ZaH (pv 3)<|pv 4) Zae))))),?_⟩
 have lx:=d.1;have ly:=j.1;have a:∀ {Z:Int},Z.natAbs<=10^200->Bits 4000 Z:=fun {Z} hz=>Bits.of<|Qq hz<|Q5 (show 10^200<2^1000 by decide)<|W5 ∅ ∅
 refine ⟨_,rfl,g,CF,X,[],_,_,ZbM K,rfl,hs,M,hB,rfl,_,rfl,g,r1,xs,b,J,rfl,O,d,b0,a bl,bd,λA ⟨hA,dA,mA⟩=>?_⟩;refine ⟨_,rfl,g,CF,X,[],_,_,ZbM K,rfl,hs,M,hB,rfl,_,rfl,g,L,ys,c,a1,rfl,Y,j,c0,a B,cd,λC ⟨hC,dC,mC⟩=>?_⟩;have T:A.natAbs<=10^200:=Q1 (Zbh (mA _ bd) ⋯) bl;have lC:C.natAbs<=10^200:=Q1 (Zbh (mC _ cd) ⋯) B;refine ⟨_,rfl,_,rfl,r1,L,rfl,⟨_,SqL.of O⟩,⟨_,SqL.of Y⟩,?_⟩;refine ZoU (xs:=xs) (ys:=ys) (λi D n=>∃I G:Option V,D=[some<|.ref g,some<|.ref r1,some<|.ref L,some<|.int A,some<|.int C,some<|.int<|tS b c A C i,I,G]/\Same H n) ⟨none,none,rfl,Same.refl H⟩ ?_ ?_ ?_
 ·rintro i D n ⟨I,G,rfl,S⟩;exact ⟨SqL.of<|S _ _ O,SqL.of<|S _ _ Y⟩
 ·rintro i u v Tp D n hx hy nT ⟨I,G,rfl,S⟩;obtain ⟨x,z,t,rfl,ht⟩:=d.get hx;obtain ⟨y,o,p,rfl,a0⟩:=j.get hy;have ex:b.getD i 0=x:=by rw[Q3,z];rfl
  have ey:c.getD i 0=y:=by rw[Q3,o];rfl
  have hb:=(Zbj x).pos;have hd:=(Zbj y).pos;obtain ⟨la,lb⟩:=w1 x<|Qp z;obtain ⟨lc,ld⟩:=w2 y<|Qp o;have ST:=Zal nT<|.tup [.ref t,.ref p];refine ⟨Tp,_,rfl,SqT.of Zah,rfl,_,_,rfl,_,_,rfl,rfl,?_⟩;generalize upd n Tp (.tup [.ref t,.ref p])=H3 at *;have W:=S.trans ST;have qt:=SqT.of (K:=K)<|W _ _ ht;have qu:=SqT.of (K:=K)<|W _ _ a0;have eA:A.fdiv (x.den:Int)=A/x.den:=Uz _ ⋯;have eC:C.fdiv (y.den:Int)=C/y.den:=Uz _ ⋯;have m:(A.fdiv (x.den:Int)).natAbs<=10^200:=by rw[eA];exact Q1 Zob T
  have N:(C.fdiv (y.den:Int)).natAbs<=10^200:=by rw[eC];exact Q1 Zob lC
  have m1:=Zsp la m;have m2:=Zsp m1 lc;refine ⟨_,rfl,_,rfl,t,_,_,_,rfl,rfl,qt,rfl,_,rfl,_,rfl,t,_,_,_,rfl,rfl,qt,rfl,_,_,rfl,rfl,⟨(show (x.den:Int)≠0 by omega),Zed (by rw[Qk];exact lb)⟩,_,_,rfl,rfl,Zpr (ZdC la)<|ZdC m,_,rfl,p,_,_,_,rfl,rfl,qu,rfl,_,_,rfl,rfl,Zpr (ZdC m1)<|ZdC lc,_,rfl,_,rfl,p,_,_,_,rfl,rfl,qu,rfl,_,_,rfl,rfl,⟨(show (y.den:Int)≠0 by omega),Zed (by rw[Qk];exact ld)⟩,_,_,rfl,rfl,Zpr (ZdC m2)<|ZdC N,_,_,rfl,rfl,?_⟩;refine ⟨some<|.ref t,some<|.ref p,?_,W⟩;have e:tS b c A C (i+1)=tS b c A C i+x.num*(A.fdiv (x.den:Int))*y.num*(C.fdiv (y.den:Int)):=by
   show tS b c A C i+_=_;rw[ex,ey,eA,eC]
  rw[e]
  rfl
 ·rintro i D n hi ⟨I,G,rfl,S⟩;have hi:i=b.length:=⋯;subst hi;have a2:0<A*C:=W2 hA hC;refine ⟨_,rfl,g,CF,X,[],_,_,Zck,rfl,S _ _ hs,M,hN,rfl,_,rfl,_,rfl,_,rfl,_,_,rfl,rfl,ZpW (Zed T)<|Zed lC,g,_,_,rfl,a2,Zed<|Zsp T lC,λr x y nr fc e=>?_⟩;obtain ⟨q,q1,q2⟩:=Zjg fc;have y0:=fc.pos;have eq:q=Zpq (κ:=.q) b c:=by
   have t:=Zn8 hA hC dA dC b.length (Q2 _) ⋯;have:q=Rat.divInt (tS b c A C b.length) (A*C):=by
    rw[<-Qu q,q1,q2,W4 ⋯ ⋯];exact e
   exact this.trans t
  refine k _ _ (S.trans<|Zal nr _) ⟨r,rfl,?_⟩;rw[Zah,<-eq];show some (HO.tup [V.int x,V.int y])=some (HO.tup [V.int<|Rat.num q,V.int ((Rat.den q:Nat):Int)]);rw[q1,q2]
theorem ZcF:FnScope ["self","some","others"] ["self","some","others"] (Zab Za5):=‹2›
theorem Znh(h:HereM K CR "sum_of_products" "Rests.sum_of_products" Za5) (cl:Cls K CR) (nP:NoAttr K CR "prime") (Tz:mg "zip"=none) (Ts:mg "sum"=none):HasM P w K mg base CR "sum_of_products" 3 ["self","some","others"] [] (ZgP CR):=by
 refine h.hasM (λ_ _ F=>F.b3 λ_ _ _ _ _ _ _ _ _=>rfl) λf fd F=>F.ok ZcF (λvs H Q E h=>?_)<|λa1 A r s H vs Q E hr h=>?_
 ·obtain ⟨_,_,_,_,_,_,_,_,_,rfl,_⟩:=h
  rfl
 obtain ⟨p,o,sr,M,L,xs,ys,d,g,rfl,⟨X,hs⟩,O,I,j,l,a0,N,k⟩:=h;refine ⟨_,(Zag<|Zar<|Zam Zbr (Zan (ZmO rfl) (by rfl) Ts boot_sum<|Zaa (Zgf ["one","other"] [] rfl (Zld (by rfl) Tz<|Zaa (pv 1)<|Zaa (pv 2) Zae) (by exact λ_ _ _ _=>(ZoW (n:=2) K rfl rfl<|Zbp (ZaL (i:=0) (show (["one","other"]:List Str).Nodup by decide +kernel) rfl<|Or.inl rfl)<|Zbp (ZaL (i:=1) (show (["one","other"]:List Str).Nodup by decide +kernel) rfl<|Or.inl rfl) Zej)) (by exact λ_ _ _ _=>(Zam ZaH (pv 0)<|pv 1)) trivial) Zae)<|Zd0 (pv 0) rfl),?_⟩;have lx:=j.1;have ly:=l.1;have a2:=o.two;refine ⟨_,rfl,_,rfl,M,L,rfl,⟨_,SqL.of O⟩,⟨_,SqL.of I⟩,?_⟩;refine Zle (K:=K) (a:=M) (b:=L) (xs:=xs) (ys:=ys) (λi m e=>Same H e/\∃c:List Int,m=c.map V.int/\(c.sum%p:Int)=((Fin.val (Zjr d g i:Fin p):Nat):Int)) ⋯ ⟨Same.refl H,[],rfl,?_⟩ (λi m e q=>⟨SqL.of<|q.1 _ _ O,SqL.of<|q.1 _ _ I⟩) ?_ ?_
 ·show (0:Int)%p=((Fin.val (K0<|.r p o):Nat):Int);rw[ZgF];simp
 ·rintro i u v Tp m e W U T nT ⟨S,c,rfl,z⟩;obtain ⟨x,C,B⟩:=j.get W;obtain ⟨y,t,G⟩:=l.get U;have B:u = .int (Fin.val (x:Fin p)):=B;have G:v = .int (Fin.val (y:Fin p)):=G;subst B G;have R:=Zal nT<|.tup [.int<|Fin.val (x:Fin p),.int<|Fin.val (y:Fin p)];generalize upd e Tp (.tup [.int<|Fin.val (x:Fin p),.int<|Fin.val (y:Fin p)])=H3 at *;refine ⟨_,rfl,_,rfl,_,_,rfl,rfl,Zbx (Za8 o x)<|Za8 o y,S.trans R,c++[(Fin.val (x:Fin p):Int)*Fin.val (y:Fin p)],by simp,?_⟩;have Y:(Zjr d g (i+1):Fin p)=(Zjr d g i:Fin p)+(x:Fin p)*(y:Fin p):=ZlT C t;rw[Y,Fin.val_add,Fin.val_mul,List.sum_append]
  simp only[List.sum_cons,List.sum_nil,Int.add_zero]
  rw[Int.add_emod,z,Wj,Int.natCast_add,Wj,Wt,Int.add_emod (Fin.val (Zjr d g i:Fin p):Int)]
  first|done|simp
 ·rintro m e T ⟨S,c,rfl,z⟩ D Z;have J:=S.trans<|Zal Z<|.lst<|c.map V.int;refine ⟨D,_,rfl,SqL.of Zah,?_⟩;refine ⟨_,rfl,sr,CR,X,_,_,rfl,J _ _ hs,cl,nP,ZbS p,_,_,rfl,rfl,(show (p:Int)≠0 by omega),?_⟩;show Q (V.int<|c.sum.fmod p) _;refine k _ _ J ?_;show V.int (c.sum.fmod p)=V.int ((Fin.val (Zjr d g d.length:Fin p):Nat):Int);rw[W8 _ ⋯,z]
  congr 4
  omega
theorem Zni(A:Kd K mg CF CR)(R:HasM P w K mg base CF "sum_of_products" 3 ["self","some","others"] [] (ZgO CF)) (U:HasM P w K mg base CR "sum_of_products" 3 ["self","some","others"] [] (ZgP CR)):ZlU P w K mg base CF CR:=by
 intro T H s v
 cases T with
 |q =>
  obtain ⟨c,h⟩:=v;refine ⟨CF,c,[],_,_,_,h,A.clF,R,rfl,rfl,λI o n l d f g D E M N Q S t i e m b a y x C dl z j u B k=>?_⟩;obtain ⟨L,O⟩:=Zn9 C dl u y;obtain ⟨J,G⟩:=Zn9 z j B x;exact ⟨s,o,n,l,d,f,g,(D:Int),(E:Int),rfl,⟨c,S _ _ h⟩,t,i,e,m,b,a,L,J,⋯,by rw[Qk];exact dl,O,⋯,by rw[Qk];exact j,G,k⟩
 |r p F =>
  obtain ⟨c,h⟩:=v;exact ⟨CR,c,fsR p,_,_,_,h,A.clR,U,Zfm _ ∅,rfl,λI o n l d f g D E M N Q S t i e m b a y x C dl z j u B k=>⟨p,F,s,o,n,l,d,f,g,rfl,⟨c,S _ _ h⟩,t,i,e,m,b,a,k⟩⟩
end
theorem Zpw{κ:KX}{D M:Nat}(b:0<D){x:κ.F}(h:QN κ (D:Int) M x):DvB κ (D:Int) x:=by
 cases κ with
 |r p a=>exact trivial
 |q =>
  obtain ⟨X,e,_⟩:=h;show ((Rat.den x:Nat):Int) ∣ D;have e:x=Rat.divInt X D:=e;rw[e];exact (Zd9 X (show (0:Int)<(D:Int) by omega)).1
theorem Zrf{κ:KX}{D M:Nat}(a:0<D){f:ZZlk κ}{A:Int}(h:∀x∈f,QN κ (D:Int) M x)(b:ZqP κ f A):0<A/\A.natAbs<=D:=by
 cases κ with
 |r p i =>
  have b:A=1:=b;subst b;exact ⟨∅,a⟩
 |q =>
  obtain ⟨c,g,d⟩:=b;refine ⟨c,?_⟩;have:=Zbh (d (D:Int) λx e=>Zpw (κ:=.q) a<|h x e) ⋯;rw[Qk] at this;exact this
theorem ZlX{κ:KX}{A:Int}(h:A.natAbs<=10^140):∃x:κ.F,NumV κ A x:=by
 cases κ with
 |q=>obtain ⟨x,f,c⟩:=Zjg (n:=A) (d:=1) ⟨∅,by rw[Int.gcd_one]⟩;exact ⟨x,f,⋯⟩
 |r p e =>
  have c:=e.two;have a:=Wg A (show (p:Int)≠0 by omega);have b:=Ws A (show 0<(p:Int) by omega);exact ⟨(⟨(A%p).toNat,⋯⟩:Fin p),h,by show (((A%p).toNat:Nat):Int)=_;omega⟩
end My
namespace My.Rg
open PySem L2 PyProof.Rows
section
variable{α:Type}[Lean.Grind.CommRing α]
theorem skip_lo{j t:Nat}(h:t<j):skip j t=t:=by unfold skip;rw[if_pos h]
theorem skip_hi{j t:Nat}(h:j<=t):skip j t=t+1:=by unfold skip;rw[if_neg ⋯]
theorem Zfy:∀(n:Nat) (B:Nat->Nat->α),(∀j,j<n->B n j=0)->det (n+1) B=B n n*det n B
 |0,B,_=>by
  show 0+1*B 0 0*1=B 0 0*1;grind
 |n+1,B,h=>by
  show Sg (λj=>sgn α j*B 0 j*det (n+1) (λi k=>B (i+1)<|skip j k)) (n+2)=B (n+1) (n+1)*Sg (λj=>sgn α j*B 0 j*det n (λi k=>B (i+1)<|skip j k)) (n+1);show Sg _ (n+1)+sgn α (n+1)*B 0 (n+1)*det (n+1) (λi k=>B (i+1)<|skip (n+1) k)=_;rw[Zfy n (λi k=>B (i+1)<|skip (n+1) k) λj a=>by rw[skip_lo ⋯];exact h j ⋯];show Sg _ (n+1)+sgn α (n+1)*B 0 (n+1)*(B (n+1) (skip (n+1) n)*det n (λi k=>B (i+1)<|skip (n+1) k))=_;rw[skip_lo (show n<n+1 by omega),h n ⋯,Zb0];have e:Sg (λj=>sgn α j*B 0 j*det (n+1) (λi k=>B (i+1)<|skip j k)) (n+1)=Sg (λj=>B (n+1) (n+1)*(sgn α j*B 0 j*det n (λi k=>B (i+1)<|skip j k))) (n+1):=Sg_congr λj a=>by
   rw[Zfy n (λi k=>B (i+1)<|skip j k) λk b=>h _ (by unfold skip;split <;> omega)];show sgn α j*B 0 j*(B (n+1) (skip j n)*_)=_;rw[skip_hi (show j<=n by omega)];generalize (det n _:α)=D;grind
  rw[e];generalize (Sg _ (n+1):α)=S;generalize (det n _:α)=D;grind
def lin(x y:α):Ps α:=⟨λn=>if n=0 then x else if n=1 then y else 0⟩
theorem ZiC(f:Ps α)(x y:α)(n:Nat):(f*lin x y).c n=f.c n*x+(if n=0 then 0 else f.c (n-1)*y):=by
 rw[Ps.c_mul]
 match n with
 |0 =>
  show 0+f.c 0*x=f.c 0*x+0;grind
 |n+1 =>
  show (Sg (λi=>f.c i*(lin x y).c (n+1-i)) n+f.c n*(lin x y).c (n+1-n))+f.c (n+1)*(lin x y).c (n+1-(n+1))=_;have e:Sg (λi=>f.c i*(lin x y).c (n+1-i)) n=Sg (λ_=>(0:α)) n:=Sg_congr λi a=>by
   show f.c i*(if n+1-i=0 then x else if n+1-i=1 then y else 0)=0;rw[if_neg ⋯,if_neg ⋯];grind
  rw[e,Sg_zero,show n+1-n=1 by omega,show n+1-(n+1)=0 by omega,if_neg ⋯,show n+1-1=n by omega];show 0+f.c n*y+f.c (n+1)*x=_;grind
def unz(a:Nat->Nat->α):Nat->Nat->Ps α:=λi j=>lin (if j=i then 1 else 0)<|0-a i j
def wv(a:Nat->Nat->α)(s:Nat):Nat->Nat->α
 |0,j=>a s j
 |t+1,j=>Sg (λi=>wv a s t i*a i j) s
def yv(a:Nat->Nat->α)(s i:Nat):Ps α:=⟨λn=>match n with
 |0=>0
 |t+1=>wv a s t i⟩
def cn(a:Nat->Nat->α)(s:Nat):Ps α:=⟨λn=>match n with
 |0=>1
 |1=>0-a s s
 |t+2=>0-Sg (λi=>wv a s t i*a i s) s⟩
theorem Zoc(h:Nat->α)(n:Nat):0-Sg h n=Sg (λi=>0-h i) n:=by
 have e:0-Sg h n=(0-1)*Sg h n:=by grind
 rw[e,Zb0];exact Sg_congr λi _=>by grind
theorem Zkg(a:Nat->Nat->α){s j:Nat}(c:j<s):unz a s j+Sg (λi=>yv a s i*unz a i j) s=0:=Ps.ext λn=>by
 rw[Ps.c_add,Ps.c_Sg,Ps.c_zero];have e:Sg (λi=>(yv a s i*unz a i j).c n) s=Sg (λi=>(yv a s i).c n*(if j=i then 1 else 0)) s+Sg (λi=>if n=0 then 0 else (yv a s i).c (n-1)*(0-a i j)) s:=by
  rw[ZeK];exact Sg_congr λi _=>ZiC _ _ _ _
 rw[e,ZnY,if_pos c];have u:(unz a s j).c n=if n=1 then 0-a s j else 0:=by
  show (if n=0 then (if j=s then (1:α) else 0) else if n=1 then 0-a s j else 0)=_;rw[if_neg (show ¬j=s by omega)]
  by_cases h:n=0
  ·rw[if_pos h,if_neg ⋯]
  ·rw[if_neg h]
 rw[u]
 match n with
 |0 =>
  rw[if_neg ⋯];have b:Sg (λi=>if (0:Nat)=0 then (0:α) else (yv a s i).c (0-1)*(0-a i j)) s=Sg (λ_=>(0:α)) s:=Sg_congr λi _=>if_pos rfl;rw[b,Sg_zero];show (0:α)+(0+0)=0;grind
 |1 =>
  rw[if_pos rfl];have b:Sg (λi=>if (1:Nat)=0 then (0:α) else (yv a s i).c (1-1)*(0-a i j)) s=Sg (λ_=>(0:α)) s:=Sg_congr λi _=>by
   rw[if_neg ⋯];show (0:α)*(0-a i j)=0;grind
  rw[b,Sg_zero];show 0-a s j+(a s j+0)=0;grind
 |t+2 =>
  rw[if_neg ⋯];have b:Sg (λi=>if t+2=0 then (0:α) else (yv a s i).c (t+2-1)*(0-a i j)) s=0-Sg (λi=>wv a s t i*a i j) s:=by
   rw[Zoc];refine Sg_congr λi _=>?_;rw[if_neg ⋯];show wv a s t i*(0-a i j)=_;grind
  rw[b];show 0+(Sg (λi=>wv a s t i*a i j) s+_)=0;grind
theorem ZiD(a:Nat->Nat->α)(s:Nat):unz a s s+Sg (λi=>yv a s i*unz a i s) s=cn a s:=Ps.ext λn=>by
 rw[Ps.c_add,Ps.c_Sg];have e:Sg (λi=>(yv a s i*unz a i s).c n) s=Sg (λi=>if n=0 then 0 else (yv a s i).c (n-1)*(0-a i s)) s:=Sg_congr λi c=>by
  show (yv a s i*lin (if s=i then 1 else 0) (0-a i s)).c n=_;rw[ZiC,if_neg (show ¬s=i by omega)];grind
 rw[e];have u:(unz a s s).c n=if n=0 then 1 else if n=1 then 0-a s s else 0:=by
  show (if n=0 then (if s=s then (1:α) else 0) else if n=1 then 0-a s s else 0)=_;rw[if_pos rfl]
 rw[u]
 match n with
 |0 =>
  rw[if_pos rfl];have b:Sg (λi=>if (0:Nat)=0 then (0:α) else (yv a s i).c (0-1)*(0-a i s)) s=Sg (λ_=>(0:α)) s:=Sg_congr λi _=>if_pos rfl;rw[b,Sg_zero];show (1:α)+0=1;grind
 |1 =>
  rw[if_neg ⋯,if_pos rfl];have b:Sg (λi=>if (1:Nat)=0 then (0:α) else (yv a s i).c (1-1)*(0-a i s)) s=Sg (λ_=>(0:α)) s:=Sg_congr λi _=>by
   rw[if_neg ⋯];show (0:α)*(0-a i s)=0;grind
  rw[b,Sg_zero];show 0-a s s+0=0-a s s;grind
 |t+2 =>
  rw[if_neg ⋯,if_neg ⋯];show 0+_=0-Sg (λi=>wv a s t i*a i s) s;rw[Zoc];have b:Sg (λi=>if t+2=0 then (0:α) else (yv a s i).c (t+2-1)*(0-a i s)) s=Sg (λi=>0-wv a s t i*a i s) s:=Sg_congr λi _=>by
   rw[if_neg ⋯];show wv a s t i*(0-a i s)=_;grind
  rw[b];grind
theorem ZlY(a:Nat->Nat->α)(r:Nat)(f g:Nat->α):Zbi (Zbi a r f) r g=Zbi a r g:=by
 funext i j
 unfold Zbi
 split
 ·rfl
 ·rfl
theorem Zjt{s:Nat}(E:Nat->Nat->α)(y:Nat->α):∀k,k<=s->det (s+1) (Zbi E s λj=>E s j+Sg (λi=>y i*E i j) k)=det (s+1) E
 |0,_=>by
  have e:(λj=>E s j+Sg (λi=>y i*E i j) 0)=E s:=by funext j;show E s j+0=_;grind
  rw[e,Zea]
 |k+1,hk=>by
  rw[<-Zjt E y k ⋯];have h:=Zm3 (n:=s+1) (a:=Zbi E s λj=>E s j+Sg (λi=>y i*E i j) k) (r:=s) (s:=k) (y k) ⋯ ⋯ ⋯;rw[ZlY] at h;rw[<-h]
  congr 1
  congr 1
  funext j
  unfold Zbi;rw[if_pos rfl,if_neg (show ¬k=s by omega)];show E s j+(Sg (λi=>y i*E i j) k+y k*E k j)=_;grind
def qz(n:Nat)(a:Nat->Nat->α):Ps α:=det n<|unz a
theorem qz_step(a:Nat->Nat->α)(s:Nat):qz (s+1) a=cn a s*qz s a:=by
  show det (s+1) (unz a)=_;rw[<-Zjt (unz a) (yv a s) s (Q2 s),Zfy]
  · have b:Zbi (unz a) s (λj=>unz a s j+Sg (λi=>yv a s i*unz a i j) s) s s=cn a s:=by
      unfold Zbi;rw[if_pos rfl];exact ZiD a s
    rw[b]
    congr 1
    exact det_congr λi j d _=>by unfold Zbi; rw[if_neg ⋯]
  · intro j c
    unfold Zbi;rw[if_pos rfl];exact Zkg a c
theorem ZlZ:∀j,sgn (Ps α) j=Ps.con (sgn α j)
 |0=>rfl
 |j+1=>Ps.ext λn=>by
  show (0-sgn (Ps α) j).c n=(if n=0 then 0-sgn α j else 0);rw[Ps.c_sub,ZlZ j,Ps.c_zero];show 0-(if n=0 then sgn α j else 0)=_
  split <;> grind
theorem Zrg(j:Nat)(x y:α)(D:Ps α)(n:Nat):(sgn (Ps α) j*lin x y*D).c n=sgn α j*(x*D.c n+(if n=0 then 0 else y*D.c (n-1))):=by
 have e:sgn (Ps α) j*lin x y*D=sgn (Ps α) j*(D*lin x y):=by generalize lin x y=L;grind
 rw[e,ZlZ];show (Ps.mul (Ps.con<|sgn α j)<|D*lin x y).c n=_;rw[Ps.con_mul,ZiC]
 split <;> grind
theorem ZiE:∀(n:Nat) (A B:Nat->Nat->α),(∀m,n<m->(det n λi j=>lin (A i j)<|B i j).c m=0)/\(det n λi j=>lin (A i j)<|B i j).c n=det n B
 |0,A,B=>by
  refine ⟨λm b=>?_,?_⟩
  ·show (1:Ps α).c m=0;rw[Ps.c_one,if_neg ⋯]
  ·show (1:Ps α).c 0=1;rw[Ps.c_one,if_pos rfl]
 |n+1,A,B=>by
  have a:=λj=>ZiE n (λi k=>A (i+1)<|skip j k)<|λi k=>B (i+1)<|skip j k;have e:∀m,(det (n+1) λi j=>lin (A i j)<|B i j).c m=Sg (λj=>sgn α j*(A 0 j*(det n λi k=>lin (A (i+1)<|skip j k)<|B (i+1)<|skip j k).c m+(if m=0 then 0 else B 0 j*(det n λi k=>lin (A (i+1)<|skip j k)<|B (i+1)<|skip j k).c (m-1)))) (n+1):=λm=>by
   show (Sg (λj=>sgn (Ps α) j*lin (A 0 j) (B 0 j)*det n (λi k=>lin (A (i+1)<|skip j k)<|B (i+1)<|skip j k))<|n+1).c m=_;rw[Ps.c_Sg];exact Sg_congr λj _=>Zrg _ _ _ _ _
  refine ⟨λm b=>?_,?_⟩
  ·rw[e m];have z:∀j,j<n+1->sgn α j*(A 0 j*(det n λi k=>lin (A (i+1)<|skip j k)<|B (i+1)<|skip j k).c m+(if m=0 then 0 else B 0 j*(det n λi k=>lin (A (i+1)<|skip j k)<|B (i+1)<|skip j k).c (m-1)))=0:=λj _=>by
    rw[(a j).1 m ⋯,if_neg ⋯,(a j).1 (m-1) ⋯];grind
   rw[Sg_congr z,Sg_zero]
  ·rw[e<|n+1];show _=Sg (λj=>sgn α j*B 0 j*det n (λi k=>B (i+1)<|skip j k)) (n+1);refine Sg_congr λj _=>?_;rw[(a j).1 (n+1) ⋯,if_neg ⋯,show n+1-1=n by omega,(a j).2];generalize (det n _:α)=D;grind
theorem Zl0:∀(n:Nat) (a:Nat->Nat->α),det n (λi j=>0-a i j)=sgn α n*det n a
 |0,a=>by show (1:α)=1*1;grind
 |n+1,a=>by
  show Sg (λj=>sgn α j*(0-a 0 j)*det n (λi k=>0-a (i+1) (skip j k))) (n+1)=(0-sgn α n)*Sg (λj=>sgn α j*a 0 j*det n (λi k=>a (i+1)<|skip j k)) (n+1);rw[Zb0];refine Sg_congr λj _=>?_;rw[Zl0 n<|λi k=>a (i+1)<|skip j k];generalize (det n _:α)=D;grind
theorem qz_deg(n:Nat)(a:Nat->Nat->α){m:Nat}(h:n<m):(qz n a).c m=0:=(ZiE n _ _).1 m h
theorem qz_top(n:Nat)(a:Nat->Nat->α):(qz n a).c n=sgn α n*det n a:=by
 rw[<-Zl0];exact (ZiE n _ _).2
theorem sgn_sq(n:Nat):sgn α n*sgn α n=1:=by
 induction n with
 |zero=>show (1:α)*1=1;grind
 |succ n a=>show (0-sgn α n)*(0-sgn α n)=1;rw[<-a];grind
def cv(a:Nat->Nat->α)(s:Nat)(u:Nat->α):Nat->Nat->α
 |0,i=>u i
 |t+1,i=>Sg (λk=>a i k*cv a s u t k) s
theorem Zrh(a:Nat->Nat->α)(s:Nat):∀(t:Nat) (u:Nat->α) (i:Nat),cv a s (cv a s u 1) t i=cv a s u (t+1) i
 |0,u,i=>rfl
 |t+1,u,i=>by
  show Sg (λk=>a i k*cv a s (cv a s u 1) t k) s=Sg (λk=>a i k*cv a s u (t+1) k) s;exact Sg_congr λk _=>by rw[Zrh a s t u k]
theorem wv_cv(a:Nat->Nat->α)(s:Nat):∀(t:Nat) (u:Nat->α),Sg (λi=>wv a s t i*u i) s=Sg (λj=>a s j*cv a s u t j) s
 |0,u=>rfl
 |t+1,u=>by
  have e:Sg (λi=>wv a s (t+1) i*u i) s=Sg (λi=>Sg (λl=>wv a s t l*(a l i*u i)) s) s:=Sg_congr λi _=>by
   show Sg (λl=>wv a s t l*a l i) s*u i=_;have b:Sg (λl=>wv a s t l*a l i) s*u i=u i*Sg (λl=>wv a s t l*a l i) s:=by grind
   rw[b,Zb0];exact Sg_congr λl _=>by grind
  rw[e,Zio];have c:Sg (λj=>Sg (λi=>wv a s t j*(a j i*u i)) s) s=Sg (λl=>wv a s t l*cv a s u 1 l) s:=Sg_congr λl _=>by
   rw[<-Zb0];rfl
  rw[c,wv_cv a s t<|cv a s u 1];exact Sg_congr λj _=>by rw[Zrh]
end
end My.Rg
namespace My
open PySem L2 PyProof.Rows
end My
namespace L2
open PySem PySem.Spec PyProof.Rows
end L2
namespace My.Rg
open PySem L2 PyProof.Rows
section
variable{α:Type}[Lean.Grind.CommRing α]
theorem skS(j t:Nat):skip (j+1) (t+1)=skip j t+1:=by
 by_cases h:t<j
 ·rw[skip_lo h,skip_lo ⋯]
 ·rw[skip_hi ⋯,skip_hi ⋯]
theorem skZ(j:Nat):skip (j+1) 0=0:=skip_lo ⋯
theorem Zl1:∀ {n:Nat} {a:Nat->Nat->α},det (n+1) a=Sg (λi=>sgn α i*a i 0*det n λt k=>a (skip i t)<|k+1) (n+1)
 |0,a=>by
  show (0:α)+sgn α 0*a 0 0*1=0+sgn α 0*a 0 0*1
  rfl
 |n+1,a=>by
  show Sg (λj=>sgn α j*a 0 j*det (n+1) (λi k=>a (i+1)<|skip j k)) (n+1+1)=_;rw[ZdB,ZdB<|λi=>sgn α i*a i 0*det (n+1) λt k=>a (skip i t)<|k+1];have z:det (n+1) (λi k=>a (i+1)<|skip 0 k)=det (n+1) λt k=>a (skip 0 t) (k+1):=det_congr λi k _ _=>by rw[skip_hi<|Q6 k,skip_hi<|Q6 i]
  rw[z]
  congr 1
  have l:∀j,sgn α (j+1)*a 0 (j+1)*det (n+1) (λi k=>a (i+1)<|skip (j+1) k)=Sg (λi=>sgn α (j+1)*a 0 (j+1)*(sgn α i*a (i+1) 0*det n λt k=>a (skip i t+1)<|skip j k+1)) (n+1):=λj=>by
   rw[<-Zb0,Zl1 (n:=n) (a:=λi k=>a (i+1)<|skip (j+1) k)]
   congr 1
   refine Sg_congr λi _=>?_;rw[skZ]
   congr 1
   exact det_congr λt k _ _=>by rw[skS]
  have r:∀i,sgn α (i+1)*a (i+1) 0*det (n+1) (λt k=>a (skip (i+1) t)<|k+1)=Sg (λj=>sgn α (i+1)*a (i+1) 0*(sgn α j*a 0 (j+1)*det n λt k=>a (skip i t+1)<|skip j k+1)) (n+1):=λi=>by
   rw[<-Zb0]
   congr 1
   show Sg _ (n+1)=_;refine Sg_congr λj _=>?_;show sgn α j*a (skip (i+1) 0) (j+1)*det n (λt k=>a (skip (i+1)<|t+1)<|skip j k+1)=_;rw[skZ]
   congr 1
   exact det_congr λt k _ _=>by rw[skS]
  rw[Sg_congr<|λj _=>l j,Sg_congr<|λi _=>r i,Zio];refine Sg_congr λi _=>Sg_congr λj _=>?_;generalize (det n λt k=>a (skip i t+1)<|skip j k+1)=x;show (0-sgn α j)*a 0 (j+1)*(sgn α i*a (i+1) 0*x)=(0-sgn α i)*a (i+1) 0*(sgn α j*a 0 (j+1)*x);grind
theorem Zez:∀ {n:Nat} {a:Nat->Nat->α},det n (λi j=>a j i)=det n a
 |0,_=>rfl
 |n+1,a=>by
  rw[Zl1 (a:=a)];show Sg (λj=>sgn α j*a j 0*det n (λi k=>a (skip j k)<|i+1)) (n+1)=_;exact Sg_congr λj _=>by rw[Zez (n:=n) (a:=λi k=>a (skip j i)<|k+1)]
theorem con_sub0(c:α):0-Ps.con c=Ps.con (0-c):=Ps.ext λn=>by
 rw[Ps.c_sub,Ps.c_zero];show 0-(if n=0 then c else 0)=if n=0 then 0-c else 0
 split <;> grind
def dl(α:Type)[Lean.Grind.CommRing α](r k:Nat):α:=if r=k then 1 else 0
theorem Znj:∀n,det n (dl α)=1
 |0=>rfl
 |n+1=>by
  show Sg (λj=>sgn α j*dl α 0 j*det n (λi k=>dl α (i+1)<|skip j k)) (n+1)=1;rw[ZdB];have b:det n (λi k=>dl α (i+1)<|skip 0 k)=1:=by
   rw[<-Znj n];refine det_congr λi k _ _=>?_;rw[skip_hi<|Q6 k];unfold dl
   by_cases q:i=k
   ·rw[if_pos q,if_pos ⋯]
   ·rw[if_neg q,if_neg ⋯]
  have c:Sg (λi=>sgn α (i+1)*dl α 0 (i+1)*det n (λa k=>dl α (a+1)<|skip (i+1) k)) n=Sg (λ_=>(0:α)) n:=Sg_congr λi _=>by
   rw[show dl α 0 (i+1)=0 from if_neg ⋯];grind
  rw[b,c,Sg_zero,show dl α 0 0=1 from if_pos rfl];show 1*1*1+0=(1:α);grind
end
end My.Rg
namespace My
open PySem L2 PyProof.Rows
section
variable{κ:KX}
theorem QN.up{D E:Int}(d:0<D)(c:0<E){M e:Nat}{x:κ.F}(h:QN κ D M x)(a:E.natAbs<=e):QN κ (D*E) (M*e) x:=by
 cases κ with
 |r p f=>exact trivial
 |q =>
  obtain ⟨X,rfl,b⟩:=h;refine ⟨X*E,?_,by rw[Qs];exact Wx b a⟩;rw[W4 ⋯<|Int.ne_of_gt<|W2 d c,Qt,W0 D E]
theorem QN.neg{D:Int}{M:Nat}{x:κ.F}(h:QN κ D M x):QN κ D M (0-x):=by
 cases κ with
 |r p b=>exact trivial
 |q =>
  obtain ⟨X,rfl,a⟩:=h;refine ⟨-X,?_,⋯⟩;have:(0-Rat.divInt X D:Rat) = -Rat.divInt X D:=by grind
  show (0-Rat.divInt X D:Rat)=_;rw[this,Rat.neg_divInt]
theorem QN.sub{D:Int}(a:0<D){M N:Nat}{x y:κ.F}(h:QN κ D M x)(g:QN κ D N y):QN κ D (M+N) (x-y):=by
 have e:x-y=x+(0-y):=by grind
 rw[e];exact QN.add a h g.neg
noncomputable def gs(G:ZZlk κ)(p k:Nat):κ.F:=if p<=k then G.getD (k-p) 0 else 0
theorem ZaJ{F:ZZlk κ}{k:Nat}(h:F.length<=k):F.getD k 0=0:=by
 rw[Q3,Qz h];rfl
theorem Zri{F G:ZZlk κ}{i k:Nat}:∀j:Nat,pI F G i j k=if i<=k/\k<i+j then F.getD i 0*G.getD (k-i) 0 else 0
 |0=>by rw[if_neg ⋯];rfl
 |j+1=>by
  show pI F G i j k+(if i+j=k then F.getD i 0*G.getD j 0 else 0)=_;rw[Zri j]
  by_cases a:i+j=k
  ·subst a;rw[if_neg ⋯,if_pos rfl,if_pos ⋯,Nat.add_sub_cancel_left];grind
  ·rw[if_neg a]
   by_cases b:i<=k/\k<i+j
   ·rw[if_pos b,if_pos ⋯];grind
   ·rw[if_neg b,if_neg ⋯];exact add00
theorem Zsu{F G:ZZlk κ}{i k:Nat}:pI F G i G.length k=F.getD i 0*gs G i k:=by
 rw[Zri];unfold gs
 by_cases a:i<=k
 ·rw[if_pos a]
  by_cases b:k<i+G.length
  ·rw[if_pos ⟨a,b⟩]
  ·rw[if_neg ⋯,ZaJ (show G.length<=k-i by omega)];grind
 ·rw[if_neg ⋯,if_neg a];grind
theorem Zee{T:ZZlk κ}{r:Nat}(h:∀j,r<=j->T.getD j 0=0)(k:Nat):(T.take r).getD k 0=T.getD k 0:=by
 by_cases c:k<r
 ·rw[Q3,Wh,if_pos c,<-Q3]
 ·rw[h k ⋯,ZaJ (by rw[Qi];omega)]
def Trm(F:ZZlk κ):Prop:=F.length=0\/F.getD (F.length-1) 0≠0
theorem ZeY{T:ZZlk κ}{r:Nat}(a:r<=T.length)(h:r=0\/T.getD (r-1) 0≠0):Trm (T.take r):=by
 have e:(T.take r).length=r:=by rw[Qi];omega
 rcases h with h|h
 ·left;omega
 ·by_cases z:r=0
  ·left;omega
  ·right
   rw[e,Q3,Wh,if_pos ⋯,<-Q3];exact h
theorem QN.upN{D c:Nat}(a:0<D)(b:0<c){M:Nat}{x:κ.F}(h:QN κ (D:Int) M x):QN κ ((D*c:Nat):Int) (M*c) x:=by
 rw[Wt];exact QN.up ⋯ ⋯ h ⋯
end
end My
namespace L2
open PySem PySem.Spec PyProof.Rows
theorem Zpx{K:ZZfg}{a:Addr}{xs:List V}{g:TG}{n:TS}{D:Ends}{b:St}{H:Hp}(c:Nat->St->Hp->Prop)(z:c 0 b H)(r:∀i b H,i<=xs.length->c i b H->SqL K H a xs)
    (t:∀i x b H,xs.reverse[i]?=some x->c i b H->g x b H λd k=>n { D with nx:=c<|i+1,ct:=c<|i+1,bk:=D.nx } d k) (w:∀b H,c xs.length b H->D.nx b H) :
    ∃W:Nat->Nat->St->Hp->Prop,(∃m,W 0 m b H)/\∀i m b H,W i m b H →
      ((Itv K a xs.length).stop i H/\D.nx b H)\/((Itv K a xs.length).go i H/\∃N:St->Hp->Prop,(∀f j,N f j->∃l,l<m/\W (i+1) l f j)/\∀x j,(Itv K a xs.length).yld i H x j->g x b j λd k=>n { D with nx:=N,ct:=N,bk:=D.nx } d k):=by
  refine ⟨λi m b H=>m=xs.length-i/\i<=xs.length/\c i b H,⟨_,rfl,Q6 _,z⟩,?_⟩;rintro i m b H ⟨rfl,s,p⟩;have q:=r i b H s p
  by_cases h:i<xs.length
  · refine .inr ⟨⟨h,xs,q,rfl⟩,c<|i+1,λf j v=>⟨xs.length-(i+1),⋯,rfl,h,v⟩,λx j y=>?_⟩
    obtain ⟨o,u⟩:=y;subst o;exact t i x b _ (by rw[List.getElem?_reverse h]; exact u xs q) p
  · have e:i=xs.length:=⋯
    subst e;exact .inl ⟨rfl,w b H p⟩
section
variable{X:Cx}
def ipM:TIp:=λx y H Q=>∃i j,x = .int i/\y = .int j/\IntMulOk i j/\Q (.int<|i*j) H
theorem Zpy:PIp X .Mult ipM:=by
 intro a s k H x y v u Q I e d h;obtain ⟨i,j,b,f,c,q⟩:=h;subst b;subst f;obtain ⟨t,rfl⟩:=e;obtain ⟨g,rfl⟩:=d;exact PyProof.Rows.imul_int ⟨.int _,H,I.tok _,⟨_,rfl⟩,q⟩ c
end
end L2
namespace My
open PySem L2 PyProof.Rows
theorem Zpz{κ:KX}:(1:κ.F)≠0:=λz=>Fd.zne z.symm
end My
namespace My.Rg
end My.Rg
namespace My
open PySem L2 PyProof.Rows
section
variable{κ:KX}
abbrev Sr(κ:KX):Type:=Rg.Ps κ.F
noncomputable def sr(F:ZZlk κ):Sr κ:=⟨λk=>F.getD k 0⟩
theorem Zfz(F:ZZlk κ)(k:Nat):(sr F).c k=F.getD k 0:=rfl
theorem Zju{h:Nat->κ.F}{n:Nat}:∀d,(∀i,n<=i->h i=0)->Rg.Sg h (n+d)=Rg.Sg h n
 |0,_=>rfl
 |d+1,e=>by
  show Rg.Sg h (n+d)+h (n+d)=_;rw[Zju d e,e (n+d) ⋯];generalize Rg.Sg h n=s;grind
theorem Zod{F G:ZZlk κ}{k:Nat}:∀n,pO F G n k=Rg.Sg (λi=>F.getD i 0*gs G i k) n
 |0=>rfl
 |n+1=>by
  show pO F G n k+pI F G n G.length k=Rg.Sg _ n+_;rw[Zod n,Zsu]
theorem Zl2(F G:ZZlk κ)(k:Nat):(sr F*sr G).c k=pO F G F.length k:=by
  rw[Zod,Rg.Ps.c_mul];have d:=Zju (h:=λi=>F.getD i 0*gs G i k) (n:=F.length) (k+1-F.length) λi a=>by
    show F.getD i 0*_=0;rw[ZaJ a]; grind
  have c:Rg.Sg (λi=>F.getD i 0*gs G i k) (k+1)=Rg.Sg (λi=>(sr F).c i*(sr G).c (k-i)) (k+1):=Rg.Sg_congr λi a=>by
    show F.getD i 0*gs G i k=F.getD i 0*G.getD (k-i) 0;unfold gs;rw[if_pos ⋯]
  rw[<-c]
  by_cases h:F.length<=k+1
  · rw[<-d,show F.length+(k+1-F.length)=k+1 by omega]
  · have b:=Zju (h:=λi=>F.getD i 0*gs G i k) (n:=k+1) (F.length-(k+1)) λi a=>by
      show F.getD i 0*gs G i k=0;unfold gs;rw[if_neg ⋯]; grind
    rw[<-b,show k+1+(F.length-(k+1))=F.length by omega]
theorem Zoe{F:ZZlk κ}{D:Int}{M:Nat}(h:∀x∈F,QN κ D M x)(k:Nat):QN κ D M (F.getD k 0):=by
 by_cases q:k<F.length
 ·refine h _ ?_;rw[Q3,Q7 q];exact Wl _
 ·rw[ZaJ ⋯];exact QN.zero
end
structure PolL (κ:KX) (H:Hp) (a:Addr) (xs:List V) (f:ZZlk κ):Prop where
 l:H a=some (.lst xs)
 al:AllG (NR κ H) xs f
inductive Zdr (vs:List V) (H:Hp) (Q:VK) (zE:XK):Prop
 |mk (κ:KX) (a:Addr) (xs:List V) (f:ZZlk κ) (_:vs=[.int κ.P,.ref a]) (_:PolL κ H a xs f) (_:Trm f) (_:∀H',Same H H'->Q (.bl true) H'):Zdr vs H Q zE
noncomputable def ZpZ{κ:KX}(F G:ZZlk κ):ZZlk κ:=(List.range<|max F.length G.length).map λk=>F.getD k 0+G.getD k 0
theorem Znk{κ:KX}(F G:ZZlk κ):(ZpZ F G).length=max F.length G.length:=by unfold ZpZ;simp
theorem Znl{κ:KX}(F G:ZZlk κ)(k:Nat):(ZpZ F G).getD k 0=F.getD k 0+G.getD k 0:=by
 by_cases h:k<max F.length G.length
 ·unfold ZpZ;rw[Q3,Q4,Qj h];rfl
 ·rw[ZaJ (by rw[Znk];omega),ZaJ (show F.length<=k by omega),ZaJ (show G.length<=k by omega)];exact add00.symm
end My
namespace L2
open PySem PySem.Spec PyProof.Rows
end L2
namespace My
open PySem L2 PyProof.Rows
structure Pc (K:ZZfg) (mg:ZZmg) (CP:Addr):Prop where
 cl:Cls K CP
 nU:NoAttr K CP "under"
 m:mg "Polys"=some (.ref CP)
section
variable{κ:KX}
theorem Zl3(f g:ZZlk κ):∀n,Zjr f g n=Rg.Sg (λi=>f.getD i 0*g.getD i 0) n
 |0=>rfl
 |n+1=>by
  show Zjr f g n+_=Rg.Sg _ n+_;rw[Zl3 f g n]
theorem Zl4(h:Nat->κ.F)(a:Nat):∀m,Rg.Sg h (a+m)=Rg.Sg h a+Rg.Sg (λi=>h<|a+i) m
 |0=>by
  show Rg.Sg h a=Rg.Sg h a+0;generalize Rg.Sg h a=s;grind
 |m+1=>by
  show Rg.Sg h (a+m)+h (a+m)=Rg.Sg h a+(Rg.Sg _ m+h (a+m));rw[Zl4 h a m];generalize Rg.Sg h a=s;generalize Rg.Sg (λi=>h<|a+i) m=t;grind
theorem Znm{f g:ZZlk κ}{pl a b:Nat}(o:a=pl+1-g.length)(eb:b=min (pl+1) f.length)(h:a<=b):Zpq ((f.drop a).take<|b-a) ((List.range<|b-a).map λi=>g.getD (pl-(a+i)) 0)=(sr f*sr g).c pl:=by
  have l:((f.drop a).take<|b-a).length=b-a:=by rw[Qi,Qv]; omega
  unfold Zpq;rw[l,Zl3,Rg.Ps.c_mul];have k:Rg.Sg (λi=>((f.drop a).take<|b-a).getD i 0*((List.range<|b-a).map λi=>g.getD (pl-(a+i)) 0).getD i 0) (b-a)=Rg.Sg (λi=>f.getD (a+i) 0*g.getD (pl-(a+i)) 0) (b-a):=Rg.Sg_congr λi c=>by
    congr 1
    · rw[Q3,Wh,if_pos c,Ww,Q3]
    · rw[Q3,Q4,Qj c]; rfl
  rw[k];have d:=Zl4 (λi=>f.getD i 0*g.getD (pl-i) 0) a<|b-a;have j:Rg.Sg (λi=>f.getD i 0*g.getD (pl-i) 0) a=0:=by
    rw[Rg.Sg_congr (g:=λ_=>(0:κ.F)) λi c=>?_,Rg.Sg_zero];rw[ZaJ (F:=g) ⋯]; grind
  have m:=Zju (h:=λi=>f.getD i 0*g.getD (pl-i) 0) (n:=b)<|pl+1-b;rw[j,show a+(b-a)=b by omega] at d;show _=Rg.Sg (λi=>f.getD i 0*g.getD (pl-i) 0) (pl+1)
  by_cases q:pl+1<=f.length
  · rw[show pl+1=b by omega,d]
    generalize Rg.Sg (λi=>f.getD (a+i) 0*g.getD (pl-(a+i)) 0) (b-a)=s;grind
  · have e:=m λi c=>by
      show f.getD i 0*_=0;rw[ZaJ (F:=f) ⋯]; grind
    rw[show b+(pl+1-b)=pl+1 by omega] at e;rw[e,d];generalize Rg.Sg (λi=>f.getD (a+i) 0*g.getD (pl-(a+i)) 0) (b-a)=s;grind
noncomputable def plP(F G:ZZlk κ):ZZlk κ:=List.zipWith (· + ·) F G++F.drop (min F.length G.length)++G.drop (min F.length G.length)
theorem ZpA(F G:ZZlk κ)(k:Nat):(plP F G).getD k 0=F.getD k 0+G.getD k 0:=by
 unfold plP;have a:(List.zipWith (· + ·) F G).length=min F.length G.length:=List.length_zipWith ..
 by_cases h1:k<min F.length G.length
 ·rw[List.append_assoc,Q3,Wd ⋯,List.getElem?_zipWith,Q7 (show k<F.length by omega),Q7 (show k<G.length by omega),Q3,Q7 (show k<F.length by omega),Q3,Q7 (show k<G.length by omega)]
  rfl
 ·rcases Nat.le_total F.length G.length with q|q
  ·rw[Uh q,List.drop_length,Wq,Q3,Wa ⋯,Ww,a,Uh q,show F.length+(k-F.length)=k by omega,<-Q3,ZaJ (F:=F) ⋯];generalize G.getD k 0=z;grind
  ·rw[Nat.min_eq_right q,List.drop_length,Wq,Q3,Wa ⋯,Ww,a,Nat.min_eq_right q,show G.length+(k-G.length)=k by omega,<-Q3,ZaJ (F:=G) ⋯];generalize F.getD k 0=z;grind
theorem ZpB(F G:ZZlk κ):(plP F G).length=max F.length G.length:=by
 unfold plP;rw[Qc,Qc,List.length_zipWith,Qv,Qv];omega
end
inductive ZgS (CP:Addr) (vs:List V) (H:Hp) (Q:VK) (zE:XK):Prop
 |mk (x dx k:Addr) (_:vs=[.ref x,.ref k]) (_:H x=some (.ins CP dx [])) (_:Q .non (upd H x (.ins CP dx [("under", .ref k)]))):ZgS CP vs H Q zE
section
variable{κ:KX}
theorem Zrj{D:Nat}{M:Nat}{x:κ.F}(h:QN κ (D:Int) M x)(c:0<D)(a:D<2^3000)(b:M<2^3000):B1 κ x:=h.b1 ⋯ (by rw[Qk];exact a) b
end
end My
namespace My.Rg
end My.Rg
namespace My
open PySem L2 PyProof.Rows
end My
namespace Zp
open My
open PySem L2 PyProof.Rows
variable{Z:Zc}{X:Cx}{P:Program}{w:World}{K:ZZfg}{mg:ZZmg}{base:Heap}
theorem ZbT{α:Type}{f:α->PV}(g:List α)(r:Nat):ZcH (g.map f) none (some (r:Int))=(g.take r).map f:=by
 unfold ZcH HT.sIx
 simp only[Q0]
 rw[if_neg ⋯,List.drop_zero,List.map_take,Nat.sub_zero,Qa,Nat.min_def]
 split
 ·rfl
 ·rw[List.take_of_length_le (by rw[Q0];exact Q2 _),List.take_of_length_le (by rw[Q0];omega)]
theorem ZfA{κ:KX}{g:ZZlk κ}{i:Nat}(h:i<g.length):atI (g.map<|num κ) (i:Int)=some (num κ<|g.getD i 0):=Zaq (by rw[Q4,Q7 h,Q3,Q7 h];rfl)
theorem Zcq{κ:KX}(g:ZZlk κ):(g.map<|num κ).length=g.length:=Q0 _
inductive S_trimmedW (c:List PV->PV):ZF
 |mk {Q:PK'} {κ:KX} {g:ZZlk κ} (q:∀r,r<=g.length->(∀j,r<=j->g.getD j 0=0)->(r=0\/g.getD (r-1) 0≠0)->Q (c ((g.take r).map (num κ)))):S_trimmedW c [.kd κ,Zex κ g] Q
abbrev ZcG:ZF:=S_trimmedW .lst
theorem sc_trimmed:FnScope ["kind","numbers","count"] ["kind","numbers"] (Zab Zff):=‹2›
theorem z_trimmedF(h:Here K mg "trimmed" Zff) (T:Nm mg) (t:Mt P w K mg base Z zKd "is_nought" 2 Snz):Fn P w K mg base Z "trimmed" 3 (S_trimmedW .fr):=by
  have n:=sc_trimmed.nd;refine Za2 h (λ_ _ F=>F.b2 λ_ _ _ _ _ _ _ _=>rfl) sc_trimmed (λu A B f ⟨q⟩=>⟨λr a b c=>f _<|q r a b c⟩) (λ_ _ ⟨_⟩=>rfl) (λ_ _ _ _ _ _ _ v =>
    Zaf (ZaC 2 n<|ZaT T.len<|qv 1)
    (Zaf (ZgM [] (Zpj (Zfv ZfI lb (qv 2) ZaA)<|ZlK<|ZgK<|q_m t (qv 0)<|qa1<|Zcg (qv 1)<|ZcA ZbQ li (qv 2) ZaA).t<|Zai<|Zq2 2 Zp9 n ZaA)
    (Zai<|Zau<|ZtQ 0<|Zhw (qv 1) ZgJ<|Zft<|qv 2))) ∅ ?_
  rintro _ Q ⟨q⟩
  rename_i d g
  refine ⟨λm p=>m<=g.length/\p=[some<|.val<|.kd d,some<|.val<|Zex d g,some<|.val<|.int m]/\∀j,m<=j->g.getD j 0=0,g.length,⟨Q2 _,by rw[<-Q0 (num d)],λj k=>ZaJ k⟩,?_⟩;rintro m _ ⟨s,rfl,o⟩;have i:(m=0\/g.getD (m-1) 0≠0)->Q (.fr<|ZcH (g.map<|num d) none<|some (m:Int)):=λz=>by rw[ZbT g m]; exact q m s o z
  refine br (λz=>?_) λz=>i<|.inl ⋯;have z:(0:Int)<m:=z;refine ⟨num d<|g.getD (m-1) 0,by rw[show (m:Int)-1=((m-1:Nat):Int) by omega]; exact ZfA ⋯,⟨λb l=>?_⟩⟩
  cases b with
  | true=>exact ⟨m-1,⋯,⋯,by rw[show ((m-1:Nat):Int)=m-1 by omega],λj k=>by
      by_cases e:j=m-1
      · rw[e]; exact l.mp rfl
      · exact o j ⋯⟩
  | false=>exact i (.inr λe=>by cases l.mpr e)
theorem z_trimmed{k:Nat}(h:Fn P w K mg base Z "trimmed" k (S_trimmedW .fr)):Fn P w K mg base Z "trimmed" k ZcG:=Zss h (λd A B f ⟨q⟩=>⟨λr a b c=>f _<|q r a b c⟩) λd Q ⟨q⟩=>⟨q⟩
theorem Zof{α a:Type}{f:α->a}{l:List α}{i:Nat}{p:a}(h:(l.map f)[i]?=some p):∃x,l[i]?=some x/\p=f x:=by
 rw[Q4] at h
 cases e:l[i]? with
 |none=>rw[e] at h;cases h
 |some x=>rw[e] at h;exact ⟨x,rfl,(Option.some.inj h).symm⟩
theorem ZgT:FnScope ["kind","number","row"] ["kind","number","row"] (Zab Zde):=‹2›
variable{cF:Addr}
theorem ZpC{m:Str}{k:Nat}{S:ZF}{j g:List Str}{c d:List V}{f e:Sp}(A:Kd K mg Z.f Z.r)(C:HasMX P w K mg base Z.f m k j c f)(F:HasMX P w K mg base Z.r m k g d e)(mo:MoF S)
    (s:∀H O a vs b Q,FrA Z.f H a->Gd Z (hide O H)->Ls O H->Reps Z (hide O H) vs b->S (.kd .q::vs) (Up Z O H Q)->f (.ref a::(b++c)) H Q E0)
    (v:∀(p:Nat) (hp:PrN p) H O a vs b Q,ReA Z.r (p:Int) H a->Gd Z (hide O H)->Ls O H->Reps Z (hide O H) vs b->S (.kd (.r p hp)::vs) (Up Z O H Q)->e (.ref a::(b++d)) H Q E0) (D:¬m = "prime" := by decide):Mt P w K mg base Z zKd m k S :=
  ⟨mo,ZpY,Zkc,λp x H O r B=>by
    obtain ⟨E,rfl⟩:=Zkd B;have z:=Zq3 r;obtain ⟨a,rfl,y⟩:=Zf3 r
    cases E with
    | q =>
      obtain ⟨i,h⟩:=y;exact ⟨a,Z.f,i,[],j,c,f,rfl,h,A.clF,C,rfl,λo vs b Q l t u n=>s o O a vs b Q ⟨i,l _ _ h⟩ (z.same<|Zaz l) t u n⟩
    | r p hp =>
      obtain ⟨i,h⟩:=y;exact ⟨a,Z.r,i,fsR p,g,d,e,rfl,h,A.clR,F,Zfm _ D,λo vs b Q l t u n=>v p hp o O a vs b Q ⟨i,l _ _ h⟩ (z.same<|Zaz l) t u n⟩⟩
theorem Zcr{O:ZZla}{H:Hp}{κ:KX}:∀ {f:ZZlk κ} {us:List V},Reps Z (hide O H) (f.map<|num κ) us->AllG (NR κ H) us f:=fun {f us} h=>⟨by have:=h.len;rw[Q0] at this;exact this,λi v x b c=>by
 obtain ⟨u,a,r⟩:=h.get (show (f.map<|num κ)[i]?=some (num κ x) by rw[Q4,c];rfl);rw[b] at a;cases a;exact Zc4 r⟩
inductive Zrk:ZF
 |mk {Q:PK'} {κ:KX} {f g:ZZlk κ} {D E M N:Nat} (l:f.length=g.length) (l9:f.length<=100) (qf:∀x∈f,QN κ (D:Int) M x) (qg:∀x∈g,QN κ (E:Int) N x) (d0:0<D) (d1:D<=10^200) (e0:0<E) (e1:E<=10^200) (m1:M<=10^500) (n1:N<=10^500) (q:Q (num κ (Zpq f g))):Zrk [.kd κ,Zex κ f,Zex κ g] Q
theorem mt_dot(h:ZlU P w K mg base Z.f Z.r):Mt P w K mg base Z zKd "sum_of_products" 3 Zrk :=
 ⟨λm A B f ⟨D,Y,U,F,R,a6,a7,s,a9,j,q⟩=>⟨D,Y,U,F,R,a6,a7,s,a9,j,f _ q⟩,ZpY,Zkc,λp x H O r gd=>by
  obtain ⟨o,rfl⟩:=Zkd gd;obtain ⟨a,rfl,I⟩:=Zf3 r;obtain ⟨C,M,S,m,a0,sp,c1,c2,c3,z,rfl,y⟩:=h o H a I;refine ⟨a,C,M,S,m,_,sp,rfl,c1,c2,c3.toX,z,λT i ws Q S1 L1 r1 k=>?_⟩;generalize e:PV.kd o::i=l at k;obtain ⟨l,l9,qf,L,E,d1,e0,e1,N,n1,q⟩:=k
  cases e
  obtain ⟨u,v,rfl,d,g⟩:=r1.two;obtain ⟨b,us,rfl,W,J⟩:=rep_lst d;obtain ⟨c,i,rfl,hc,rc⟩:=rep_lst g;exact y T b c us i _ _ _ _ _ _ Q S1 (Zao _ _ W) (Zao _ _ hc) (Zcr J) (Zcr rc) l l9 qf L E d1 e0 e1 N n1 λG t S2 n=>q t G S2<|ZcE (L1.same S2) n⟩
inductive Zsv:ZF
 |mk {Q:PK'} {κ:KX} {f:ZZlk κ} (B:Int) (b0:0<B) (b1:Bits 4000 B) (dv:∀x∈f,DvB κ B x) (q:∀A:Int,ZqP κ f A->Q (.int A)):Zsv [.kd κ,Zex κ f] Q
theorem mt_bot(x:Kd K mg Z.f Z.r)(t:HasM P w K mg base Z.f "common_bottom" 2 ["self","some"] [] (ZbM K)) (y:HasM P w K mg base Z.r "common_bottom" 2 ["self","some"] [] Zev):Mt P w K mg base Z zKd "common_bottom" 2 Zsv:=by
 refine ZpC x t.toX y.toX (λz A B f ⟨b,g,c,d,q⟩=>⟨b,g,c,d,λA h=>f _<|q A h⟩) (λH O a j v Q _ _ _ r s=>?_) λp o H O a j v Q _ _ _ r s=>?_
 ·generalize e:PV.kd .q::j=l at s;obtain ⟨B,g,c,d,q⟩:=s
  cases e
  obtain ⟨u,rfl,i⟩:=r.one;obtain ⟨b,n,rfl,m,k⟩:=rep_lst i;exact ⟨a,b,n,_,B,rfl,Zao _ _ m,Zcr k,g,c,d,λA h=>q A h _ H ZaW Zb6⟩
 ·generalize e:PV.kd (.r p o)::j=l at s;obtain ⟨B,g,c,d,q⟩:=s
  cases e
  obtain ⟨u,rfl,i⟩:=r.one;obtain ⟨b,n,rfl,m,k⟩:=rep_lst i;exact ⟨a,b,rfl,q 1 rfl _ H ZaW Zb6⟩
theorem ZhB:FnScope ["table","place"] ["table","place"] (Zab ZdK):=‹2›
theorem Zl5:FnScope ["table"] ["table"] (Zab Zgn):=‹2›
theorem Zl6:FnScope ["kind","number","table"] ["kind","number","table"] (Zab Zgo):=‹2›
theorem ZiF:FnScope ["kind","row","other"] ["kind","row","other"] (Zab Zem):=‹2›
theorem ZhC:FnScope ["kind","table","column"] ["kind","table","column"] (Zab ZdL):=‹2›
variable{cN:Addr}
theorem Zcl{α:Type}{f:α->PV}(g:List α)(r:Nat):ZcH (g.map f) (some (r:Int)) none=(g.drop r).map f:=by
 unfold ZcH HT.sIx
 simp only[Q0]
 rw[if_neg ⋯,Qa,List.map_drop,List.take_of_length_le (by rw[Qv,Q0];exact Q2 _),Nat.min_def]
 split
 ·rfl
 ·rw[List.drop_of_length_le (by rw[Q0];exact Q2 _),List.drop_of_length_le (by rw[Q0];omega)]
theorem ZhD{α:Type}{f:α->PV}(g:List α){a b:Nat}(h:a<=b)(l:b<=g.length):ZcH (g.map f) (some (a:Int)) (some (b:Int))=((g.drop a).take<|b-a).map f:=by
 unfold ZcH HT.sIx
 simp only[Q0]
 rw[if_neg ⋯,if_neg ⋯,Qa,Qa,Uh l,Uh ⋯,List.map_take,List.map_drop]
inductive Zsw:ZF
 |mk {Q:PK'} {κ:KX} {f g:ZZlk κ} {pl D E M N:Nat} (lp:pl+2<=f.length+g.length) (l9:f.length<=90) (g9:g.length<=90) (qf:∀x∈f,QN κ (D:Int) M x) (qg:∀x∈g,QN κ (E:Int) N x) (d0:0<D) (d1:D<=10^200) (e0:0<E) (e1:E<=10^200) (m1:M<=10^500) (n1:N<=10^500) (q:Q (num κ ((sr f*sr g).c pl))):Zsw [.kd κ,Zex κ f,Zex κ g,.int (pl:Int)] Q
theorem sc_product_number:FnScope ["kind","some","others","place","start","bound"] ["kind","some","others","place"] (Zab Zbq):=‹2›
theorem z_product_number(h:Here K mg "product_number" Zbq) (T:Nm mg) (l:mg "max"=none) (k:mg "min"=none) (e:Mt P w K mg base Z zKd "sum_of_products" 3 Zrk):Fn P w K mg base Z "product_number" 4 Zsw:=by
 have v:=sc_product_number.nd;refine Za2 h (λ_ _ F=>F.b4 λ_ _ _ _ _ _ _ _ _ _=>rfl) sc_product_number (λps A B f ⟨W,O,L,z,Y,a6,a7,U,a9,s,t,q⟩=>⟨W,O,L,z,Y,a6,a7,U,a9,s,t,f _ q⟩) (λ_ _ ⟨_,_,_,_,_,_,_,_,_,_,_,_⟩=>rfl) (λ_ _ _ _ _ _ _ hr =>
  (Zaf (ZaC 4 v<|ZlP l ZaA<|ZcA ZaO li (ZcA ZbQ li (qv 3)<|ZaT T.len<|qv 2) ZaA)
  (Zaf (ZaC 5 v<|Zn6 k (ZcA ZaO li (qv 3) ZaA)<|ZaT T.len<|qv 1)
  (Zai<|Zau<|q_m e (qv 0)<|qa2 (QL.toE<|Zhw (qv 1) (Zft<|qv 4)<|Zft<|qv 5)<|QL.toE<|Zei "each" [(2,"others"),(3,"place")] (ZqZ T.range (qv 4)<|qv 5) (by exact λ_ _ _ _=>(Zcg (qv 1)<|ZcA ZbQ li (qv 2)<|qv 0)))))) ∅ ?_
 rintro _ Q ⟨lp,l9,g9,R,H,y,d1,e0,S,J,n1,q⟩
 rename_i c f g pl D E M N
 have lf:=Zcq f;have lg:=Zcq g;obtain ⟨a,est,hst⟩:∃a:Nat,(if (pl:Int)-((g.map<|num c).length:Int)+1>0 then (pl:Int)-((g.map<|num c).length:Int)+1 else 0)=(a:Int)/\a=pl+1-g.length:=⟨pl+1-g.length,by split <;> omega,rfl⟩;obtain ⟨b,eb,hb⟩:∃b:Nat,(if ((f.map<|num c).length:Int)<(pl:Int)+1 then ((f.map<|num c).length:Int) else (pl:Int)+1)=(b:Int)/\b=min (pl+1) f.length:=⟨min (pl+1) f.length,by split <;> omega,rfl⟩;have u:a<=b:=⋯;have o:Zrk [.kd c,.lst<|ZcH (f.map<|num c) (some (a:Int))<|some (b:Int),Zex c<|(List.range<|b-a).map λi=>g.getD (pl-(a+i)) 0] Q:=by
  rw[ZhD f u ⋯];have n:((f.drop a).take<|b-a).length=b-a:=by rw[Qi,Qv];omega
  refine ⟨by rw[n,Q0,Q9],⋯,λx m=>R x<|List.mem_of_mem_drop<|List.mem_of_mem_take m,λx m=>?_,y,d1,e0,S,J,n1,by rw[Znm hst hb u];exact q⟩;obtain ⟨i,I,rfl⟩:=Wy.mp m;exact Zoe H _
 have d:(-(2^62)<=(a:Int)/\(a:Int)<2^62 /\ -(2^62)<=(b:Int)/\(b:Int)<2^62)/\Comp (ZhR a ((b:Int)-a).toNat) (λp C=>zOp zIx (zV 1) (zOp (zI0 λi j => .int<|i-j) (zV 2)<|zV 0) [some<|.val p,some<|.val<|Zex c g,some<|.val<|.int pl] C) (λr=>Zrk [.kd c,.lst<|ZcH (f.map<|num c) (some (a:Int))<|some (b:Int),.lst r] Q):=by
  refine ⟨⋯,_,by rw[ZaE,Q0,Q0,Q9];omega,by rw[ZaE];omega,λi p G=>?_,o⟩;obtain ⟨I,rfl⟩:=ZaN G;refine ⟨_,by rw[show (pl:Int)-((a:Int)+(i:Int))=((pl-(a+i):Nat):Int) by omega];exact ZfA ⋯,?_⟩;rw[Q4,Q4,Qj ⋯];rfl
 rw[<-est,<-eb] at d;exact d
inductive Zl7 (c:List PV->PV):ZF
 |mk {Q:PK'} {κ:KX} {F G:ZZlk κ} {D E M N:Nat} (lF:F.length<=90) (lG:G.length<=90) (qF:∀x∈F,QN κ (D:Int) M x) (qG:∀x∈G,QN κ (E:Int) N x) (d0:0<D) (d1:D<=10^200) (e0:0<E) (e1:E<=10^200) (m1:M<=10^500) (n1:N<=10^500) (q:∀T,Trm T->sr T=sr F*sr G->T.length<=F.length+G.length-1->Q (c (T.map (num κ)))):Zl7 c [.kp κ,Zex κ F,Zex κ G] Q
abbrev Zs5:ZF:=Zl7 .lst
theorem Zrl{c:List PV->PV}:MoF (Zl7 c):=λo A B f ⟨g,m,l,h,k,i,j,e,n,d,q⟩=>⟨g,m,l,h,k,i,j,e,n,d,λT a b c=>f _<|q T a b c⟩
theorem sc_Polys_times:FnScope ["self","one","other","count"] ["self","one","other"] (Zab ZcQ):=‹2›
theorem z_PtF(h:HereM K Z.p "times" "Polys.times" ZcQ) (T:Nm mg) (b:Pc K mg Z.p) (a:Fn P w K mg base Z "trimmed" 4 (S_trimmedW .fr)) (c:Fn P w K mg base Z "product_number" 4 Zsw):Mt P w K mg base Z zKp "times" 5 (Zl7 .fr):=by
 have z:=sc_Polys_times.nd;refine Ziz b.cl Zrl<|Zf4 h (λ_ _ F=>F.b3 λ_ _ _ _ _ _ _ _ _=>rfl) sc_Polys_times (λ_ _ ⟨_,_,_,_,_,_,_,_,_,_,_⟩=>rfl) (λ_ _ _ _ _ _ _ H =>
  (Zaf (ZaC 3 z<|ZcA ZbQ li (ZcA ZaO li (ZaT T.len<|qv 1)<|ZaT T.len<|qv 2) ZaA)
  (Zai<|Zau<|Zak a<|qa2 (ZlV b.nU b.cl<|qv 0)<|QL.toE<|Zei "place" [(0,"self"),(1,"one"),(2,"other")] (Zb9 T.range<|qv 3) (by exact λ_ _ _ _=>(Zak c<|qa4 (ZlV b.nU b.cl<|qv 1) (qv 2) (qv 3)<|qv 0))))) ∅ ?_
 rintro _ Q ⟨e,u,n,k,y,v,l,m,g,s,q⟩
 rename_i o F G D E M N
 have A:=Zcq F;have C:=Zcq G;refine ⟨⋯,⋯,(((List.range<|F.length+G.length-1).map λi=>(sr F*sr G).c i).map<|num o),by rw[ZaE,Q0,Q0,Q9];omega,by rw[ZaE];omega,λi p f=>?_,⟨λr x d t=>q _ (ZeY x t) ?_ ?_⟩⟩
 ·obtain ⟨B,rfl⟩:=ZaN f;rw[Qo];refine ⟨⋯,e,u,n,k,y,v,l,m,g,s,?_⟩;rw[Q4,Q4,Qj ⋯];rfl
 ·refine Rg.Ps.ext λj=>?_;rw[Zfz,Zee d]
  by_cases hj:j<F.length+G.length-1
  ·rw[Q3,Q4,Qj hj];rfl
  ·rw[ZaJ (by rw[Q0,Q9];omega),Zl2,ZlS ⋯]
 ·rw[Qi,Q0,Q9];omega
theorem z_Pt{k:Nat}(h:Mt P w K mg base Z zKp "times" k (Zl7 .fr)):Mt P w K mg base Z zKp "times" k Zs5:=Zst h Zrl λm Q ⟨d,j,e,f,c,g,i,b,l,a,q⟩=>⟨d,j,e,f,c,g,i,b,l,a,q⟩
inductive Zp0 (g:(κ:KX)->Sr κ->Sr κ->Sr κ):ZF
 |mk {Q:PK'} {κ:KX} {F G:ZZlk κ} (lF:F.length<=90) (lG:G.length<=90) (bF:∀x∈F,B1 κ x) (bG:∀x∈G,B1 κ x) (q:∀T,Trm T->sr T=g κ (sr F) (sr G)->T.length<=max F.length G.length->Q (Zex κ T)):Zp0 g [.kp κ,Zex κ F,Zex κ G] Q
theorem Zrm{g:(κ:KX)->Sr κ->Sr κ->Sr κ}:MoF (Zp0 g):=λj A B f ⟨d,i,e,h,q⟩=>⟨d,i,e,h,λT a b c=>f _<|q T a b c⟩
theorem sc_Polys_plus:FnScope ["self","one","other","both"] ["self","one","other"] (Zab Zdh):=‹2›
theorem z_Pp(h:HereM K Z.p "plus" "Polys.plus" Zdh) (T:Nm mg) (E:mg "zip"=none) (l:Pc K mg Z.p) (d:Mt P w K mg base Z zKd "plus" 4 (S2 λ_ x y=>x+y)) (c:Fn P w K mg base Z "trimmed" 4 ZcG):Mt P w K mg base Z zKp "plus" 5 (Zp0 λ_ f g=>f+g):=by
 have L:=sc_Polys_plus.nd;refine Ziz l.cl Zrm<|Zf4 h (λ_ _ F=>F.b3 λ_ _ _ _ _ _ _ _ _=>rfl) sc_Polys_plus (λ_ _ ⟨_,_,_,_,_⟩=>rfl) (λ_ _ _ _ _ _ _ O =>
  (Zaf (Znf 3 "left" "right" [(0,"self")] L (Zjo E (qv 1)<|qv 2) (by exact λ_ _ _ _=>(q_m d (ZlV l.nU l.cl<|qv 2)<|qa2 (qv 0)<|qv 1)))
  (Zai<|ZbZ 3<|Zau<|Zak c<|qa2 (ZlV l.nU l.cl<|qv 0)<|QL.toE<|Zm7 (QL.toE<|Zm7 (qv 3)<|QL.toE<|Zhw (qv 1) (Zft<|ZaT T.len<|qv 3) ZgJ)<|QL.toE<|Zhw (qv 2) (Zft<|ZaT T.len<|qv 3) ZgJ))) ∅ ?_
 rintro _ Q ⟨M,N,D,B,q⟩
 rename_i k F G
 have v:=Zcq F;have I:=Zcq G;have m:((List.zipWith (· + ·) F G).map<|num k).length=min F.length G.length:=by rw[Q0,List.length_zipWith]
 refine ⟨(List.zipWith (· + ·) F G).map<|num k,by rw[ZbP,m,v,I],by rw[ZbP];omega,λi p z=>?_,?_⟩
 ·obtain ⟨a,b,A,C,rfl⟩:=ZcW z;obtain ⟨x,t,rfl⟩:=Zof A;obtain ⟨y,s,rfl⟩:=Zof C;exact ⟨D x<|Qp t,B y<|Qp s,by rw[Q4,List.getElem?_zipWith,t,s];rfl⟩
 ·have n:=Zcl (f:=num k) F<|min F.length G.length;have o:=Zcl (f:=num k) G<|min F.length G.length;rw[<-m] at n o;have e:ZcG [.kd k,Zex k<|plP F G] Q:=⟨λr J u H=>q _ (ZeY J H) (Rg.Ps.ext λj=>by rw[Zfz,Zee u,ZpA,Rg.Ps.c_add,Zfz,Zfz]) (by rw[Qi,ZpB];omega)⟩;unfold plP at e;rw[Zex,Qw,Qw,<-m,<-n,<-o] at e;refine ⟨?_,?_,e⟩
  ·rw[n,m,Q0,Qv];omega
  ·rw[n,o,Qc,m,Q0,Qv,Q0,Qv];omega
theorem sc_Polys_minus:FnScope ["self","one","other"] ["self","one","other"] (Zab ZcP):=‹2›
theorem z_Pm(h:HereM K Z.p "minus" "Polys.minus" ZcP) (d:Pc K mg Z.p) (b:Mt P w K mg base Z zKd "minus" 5 (S2 λ_ x y=>x-y)) (a:Mt P w K mg base Z zKd "number" 5 Zsm) (c:Mt P w K mg base Z zKp "plus" 5 (Zp0 λ_ f g=>f+g)):Mt P w K mg base Z zKp "minus" 6 (Zp0 λ_ f g=>f-g):=by
 have C:=sc_Polys_minus.nd;refine Ziz d.cl Zrm<|Zf4 h (λ_ _ F=>F.b3 λ_ _ _ _ _ _ _ _ _=>rfl) sc_Polys_minus (λ_ _ ⟨_,_,_,_,_⟩=>rfl) (λ_ _ _ _ _ _ _ B =>
  (Zai<|Zau<|q_m c (qv 0)<|qa2 (qv 1)<|QL.toE<|Zei "each" [(0,"self")] (Zec<|qv 2) (by exact λ_ _ _ _=>(q_m b (ZlV d.nU d.cl<|qv 1)<|qa2 (q_m a (ZlV d.nU d.cl<|qv 1)<|qa1 ZaA)<|qv 0)))) ∅ ?_
 rintro _ Q ⟨o,v,r,n,q⟩
 rename_i m F G
 refine ⟨(G.map λx=>0-x).map<|num m,by rw[Q0,Q0,Q0],by rw[Zcq];omega,λi p s=>?_,⟨o,by rw[Q0];exact v,r,λx t=>?_,λT u A k=>q T u ?_ (by rw[Q0] at k;exact k)⟩⟩
 ·obtain ⟨y,e,rfl⟩:=Zof s;exact ⟨0,Zfr,⟨Zpf,n y<|Qp e,by rw[Q4,Q4,e];rfl⟩⟩
 ·obtain ⟨y,e,rfl⟩:=Wy.mp t;exact ZqM<|n y e
 ·rw[A];refine Rg.Ps.ext λj=>?_;rw[Rg.Ps.c_add,Rg.Ps.c_sub,Zfz,Zfz,Zfz,Q3 (l:=G.map λx=>0-x),Q4,Q3 (l:=G)]
  cases G[j]? with
  |none=>show _+(0:m.F)=_-0;generalize F.getD j 0=z;grind
  |some y=>show _+(0-y)=_-y;generalize F.getD j 0=z;grind
end Zp
namespace My
open PySem L2 PyProof.Rows
section
variable{κ:KX}{c d e e':Nat}{f g T:ZZlk κ}
structure Pz (κ:KX) (c e:Nat) (f:ZZlk κ):Prop where
 t:Trm f
 l:f.length<=2*e+1
 q:∀x∈f,QN κ ((12^c:Nat):Int) (10^(10*c)) x
theorem Zsx{x:κ.F}(h:QN κ ((12^c:Nat):Int) (10^(10*c)) x)(l:c<=d):QN κ ((12^d:Nat):Int) (10^(10*d)) x:=by
 obtain ⟨n,rfl⟩:∃n,d=c+n:=⟨d-c,⋯⟩;have:=(h.upN (Wb ∅)<|Wb (n:=n) (show 0<12 by decide));rw[<-Wf] at this;refine this.mono ?_;rw[Ud,Wf];exact Nat.mul_le_mul_left _<|Q1 (Nat.pow_le_pow_left (show 12<=10^10 by decide) n)<|U0 (Nat.pow_mul 10 10 n).symm
theorem ZiG{x:κ.F}{M:Nat}(h:QN κ ((12^c:Nat):Int) M x)(l:M<=8100*10^(10*c)):QN κ ((12^(c+1):Nat):Int) (10^(10*(c+1))) x:=by
 have:=h.upN (c:=12) (Wb ∅) ∅;rw[<-Nat.pow_succ] at this;refine this.mono<|Q1 (Ql 12 l) ?_;rw[Ud,Wf];generalize 10^(10*c)=z;show 8100*z*12<=z*10000000000;omega
theorem Znn:(0:Int)<((12^c:Nat):Int):=Int.natCast_pos.mpr<|Wb ∅
theorem Pz.of(t:Trm T)(l:T.length<=2*e+1)(q:∀k,QN κ ((12^c:Nat):Int) (10^(10*c))<|(sr T).c k):Pz κ c e T:=⟨t,l,λx b=>by
 obtain ⟨i,a⟩:=List.getElem?_of_mem b;have:=q i;rw[Zfz,Q3,a] at this;exact this⟩
theorem Zkh(h:c<=50):12^c<=10^200/\10^(10*c)<=10^500:=⟨Q1 (W5 ∅ h) ∅,W5 ∅ ⋯⟩
theorem Pz.b1(h:Pz κ c e f)(c5:c<=50):∀x∈f,B1 κ x:=λx a=>Zrj (h.q x a) (Wb ∅) (Qq (Zkh c5).1 ‹4›)<|Qq (Zkh c5).2 ‹4›
theorem ZpD{t:Int}{x:κ.F}(n:NumV κ t x)(l:t.natAbs<=1):QN κ ((12^0:Nat):Int) (10^(10*0)) x:=by
 cases κ with
 |r p h=>exact trivial
 |q =>
  obtain ⟨a,b⟩:=n;refine ⟨t,?_,l⟩;rw[<-Qu x,a,b]
theorem ZgH{x:κ.F}{r:Nat}(a:∀j,r<=j->([x]:ZZlk κ).getD j 0=0):sr (([x]:ZZlk κ).take r)=Rg.Ps.con x:=Rg.Ps.ext λj=>by
 rw[Zfz,Zee a]
 cases j <;> rfl
theorem ZpE(a:Trm f)(b:Trm g)(s:sr f=sr g):f=g:=by
 have j:∀k,f.getD k 0=g.getD k 0:=λk=>by rw[<-Zfz,<-Zfz,s]
 have m:∀ {f g:ZZlk κ},Trm f->(∀k,f.getD k 0=g.getD k 0)->f.length<=g.length:=fun {f g} a h=>by
  rcases a with z|z
  ·omega
  ·refine Nat.le_of_not_lt λl=>z ?_;rw[h,Q3,Qz ⋯];rfl
 have l:f.length=g.length:=Nat.le_antisymm (m a j)<|m b λk=>(j k).symm;refine List.ext_getElem l λi o n=>?_;have:=j i
 rwa [Q3,Q7 o,Q3,Q7 n] at this
end
section
variable{κ:KX}{c d e e':Nat}{s t:Sr κ}
structure PS (κ:KX) (c e:Nat) (s:Sr κ):Prop where
 q:∀k,QN κ ((12^c:Nat):Int) (10^(10*c)) (s.c k)
 z:∀k,2*e+1<=k->s.c k=0
theorem Zl8:∀(N:Nat) (s:Sr κ),(∀k,N<=k->s.c k=0)->∃T:ZZlk κ,Trm T/\sr T=s/\T.length<=N
  | 0,s,h=>⟨[],.inl rfl,Rg.Ps.ext λk=>by rw[Zfz,h k<|Q6 _]; rfl,Q2 _⟩
  | N+1,s,h=>by
    by_cases z:s.c N=0
    · obtain ⟨T,a,b,l⟩:=Zl8 N s λk f=>by
        by_cases x:k=N
        · rw[x]; exact z
        · exact h k ⋯
      exact ⟨T,a,b,⋯⟩
    · have g:∀k,((List.range<|N+1).map s.c).getD k 0=s.c k:=λk=>by
        rw[Q3,Q4]
        by_cases x:k<N+1
        · rw[Qj x]; rfl
        · rw[Qz (by rw[Q9]; omega),h k ⋯]; rfl
      refine ⟨(List.range<|N+1).map s.c,.inr ?_,Rg.Ps.ext λk=>by rw[Zfz,g],by rw[Q0,Q9]; exact Q2 _⟩;rw[g,Q0,Q9]; exact z
open Classical in
noncomputable def pl(s:Sr κ):ZZlk κ:=if h:∃T:ZZlk κ,Trm T/\sr T=s then choose h else []
theorem ZhE{T:ZZlk κ}(a:Trm T)(b:sr T=s):pl s=T:=by
 unfold pl;have h:∃T:ZZlk κ,Trm T/\sr T=s:=⟨T,a,b⟩;rw[dif_pos h];have:=Classical.choose_spec h;exact ZpE this.1 a<|this.2.trans b.symm
theorem PS.pl(h:PS κ c e s):Pz κ c e (pl s)/\sr (My.pl s)=s:=by
 obtain ⟨T,a,b,l⟩:=Zl8 _ s h.z;rw[ZhE a b];exact ⟨.of a l λk=>by rw[b];exact h.q k,b⟩
theorem PS.up(h:PS κ c e s)(l:c<=d)(m:e<=e'):PS κ d e' s:=⟨λk=>Zsx (h.q k) l,λk a=>h.z k ⋯⟩
theorem PS.zero:PS κ c e (0:Sr κ):=⟨λk=>by rw[Rg.Ps.c_zero];exact QN.zero,λk _=>Rg.Ps.c_zero k⟩
theorem PS.con{n:Int}{x:κ.F}(h:NumV κ n x)(l:n.natAbs<=1):PS κ 0 0 (Rg.Ps.con x):=⟨λk=>by
 show QN κ _ _ (if k=0 then x else 0)
 split
 ·exact ZpD h l
 ·exact QN.zero,λk a=>if_neg ⋯⟩
theorem PS.add(h:PS κ c e s)(k:PS κ c e t):PS κ (c+1) e (s+t):=⟨λi=>ZiG (QN.add Znn (h.q i)<|k.q i) (by generalize 10^(10*c)=z;omega),λi a=>by rw[Rg.Ps.c_add,h.z i a,k.z i a];grind⟩
theorem PS.sub(h:PS κ c e s)(k:PS κ c e t):PS κ (c+1) e (s-t):=⟨λi=>by
 rw[Rg.Ps.c_sub];exact ZiG (QN.sub Znn (h.q i)<|k.q i) (by generalize 10^(10*c)=z;omega),λi a=>by rw[Rg.Ps.c_sub,h.z i a,k.z i a];grind⟩
theorem PS.mul(h:PS κ c e s)(k:PS κ d e' t)(m:e<=44)(o:e'<=44):PS κ (c+d+1) (e+e') (s*t):=by
 have n:∀i,2*(e+e')+1<=i->(s*t).c i=0:=λi p=>by
  rw[Rg.Ps.c_mul,Rg.Sg_congr (g:=λ_=>0) λj v=>?_,Rg.Sg_zero]
  by_cases x:2*e+1<=j
  ·rw[h.z j x];grind
  ·rw[k.z (i-j) ⋯];grind
 refine ⟨λi=>?_,n⟩;obtain ⟨a,b⟩:=h.pl;obtain ⟨f,l⟩:=k.pl;rw[<-b,<-l,Zl2];have q:=Zpo (W2 Znn Znn) a.q f.q (My.pl s).length i<|Q2 _;rw[<-Wt,<-Wf,<-Wf,<-Ud] at q;refine ZiG q ?_;rw[<-Nat.mul_assoc];have r:=a.l;have u:=f.l;exact Ql _<|Q1 (Wx (show (My.pl s).length<=90 by omega) (show (My.pl t).length<=90 by omega)) ∅
theorem PS.sum{a:Nat->Sr κ}:∀n,(∀i,i<n->PS κ c e (a i))->PS κ (c+n) e (Rg.Sg a n)
 |0,_ => .zero
 |n+1,h=>by
  show PS κ (c+n+1) e (Rg.Sg a n+a n);exact (PS.sum n λi b=>h i ⋯).add<|(h n ⋯).up ⋯<|Q2 _
end
end My
namespace Zp
open My
open PySem L2 PyProof.Rows
variable{Z:Zc}{X:Cx}{P:Program}{w:World}{K:ZZfg}{mg:ZZmg}{base:Heap}{cN:Addr}
theorem Mt.imp{G:ZK}{m:Str}{k:Nat}{S b:ZF}(h:Mt P w K mg base Z G m k S)(mo:MoF b)(f:∀ps Q,b ps Q->S ps Q):Mt P w K mg base Z G m k b :=
 ⟨mo,h.2,h.3,λp x H O r c=>let ⟨a,C,dx,fs,ps,dvs,sp,e,c1,c2,c3,c4,c5⟩:=h.4 p x H O r c;⟨a,C,dx,fs,ps,dvs,sp,e,c1,c2,c3,c4,λo g n Q d i j l=>c5 o g n Q d i j<|f _ _ l⟩⟩
noncomputable abbrev pv(κ:KX)(s:Sr κ):PV:=Zex κ<|pl s
inductive S_qT:ZF
 |mk {Q:PK'} {κ:KX} {c d e e':Nat} {s t:Sr κ} (h:PS κ c e s) (k:PS κ d e' t) (c5:c<=50) (d5:d<=50) (e4:e<=40) (e4':e'<=40) (q:Q (pv κ (s*t))):S_qT [.kp κ,pv κ s,pv κ t] Q
inductive S_qP (g:(κ:KX)->Sr κ->Sr κ->Sr κ):ZF
 |mk {Q:PK'} {κ:KX} {c e:Nat} {s t:Sr κ} (h:PS κ c e s) (k:PS κ c e t) (c5:c<=50) (e4:e<=40) (q:Q (pv κ (g κ s t))):S_qP g [.kp κ,pv κ s,pv κ t] Q
theorem m_qT{k:Nat}(h:Mt P w K mg base Z zKp "times" k Zs5):Mt P w K mg base Z zKp "times" k S_qT :=
 h.imp (λi A B f ⟨c,o,n,e,l,g,q⟩=>⟨c,o,n,e,l,g,f _ q⟩) λi Q ⟨h,k,a,b,r,j,q⟩=>by
  obtain ⟨h,d⟩:=h.pl;obtain ⟨k,m⟩:=k.pl;have p:=h.l;have u:=k.l;exact ⟨⋯,⋯,h.q,k.q,Wb ∅,(Zkh a).1,Wb ∅,(Zkh b).1,(Zkh a).2,(Zkh b).2,λT t s _=>by rw[<-ZhE t (s.trans (by rw[d,m]))];exact q⟩
theorem m_qP{m:Str}{k:Nat}{g:(κ:KX)->Sr κ->Sr κ->Sr κ}(h:Mt P w K mg base Z zKp m k (Zp0 g)):Mt P w K mg base Z zKp m k (S_qP g) :=
 h.imp (λe A B f ⟨b,l,j,d,q⟩=>⟨b,l,j,d,f _ q⟩) λe Q ⟨h,k,a,o,q⟩=>by
  obtain ⟨h,c⟩:=h.pl;obtain ⟨k,i⟩:=k.pl;have n:=h.l;have p:=k.l;exact ⟨⋯,⋯,h.b1 a,k.b1 a,λT t s _=>by rw[<-ZhE t (s.trans (by rw[c,i]))];exact q⟩
theorem Zjv{κ:KX}{e y:κ.F}(h:y=1):e*Fd.inv y=e:=by
 have a:y≠0:=λz=>Fd.zne (α:=κ.F) (by rw[<-z,h]);have m:=Fd.mul_inv y a;rw[h] at m ⊢;generalize Fd.inv (1:κ.F)=w at *;grind
theorem Zl9{κ:KX}{w e y:κ.F}(a:y≠0)(h:w*y=e):w=e*Fd.inv y:=by
 have m:=Fd.mul_inv y a;rw[<-h];generalize Fd.inv y=z at *;grind
inductive Zma:ZF
 |mk {Q:PK'} {κ:KX} {t b:Int} {x y:κ.F} (nx:NumV κ t x) (ny:NumV κ b y) (y0:y≠0) (t1:t.natAbs<=10^100) (b0:0<b) (b1:b.natAbs<=10^100) (br:κ ≠ .q->b=1) (q:Q (num κ (x*Fd.inv y))):Zma [.kd κ,.int t,.int b] Q
theorem mt_num3(kd:Kd K mg Z.f Z.r)(hF:HasMX P w K mg base Z.f "number" 3 ["self","top","bottom"] [] Zck) (hR:HasMX P w K mg base Z.r "number" 3 ["self","top","bottom"] [] (Zcb Z.r cN)):Mt P w K mg base Z zKd "number" 3 Zma :=
 ZpC kd hF hR (λps A B f ⟨W,a2,a3,a4,a5,a6,a7,q⟩=>⟨W,a2,a3,a4,a5,a6,a7,f _ q⟩) (λH O a m ws Q D hg L r s=>by
  generalize e:PV.kd .q::m=l at s;obtain ⟨h,g,R,S,F,M,br,q⟩:=s
  rename_i t b e y
  cases e
  obtain ⟨u,v,rfl,n,j⟩:=r.two;rw[Zax n,Zax j];refine ⟨a,_,b,rfl,F,Q1 M ∅,λr x z E o Y=>q _ _ (Zal E _)<|ZcE (L.same<|Zal E _) ⟨r,rfl,?_⟩⟩;obtain ⟨v,N,C⟩:=Zjg o;have ev:v=(e:KX.q.F)*Fd.inv (y:KX.q.F):=by
   refine Zl9 (κ:=.q) R ?_;have k:y=((b:Int):Rat):=Rat.ext g.1 g.2;have et:e=((t:Int):Rat):=Rat.ext h.1 h.2;have c:∀i:Int,((i:Int):Rat)=Rat.divInt i 1:=λi=>(Qu ((i:Int):Rat)).symm;show (v*y:Rat)=e;rw[k,et,<-Qu v,N,C,c,c,Ug,W4 (by have:=o.pos;omega) ∅,Y];grind
  rw[<-ev];show upd H r _ r=some (.tup [.int (v:Rat).num,.int ((v:Rat).den:Int)]);rw[N,C];exact Zah) (λp d H O a m ws Q D hg L r s=>by
  generalize e:PV.kd (.r p d)::m=l at s;obtain ⟨h,g,R,S,F,M,br,q⟩:=s
  rename_i t b e y
  cases e
  have:=br (λz=>nomatch z);subst this;obtain ⟨u,v,rfl,n,j⟩:=r.two;rw[Zax n,Zax j];have h2:=d.pr.1;refine ⟨a,p,_,1,rfl,D,d.pr,by have:=d.lt;omega,Q1 S ∅,∅,λz=>?_,λ_ H' r J T r1 I=>q _ _ J<|ZcE (L.same J) ?_⟩
  ·have:=Int.le_of_dvd ∅ z;omega
  ·have k:y=K1 (.r p d):=g.uniq Zcy;have em:=Zjv (κ:=.r p d) (e:=e) k;rw[em];show V.int r=V.int ((Fin.val (e:Fin p):Nat):Int);have U:((Fin.val (e:Fin p):Nat):Int)=t%p:=h.2;rw[U]
   congr 1
   rw[Wo] at I;have G:r%p=t%p:=Int.emod_eq_emod_iff_emod_sub_eq_zero.mpr<|U2 I;rw[Uu T r1] at G;exact G)
inductive S_qN:ZF
 |mk {Q:PK'} {κ:KX} {t b:Int} {x y:κ.F} (nx:NumV κ t x) (ny:NumV κ b y) (y0:y≠0) (t1:t.natAbs<=10^100) (b0:0<b) (b1:b.natAbs<=10^100) (br:κ ≠ .q->b=1) (q:Q (pv κ (Rg.Ps.con (x*Fd.inv y)))):S_qN [.kp κ,.int t,.int b] Q
inductive S_qN1:ZF
 |mk {Q:PK'} {κ:KX} {t:Int} {x:κ.F} (n:NumV κ t x) (l:t.natAbs<=10^100) (q:Q (pv κ (Rg.Ps.con x))):S_qN1 [.kp κ,.int t] Q
theorem Zki:FnScope ["self","top","bottom"] ["self","top","bottom"] (Zab Zbn):=‹2›
theorem Zrn{f:Addr}{k:FuncData}{D:Addr}{items:Array Value}(F:FunD K "number" "Polys.number" Zbn f k D items) (i:Pc K mg Z.p) (a:Fn P w K mg base Z "trimmed" 4 ZcG) (c:Mt P w K mg base Z zKd "number" 4 Zma):FnOk P w K mg base (CXx P w) 5 f k ["self","top","bottom"] (liF Z S_qN):=by
 have e:∀d Q,S_qN d Q->d.length=3:=λ_ _ ⟨_,_,_,_,_,_,_,_⟩=>rfl;refine F.okx Zki (λd H Q E h=>by
  obtain ⟨O,pv,l,r,q⟩:=h;rw[r.len];exact e _ _ q) λC A j s H d Q E I h=>Ziw (N:=["self","top","bottom"]) (ps:=["self","top","bottom"]) e (Zai<|Zau<|Zak a<|qa2 (ZlV i.nU i.cl<|qv 0)<|QL.toE<|Zb8<|qa1<|q_m c (ZlV i.nU i.cl<|qv 0)<|qa2 (qv 1)<|qv 2) ∅ (λd Q h=>?_) h
 obtain ⟨p,n,v,z,o,u,br,q⟩:=h
 rename_i κ t b x y
 refine ⟨p,n,v,z,o,u,br,by show 1<=1000;decide,S_trimmedW.mk (κ:=κ) (g:=[x*Fd.inv y]) λr G m B=>?_⟩;rw[<-ZhE (ZeY G B) (ZgH m)];exact q
theorem Zro{m:Str}{k:Nat}{ps:List Str}{S b:ZF}(j:Cls K Z.p)(mo:MoF b)(h:HasMX P w K mg base Z.p m k ps [.int 1] (liF Z S))(f:∀vs Q,b vs Q->S (vs++[.int 1]) Q)(l:(m==("under":Str))=false:=by decide):Mt P w K mg base Z zKp m k b :=
 ⟨mo,Zs3,Zrb,λp x H O r g=>by
  cases p <;> try exact g.elim
  unfold Rep at r;obtain ⟨a,e,d,rfl,c,i⟩:=r;refine ⟨a,Z.p,e,_,ps,_,_,rfl,Zao _ _ c,j,h,?_,λt vs s Q b n o q=>?_⟩
  ·rw[Qr,l];rfl
  ·refine ⟨O,_,n,.cons ?_<|o.append<|.cons Zb6 .nil,f _ _ q⟩;unfold Rep;exact ⟨a,e,d,rfl,Zaz b _ _ c,i.same<|Zaz b⟩⟩
theorem z_qN{d:Tok}(h:HereD K Z.p "number" "Polys.number" Zbn #[.int 1 d]) (c:Pc K mg Z.p) (a:Fn P w K mg base Z "trimmed" 4 ZcG) (b:Mt P w K mg base Z zKd "number" 4 Zma):Mt P w K mg base Z zKp "number" 5 S_qN :=
 Ziz c.cl (λr A B f ⟨e,o,m,g,l,j,k,q⟩=>⟨e,o,m,g,l,j,k,f _ q⟩) (h.hasMX (ds:=[]) .nil (λf n T F=>F.binds λ_ _ _ _ _ _ p i=>by obtain ⟨_,_,_,rfl⟩:=Zc1 (show p.length=3 by simpa using i);exact ⟨_,rfl,rfl⟩) λf n T F=>Zrn F c a b)
theorem z_qN1{e:Tok}(h:HereD K Z.p "number" "Polys.number" Zbn #[.int 1 e]) (g:Pc K mg Z.p) (c:Fn P w K mg base Z "trimmed" 4 ZcG) (d:Mt P w K mg base Z zKd "number" 4 Zma):Mt P w K mg base Z zKp "number" 5 S_qN1 :=
 Zro g.cl (λl A B f ⟨a,b,q⟩=>⟨a,b,f _ q⟩) (h.hasMX (ds:=[.int 1 e]) (.cons ⟨_,rfl⟩ .nil) (λf j T F=>F.binds λ_ _ _ _ _ _ k i=>by obtain ⟨_,_,rfl⟩:=Zcv (show k.length=2 by simpa using i);exact ⟨_,rfl,rfl⟩) λf j T F=>Zrn F g c d) λm Q ⟨a,b,q⟩=>⟨a,Zcy,λz=>Fd.zne z.symm,b,∅,∅,λ_=>rfl,by rw[Zjv rfl];exact q⟩
theorem Zog{κ:KX}:Rg.Ps.con (0:κ.F)=0:=Rg.Ps.ext λj=>by
 rw[Rg.Ps.c_zero];show (if j=0 then (0:κ.F) else 0)=0
 split <;> rfl
noncomputable abbrev prow(κ:KX)(n:Nat)(a:Nat->Sr κ):List PV:=(List.range n).map λi=>pv κ<|a i
theorem rget{α:Type}{f:Nat->α}{n i:Nat}{p:α}(h:((List.range n).map f)[i]?=some p):i<n/\p=f i:=by
 rw[Q4] at h
 by_cases x:i<n
 ·rw[Qj x] at h
  cases h
  exact ⟨x,rfl⟩
 ·rw[Qz (by rw[Q9];omega)] at h
  cases h
inductive S_qD:ZF
 |mk {Q:PK'} {κ:KX} {c d e e' n:Nat} {a b:Nat->Sr κ} (n4:n<=4) (ha:∀i,i<n->PS κ c e (a i)) (hb:∀i,i<n->PS κ d e' (b i)) (c5:c+d<=40) (e4:e+e'<=40) (q:Q (pv κ (Rg.Sg (λi=>a i*b i) n))):S_qD [.kp κ,.lst (prow κ n a),.lst (prow κ n b)] Q
theorem sc_Ksop:FnScope ["self","some","others","total","one","other"] ["self","some","others"] (Zab Zba):=‹2›
theorem z_qD(h:HereM K Z.p "sum_of_products" "Kind.sum_of_products" Zba) (H:Pc K mg Z.p) (M:mg "zip"=none) (k:Mt P w K mg base Z zKp "number" 6 S_qN1) (m:Mt P w K mg base Z zKp "plus" 6 (S_qP λ_ f g=>f+g)) (l:Mt P w K mg base Z zKp "times" 6 S_qT):Mt P w K mg base Z zKp "sum_of_products" 7 S_qD:=by
 have u:=sc_Ksop.nd;refine Ziz H.cl (λU A B f ⟨v,L,I,z,G,q⟩=>⟨v,L,I,z,G,f _ q⟩)<|Zf4 h (λ_ _ F=>F.b3 λ_ _ _ _ _ _ _ _ _=>rfl) sc_Ksop (λ_ _ ⟨_,_,_,_,_,_⟩=>rfl) (λ_ _ _ _ _ _ _ Y =>
  (Zaf (ZaC 3 u<|q_m k (qv 0)<|qa1 ZaA)
  (Zaf (ZbC [4,5] (Zjo M (qv 1)<|qv 2) (ZtO 4 5 u)<|Zai<|ZaC 3 u<|q_m m (qv 0)<|qa2 (qv 3)<|q_m l (qv 0)<|qa2 (qv 4)<|qv 5)
  (Zai<|Zau<|qv 3)))) ∅ ?_
 rintro _ Q ⟨S,s,t,O,W,q⟩
 rename_i o c d e T n a b
 have J:(ZhS (prow o n a)<|prow o n b).length=n:=by rw[ZbP,Q0,Q0,Q9,Ui]
 refine ⟨Zfr,∅,?_⟩;refine ⟨λi N=>i<=n/\N=[some<|.val<|.kp o,some<|.val<|.lst<|prow o n a,some<|.val<|.lst<|prow o n b,some<|.val<|pv o<|Rg.Sg (λi=>a i*b i) i,none,none],⟨Q6 _,by rw[Zog];rfl⟩,?_,?_⟩
 ·rintro i p _ D ⟨_,rfl⟩;obtain ⟨x,y,E,C,rfl⟩:=ZcW D;obtain ⟨r,rfl⟩:=rget E;obtain ⟨_,rfl⟩:=rget C;refine S_qT.mk (s i r) (t i r) ⋯ ⋯ ⋯ ⋯ ?_;exact S_qP.mk (PS.sum (c:=c+d+1) i λj R=>(s j ⋯).mul (t j ⋯) ⋯ ⋯) (((s i r).mul (t i r) ⋯ ⋯).up ⋯<|Q2 _) ⋯ ⋯ ⟨⋯,rfl⟩
 ·rintro _ ⟨_,rfl⟩;rw[J];exact q
noncomputable abbrev prs(κ:KX)(n m:Nat)(a:Nat->Nat->Sr κ):List PV:=(List.range n).map λi => .lst<|prow κ m<|a i
noncomputable abbrev ptb(κ:KX)(n m:Nat)(a:Nat->Nat->Sr κ):PV:=.lst<|prs κ n m a
theorem Zap{α:Type}{f:Nat->α}{n:Nat}:((List.range n).map f).length=n:=by rw[Q0,Q9]
theorem ZaZ{α:Type}{f:Nat->α}{n i:Nat}(h:i<n):((List.range n).map f)[i]?=some (f i):=by rw[Q4,Qj h];rfl
theorem Zbu{f g:Nat->PV}{n:Nat}{z:PV->PK'->Prop}{A:List PV->Prop}(c:n<=1000)(h:∀i,i<n->∀C:PK',C (g i)->z (f i) C)(q:A ((List.range n).map g)):Comp ((List.range n).map f) z A :=
 ⟨_,by rw[Zap,Zap],by rw[Zap];exact c,λi p b=>by
  obtain ⟨a,rfl⟩:=rget b;exact h i a _<|ZaZ a,q⟩
inductive S_qsr:ZF
 |mk {Q:PK'} {κ:KX} {c d e e' m:Nat} {s:Sr κ} {a:Nat->Sr κ} (m4:m<=4) (hs:PS κ c e s) (ha:∀j,j<m->PS κ d e' (a j)) (c5:c<=50) (d5:d<=50) (e4:e<=40) (e4':e'<=40) (q:Q (.lst (prow κ m λj=>s*a j))):S_qsr [.kp κ,pv κ s,.lst (prow κ m a)] Q
theorem z_qsr(h:Here K mg "scaled_row" Zde) (a:Mt P w K mg base Z zKp "times" 6 S_qT):Fn P w K mg base Z "scaled_row" 7 S_qsr:=by
 refine Za2 h (λ_ _ F=>F.b3 λ_ _ _ _ _ _ _ _ _=>rfl) ZgT (λv A B f ⟨d,t,r,e,o,i,l,q⟩=>⟨d,t,r,e,o,i,l,f _ q⟩) (λ_ _ ⟨_,_,_,_,_,_,_,_⟩=>rfl) (λ_ _ _ _ _ _ _ x =>
  (Zai<|Zau<|QL.toE<|Zei "each" [(0,"kind"),(1,"number")] (Zec<|qv 2) (by exact λ_ _ _ _=>(q_m a (qv 1)<|qa2 (qv 2)<|qv 0)))) ∅ ?_
 rintro _ Q ⟨u,p,g,c,s,n,b,q⟩;exact Zbu ⋯ (λj m C k=>S_qT.mk p (g j m) c s n b k) q
inductive S_qsc:ZF
 |mk {Q:PK'} {κ:KX} {c d e e' n m:Nat} {s:Sr κ} {a:Nat->Nat->Sr κ} (n4:n<=4) (m4:m<=4) (hs:PS κ c e s) (ha:∀i j,i<n->j<m->PS κ d e' (a i j)) (c5:c<=50) (d5:d<=50) (e4:e<=40) (e4':e'<=40) (q:Q (ptb κ n m λi j=>s*a i j)):S_qsc [.kp κ,pv κ s,ptb κ n m a] Q
theorem z_qsc(h:Here K mg "scaled" Zgo) (a:Fn P w K mg base Z "scaled_row" 7 S_qsr):Fn P w K mg base Z "scaled" 8 S_qsc:=by
 refine Za2 h (λ_ _ F=>F.b3 λ_ _ _ _ _ _ _ _ _=>rfl) Zl6 (λz A B f ⟨g,y,v,l,t,n,o,c,q⟩=>⟨g,y,v,l,t,n,o,c,f _ q⟩) (λ_ _ ⟨_,_,_,_,_,_,_,_,_⟩=>rfl) (λ_ _ _ _ _ _ _ E =>
  (Zai<|Zau<|QL.toE<|Zei "row" [(0,"kind"),(1,"number")] (Zec<|qv 2) (by exact λ_ _ _ _=>(Zak a<|qa3 (qv 1) (qv 2)<|qv 0)))) ∅ ?_
 rintro _ Q ⟨D,e,u,m,d,x,r,b,q⟩;exact Zbu ⋯ (λi s C k=>S_qsr.mk e u (λj p=>m i j s p) d x r b k) q
inductive S_qsw:ZF
 |mk {Q:PK'} {κ:KX} {c d e e' n m:Nat} {a:Nat->Nat->Sr κ} {b:Nat->Sr κ} (n4:n<=4) (m4:m<=4) (ha:∀i j,i<n->j<m->PS κ c e (a i j)) (hb:∀j,j<m->PS κ d e' (b j)) (c5:c+d<=40) (e4:e+e'<=40) (q:Q (.lst (prow κ n λi=>Rg.Sg (λj=>a i j*b j) m))):S_qsw [.kp κ,ptb κ n m a,.lst (prow κ m b)] Q
theorem z_qsw(h:Here K mg "sums_with" ZdL) (a:Mt P w K mg base Z zKp "sum_of_products" 7 S_qD):Fn P w K mg base Z "sums_with" 8 S_qsw:=by
 refine Za2 h (λ_ _ F=>F.b3 λ_ _ _ _ _ _ _ _ _=>rfl) ZhC (λu A B f ⟨d,t,r,e,p,l,q⟩=>⟨d,t,r,e,p,l,f _ q⟩) (λ_ _ ⟨_,_,_,_,_,_,_⟩=>rfl) (λ_ _ _ _ _ _ _ x =>
  (Zai<|Zau<|QL.toE<|Zei "row" [(0,"kind"),(2,"column")] (Zec<|qv 1) (by exact λ_ _ _ _=>(q_m a (qv 1)<|qa2 (qv 0)<|qv 2)))) ∅ ?_
 rintro _ Q ⟨v,c,g,s,b,n,q⟩;exact Zbu ⋯ (λi o C k=>S_qD.mk c (λj m=>g i j o m) s b n k) q
inductive S_qco:ZF
 |mk {Q:PK'} {κ:KX} {n m j:Nat} {a:Nat->Nat->Sr κ} (n4:n<=1000) (hj:j<m) (q:Q (.lst (prow κ n λi=>a i j))):S_qco [ptb κ n m a,.int (j:Int)] Q
theorem z_qco(h:Here K mg "column_at" ZdK):Fn P w K mg base Z "column_at" 1 S_qco:=by
 refine Za2 h (λ_ _ F=>F.b2 λ_ _ _ _ _ _ _ _=>rfl) ZhB (λe A B f ⟨a,b,q⟩=>⟨a,b,f _ q⟩) (λ_ _ ⟨_,_,_⟩=>rfl) (λ_ _ _ _ _ _ _ j =>
  (Zai<|Zau<|QL.toE<|Zei "row" [(1,"place")] (Zec<|qv 0) (by exact λ_ _ _ _=>(Zcg (qv 0)<|qv 1)))) ∅ ?_
 rintro _ Q ⟨d,c,q⟩;exact Zbu d (λi g C k=>⟨_,Zaq<|ZaZ c,k⟩) q
inductive S_qtu:ZF
 |mk {Q:PK'} {κ:KX} {n m:Nat} {a:Nat->Nat->Sr κ} (n1:1<=n) (n4:n<=4) (m4:m<=4) (q:Q (ptb κ m n λj i=>a i j)):S_qtu [ptb κ n m a] Q
theorem z_qtu(h:Here K mg "turned" Zgn) (T:Nm mg) (d:Fn P w K mg base Z "column_at" 1 S_qco):Fn P w K mg base Z "turned" 2 S_qtu:=by
 refine Za2 h (λ_ _ F=>F.b1 λ_ _ _ _ _ _ _=>rfl) Zl5 (λk A B f ⟨a,b,c,q⟩=>⟨a,b,c,f _ q⟩) (λ_ _ ⟨_,_,_,_⟩=>rfl) (λ_ _ _ _ _ _ _ t =>
  (Zai<|Zau<|QL.toE<|Zei "place" [(0,"table")] (Zb9 T.range<|ZaT T.len<|Zcg (qv 0) ZaA) (by exact λ_ _ _ _=>(Zak d<|qa2 (qv 1)<|qv 0)))) ∅ ?_
 rintro _ Q ⟨r,s,g,q⟩
 rename_i l n m a
 refine ⟨_,Zaq (j:=0)<|ZaZ ⋯,?_⟩;show ((List.map _ _).length:Int)<_/\_;rw[Zap];refine ⟨⋯,⋯,_,by rw[ZaE,Zap];omega,by rw[ZaE];omega,λi p e=>?_,q⟩;obtain ⟨o,rfl⟩:=ZaN e;rw[Qo];refine S_qco.mk ⋯ ⋯ ?_;exact ZaZ ⋯
end Zp
namespace My.Rg
open PySem L2 PyProof.Rows
section
variable{α:Type}[Lean.Grind.CommRing α]
theorem skL{j t:Nat}(h:t<j):skip j t=t:=by unfold skip;rw[if_pos h]
theorem skH{j t:Nat}(h:j<=t):skip j t=t+1:=by unfold skip;rw[if_neg ⋯]
theorem skN{j t:Nat}:skip j t≠j:=by
 by_cases h:t<j
 ·rw[skL h];omega
 ·rw[skH ⋯];omega
theorem skB{j t n:Nat}(h:t<n):skip j t<n+1:=by
 by_cases q:t<j
 ·rw[skL q];omega
 ·rw[skH ⋯];omega
def mnr(n:Nat)(a:Nat->Nat->α)(r j:Nat):α:=det n λi k=>a (skip r i)<|skip j k
theorem ZgU{n:Nat}:∀ {r:Nat} {a:Nat->Nat->α},r<=n->det (n+1) a=Sg (λj=>sgn α (r+j)*a r j*mnr n a r j) (n+1)
 |0,a,_=>by
  show Sg _ (n+1)=_;refine Sg_congr λj _=>?_;rw[Uv];have e:mnr n a 0 j=det n λi k=>a (i+1) (skip j k):=det_congr λi k _ _=>by rw[skH<|Q6 i]
  rw[e]
 |r+1,a,h=>by
  have e:=ZlG (n:=n+1) (a:=a) (r:=r) ⋯;rw[ZgU (r:=r) (a:=Zbi (Zbi a r<|a<|r+1) (r+1)<|a r) ⋯] at e;have c:det (n+1) a=0-Sg (λj=>sgn α (r+j)*Zbi (Zbi a r<|a<|r+1) (r+1) (a r) r j*mnr n (Zbi (Zbi a r<|a<|r+1) (r+1)<|a r) r j) (n+1):=by
   rw[e];generalize det (n+1) a=d;grind
  rw[c];have m:∀f:Nat->α,0-Sg f (n+1)=Sg (λi=>(0-1)*f i) (n+1):=λf=>by
   rw[<-Zb0];generalize Sg f (n+1)=s;grind
  rw[m];refine Sg_congr λj _=>?_;have b:Zbi (Zbi a r<|a<|r+1) (r+1) (a r) r j=a (r+1) j:=by
   unfold Zbi;rw[if_neg ⋯,if_pos rfl]
  have g:mnr n (Zbi (Zbi a r<|a<|r+1) (r+1)<|a r) r j=mnr n a (r+1) j:=by
   unfold mnr;refine det_congr λi k _ _=>?_;unfold Zbi
   by_cases h1:i<r
   ·rw[skL h1,skL (show i<r+1 by omega),if_neg ⋯,if_neg ⋯]
   ·by_cases h2:i=r
    ·subst h2;rw[skH<|Q2 i,skL (show i<i+1 by omega),if_pos rfl]
    ·rw[skH (show r<=i by omega),skH (show r+1<=i by omega),if_neg ⋯,if_neg ⋯]
  rw[b,g,show r+1+j=r+j+1 by omega];show (0-1)*(sgn α (r+j)*a (r+1) j*mnr n a (r+1) j)=(0-sgn α (r+j))*a (r+1) j*mnr n a (r+1) j;generalize mnr n a (r+1) j=x;grind
theorem ZhF{n r s:Nat}{a:Nat->Nat->α}(c:r<=n)(f:s<=n)(b:r≠s):Sg (λj=>sgn α (r+j)*a s j*mnr n a r j) (n+1)=0:=by
 have e:=ZgU (n:=n) (r:=r) (a:=Zbi a r<|a s) c;rw[Zjh (r:=r) (s:=s) ⋯ ⋯ b λj=>by unfold Zbi;rw[if_pos rfl,if_neg<|λz=>b z.symm]] at e;rw[e];refine Sg_congr λj _=>?_;have d:mnr n (Zbi a r<|a s) r j=mnr n a r j:=by
  unfold mnr;exact det_congr λi k _ _=>by unfold Zbi;rw[if_neg skN]
 rw[d];unfold Zbi;rw[if_pos rfl]
def cofN(n:Nat)(a:Nat->Nat->α)(i j:Nat):α:=sgn α (i+j)*mnr n a j i
theorem cof_right{n i j:Nat}{a:Nat->Nat->α}(c:i<=n)(b:j<=n):Sg (λk=>a i k*cofN n a k j) (n+1)=if i=j then det (n+1) a else 0:=by
 have e:Sg (λk=>a i k*cofN n a k j) (n+1)=Sg (λk=>sgn α (j+k)*a i k*mnr n a j k) (n+1):=Sg_congr λk _=>by
  unfold cofN;rw[Nat.add_comm k j];generalize mnr n a j k=x;grind
 rw[e]
 by_cases h:i=j
 ·rw[if_pos h,h,ZgU b]
 ·rw[if_neg h];exact ZhF b c λz=>h z.symm
theorem cof_left{n i j:Nat}{a:Nat->Nat->α}(c:i<=n)(b:j<=n):Sg (λk=>cofN n a i k*a k j) (n+1)=if i=j then det (n+1) a else 0:=by
 have t:∀k,mnr n a k i=mnr n (λi j=>a j i) i k:=λk=>by
  unfold mnr;rw[<-Zez (a:=λt l=>a (skip k t)<|skip i l)]
 have e:Sg (λk=>cofN n a i k*a k j) (n+1)=Sg (λk=>sgn α (i+k)*a k j*mnr n (λi j=>a j i) i k) (n+1):=Sg_congr λk _=>by
  unfold cofN;rw[t];generalize mnr n (λi j=>a j i) i k=x;grind
 rw[e,<-Zez (a:=a)]
 by_cases h:i=j
 ·rw[if_pos h,h,ZgU (a:=λi j=>a j i) b]
 ·rw[if_neg h];exact ZhF (a:=λi j=>a j i) c b h
def prd(y:Nat->α):Nat->α
 |0=>1
 |n+1=>prd y n*y n
theorem ZhG(y:Nat->α):∀n,prd y (n+1)=y 0*prd (λi=>y<|i+1) n
 |0=>by show (1:α)*y 0=y 0*1;grind
 |n+1=>by
  show prd y (n+1)*y (n+1)=y 0*(prd (λi=>y<|i+1) n*y (n+1));rw[ZhG y n];grind
theorem prd_congr{y z:Nat->α}:∀ {n:Nat},(∀i,i<n->y i=z i)->prd y n=prd z n
 |0,_=>rfl
 |n+1,h=>by
  show prd y n*y n=prd z n*z n;rw[prd_congr λi a=>h i ⋯,h n ⋯]
theorem det_scl:∀ {n:Nat} {a:Nat->Nat->α} {y:Nat->α},det n (λi j=>y i*a i j)=prd y n*det n a
 |0,a,y=>by show (1:α)=1*1;grind
 |n+1,a,y=>by
  show Sg (λj=>sgn α j*(y 0*a 0 j)*det n λi k=>y (i+1)*a (i+1) (skip j k)) (n+1)=prd y (n+1)*Sg (λj=>sgn α j*a 0 j*det n λi k=>a (i+1)<|skip j k) (n+1);rw[ZhG,Zb0];refine Sg_congr λj _=>?_;rw[det_scl (n:=n) (a:=λi k=>a (i+1)<|skip j k) (y:=λi=>y<|i+1)];generalize (det n λi k=>a (i+1)<|skip j k)=d;generalize prd (λi=>y<|i+1) n=p;grind
end
end My.Rg
namespace My
open PySem L2 PyProof.Rows
section
variable{κ:KX}{k l:Nat}{b c:Int}{y z:κ.F}
structure Bq (κ:KX) (k:Nat) (b:Int) (y:κ.F):Prop where
 n:NumV κ b y
 p:0<b
 d:b ∣ ((12^k:Nat):Int)
 r:κ ≠ .q->b=1
theorem Bq.le(h:Bq κ k b y):b.natAbs<=12^k:=by
 have:=Int.le_of_dvd (Int.natCast_pos.mpr<|Wb ∅) h.d;have:=h.p;omega
theorem Bq.ten(h:Bq κ k b y)(m:k<=50):b.natAbs<=10^100:=Q1 h.le<|Q1 (W5 ∅ m) ∅
theorem Bq.ne(h:Bq κ k b y):y≠0:=by
 cases κ with
 |r p a =>
  have e:=h.r λz=>nomatch z;have n:=h.n;rw[e] at n;rw[show y=K1 (.r p a) from n.uniq Zcy];exact Zpz (κ:=.r p a)
 |q =>
  intro z;have n:Rat.num y=b:=h.n.1;rw[show y=(0:Rat) from z] at n;have:=h.p;have n:(0:Int)=b:=n;omega
theorem k11:K1 κ*K1 κ=K1 κ:=by
 show (1:κ.F)*1=1;grind
theorem Bq.one:Bq κ k 1 1:=⟨Zcy,∅,Int.one_dvd _,λ_=>rfl⟩
theorem Bq.mul(h:Bq κ k b y)(g:Bq κ l c z):Bq κ (k+l) (b*c) (y*z):=by
 refine ⟨?_,W2 h.p g.p,by rw[Wf,Wt];exact Int.mul_dvd_mul h.d g.d,λe=>by rw[h.r e,g.r e];rfl⟩
 cases κ with
 |q =>
  have a:y=((b:Int):Rat):=Rat.ext h.n.1 h.n.2;have d:z=((c:Int):Rat):=Rat.ext g.n.1 g.n.2;have j:(y*z:Rat)=((b*c:Int):Rat):=by rw[a,d,Rat.intCast_mul]
  show Rat.num (y*z:Rat)=b*c/\Rat.den (y*z:Rat)=1;rw[j];exact ⟨rfl,rfl⟩
 |r p m =>
  have a:=h.r λz=>nomatch z;have d:=g.r λz=>nomatch z;have i:=h.n;have f:=g.n;rw[a] at i;rw[d] at f;rw[i.uniq Zcy,f.uniq Zcy,a,d];rw[k11];exact Zcy
theorem PS.con'{x:κ.F}(q:QN κ ((12^k:Nat):Int) (10^(10*k)) x):PS κ k 0 (Rg.Ps.con x):=⟨λi=>by
 show QN κ _ _ (if i=0 then x else 0)
 split
 ·exact q
 ·exact QN.zero,λi a=>if_neg ⋯⟩
theorem Zs6:12^k*12^k<=10^(10*k):=by
 rw[<-Nat.mul_pow,Nat.pow_mul];exact Nat.pow_le_pow_left ∅ k
theorem Bq.con(h:Bq κ k b y):PS κ k 0 (Rg.Ps.con y):=PS.con' (by
 cases κ with
 |r p a=>exact trivial
 |q =>
  refine ⟨b*((12^k:Nat):Int),?_,by rw[Qs,Qk];exact Q1 (Ql _ h.le) Zs6⟩;rw[<-Qu y,h.n.1,h.n.2,W4 ∅ (by have:=Znn (c:=k);omega)];show b*_=b*_*1;rw[Wo])
theorem Bq.inv{t:Int}{x:κ.F}(h:Bq κ k b y)(n:NumV κ t x)(l:t.natAbs<=1)(m:x*Fd.inv y*y=x):PS κ k 0 (Rg.Ps.con<|x*Fd.inv y):=PS.con' (by
 cases κ with
 |r p w=>exact trivial
 |q =>
  obtain ⟨g,a⟩:=h.d;have s:g.natAbs<=12^k:=by
   have e:=congrArg Int.natAbs a;rw[Qk,Qs] at e;rw[e];exact Ue _ (by have:=h.p;omega)
  refine ⟨t*g,?_,by rw[Qs];exact Q1 (Wx l s) (by rw[Nat.one_mul];exact Q1 (Ue _<|Wb ∅) Zs6)⟩;have d:y=((b:Int):Rat):=Rat.ext h.n.1 h.n.2;have f:x=((t:Int):Rat):=Rat.ext n.1 n.2;have c:∀i:Int,((i:Int):Rat)=Rat.divInt i 1:=λi=>(Qu ((i:Int):Rat)).symm;have j:=h.ne;have e:(Rat.divInt (t*g) ((12^k:Nat):Int)*y:Rat)=x:=by
   rw[d,f,c,c,Ug,W4 (by rw[Wo];have:=Znn (c:=k);omega) ∅,a];grind
  have m:(x*Fd.inv y*y:KX.q.F)=x:=m;show (x*Fd.inv y:KX.q.F)=Rat.divInt (t*g) ((12^k:Nat):Int);generalize Rat.divInt (t*g) ((12^k:Nat):Int)=u at *;have e:(u:KX.q.F)*y=x:=e;have A:=Fd.mul_inv y j;generalize Fd.inv y=v at *;generalize (0:KX.q.F)=o at *;grind)
end
end My
namespace Zp
open My
open PySem L2 PyProof.Rows
variable{Z:Zc}{X:Cx}{P:Program}{w:World}{K:ZZfg}{mg:ZZmg}{base:Heap}{cN:Addr}
theorem Zjw{f c g:Nat->PV}{n:Nat}{z:PV->PK'->Prop}{A:List PV->Prop}(k:n<=1000)(h:∀i,i<n->∀C:PK',C (g i)->z (.tup [f i,c i]) C)(q:A ((List.range n).map g)):Comp (ZhS ((List.range n).map f)<|(List.range n).map c) z A :=
 ⟨_,by rw[ZbP,Zap,Zap,Zap,Ui],by rw[ZbP,Zap,Zap,Ui];exact k,λi p e=>by
  obtain ⟨a,b,j,l,rfl⟩:=ZcW e;obtain ⟨d,rfl⟩:=rget j;obtain ⟨_,rfl⟩:=rget l;exact h i d _<|ZaZ d,q⟩
theorem ZcY{g:Nat->PV}{n:Nat}{z:PV->PK'->Prop}{A:List PV->Prop}(c:n<=1000)(h:∀i:Nat,i<n->∀C:PK',C (g i)->z (.int (i:Int)) C)(q:A ((List.range n).map g)):Comp (ZhR 0 n) z A :=
 ⟨_,by rw[ZaE,Zap],by rw[ZaE];exact c,λi p b=>by
  obtain ⟨a,rfl⟩:=ZaN b;rw[Qo];exact h i a _<|ZaZ a,q⟩
inductive S_qpr:ZF
 |mk {Q:PK'} {κ:KX} {c e m:Nat} {a b:Nat->Sr κ} (m4:m<=4) (ha:∀j,j<m->PS κ c e (a j)) (hb:∀j,j<m->PS κ c e (b j)) (c5:c<=50) (e4:e<=40) (q:Q (.lst (prow κ m λj=>a j+b j))):S_qpr [.kp κ,.lst (prow κ m a),.lst (prow κ m b)] Q
theorem z_qpr(h:Here K mg "plus_row" Zem) (e:mg "zip"=none) (a:Mt P w K mg base Z zKp "plus" 6 (S_qP λ_ f g=>f+g)):Fn P w K mg base Z "plus_row" 7 S_qpr:=by
 refine Za2 h (λ_ _ F=>F.b3 λ_ _ _ _ _ _ _ _ _=>rfl) ZiF (λt A B f ⟨d,r,o,i,n,q⟩=>⟨d,r,o,i,n,f _ q⟩) (λ_ _ ⟨_,_,_,_,_,_⟩=>rfl) (λ_ _ _ _ _ _ _ u =>
  (Zai<|Zau<|QL.toE<|Zra "left" "right" [(0,"kind")] (Zjo e (qv 1)<|qv 2) (by exact λ_ _ _ _=>(q_m a (qv 2)<|qa2 (qv 0)<|qv 1)))) ∅ ?_
 rintro _ Q ⟨s,l,p,c,m,q⟩;exact Zjw ⋯ (λj b C k=>S_qP.mk (l j b) (p j b) c m k) q
inductive S_qpt:ZF
 |mk {Q:PK'} {κ:KX} {c e n m:Nat} {a b:Nat->Nat->Sr κ} (n1:1<=n) (n4:n<=4) (m4:m<=4) (ha:∀i j,i<n->j<m->PS κ c e (a i j)) (hb:∀i j,i<n->j<m->PS κ c e (b i j)) (c5:c<=50) (e4:e<=40) (q:Q (ptb κ n m λi j=>a i j+b i j)):S_qpt [.kp κ,ptb κ n m a,ptb κ n m b] Q
theorem sc_plus_table:FnScope ["kind","A","B"] ["kind","A","B"] (Zab Zcp):=‹2›
theorem z_qpt(h:Here K mg "plus_table" Zcp) (T:Nm mg) (D:mg "zip"=none) (d:Fn P w K mg base Z "plus_row" 7 S_qpr):Fn P w K mg base Z "plus_table" 8 S_qpt:=by
 refine Za2 h (λ_ _ F=>F.b3 λ_ _ _ _ _ _ _ _ _=>rfl) sc_plus_table (λJ A B f ⟨p,x,u,r,t,E,G,q⟩=>⟨p,x,u,r,t,E,G,f _ q⟩) (λ_ _ ⟨_,_,_,_,_,_,_,_⟩=>rfl) (λ_ _ _ _ _ _ _ N =>
  (Zaf (Zci (QW.t<|Zm8 (Zfv Zda lne (ZaT T.len<|qv 1)<|ZaT T.len<|qv 2)<|ZgL<|Zfv Zda lne (ZaT T.len<|Zcg (qv 1) ZaA)<|ZaT T.len<|Zcg (qv 2) ZaA) (Zai Zpk) Zbo)
  (Zai<|Zau<|QL.toE<|Zra "row" "other" [(0,"kind")] (Zjo D (qv 1)<|qv 2) (by exact λ_ _ _ _=>(Zak d<|qa3 (qv 2) (qv 0)<|qv 1))))) ∅ ?_
 rintro _ Q ⟨M,I,y,s,v,o,H,q⟩
 rename_i L c e n m a b
 refine brn (λz=>absurd (by show ((List.map _ _).length:Int)=((List.map _ _).length:Int);rw[Zap,Zap]) z) λ_=>?_;refine ⟨_,Zaq (j:=0)<|ZaZ ⋯,_,Zaq (j:=0)<|ZaZ ⋯,?_⟩;refine brn (λz=>absurd (by show ((List.map _ _).length:Int)=((List.map _ _).length:Int);rw[Zap,Zap]) z) λ_=>?_;exact Zjw ⋯ (λi l C k=>S_qpr.mk y (λj g=>s i j l g) (λj g=>v i j l g) o H k) q
inductive S_qtt:ZF
 |mk {Q:PK'} {κ:KX} {c d e e' n m l:Nat} {a b:Nat->Nat->Sr κ} (n1:1<=n) (n4:n<=4) (m1:1<=m) (m4:m<=4) (l4:l<=4) (ha:∀i j,i<n->j<m->PS κ c e (a i j)) (hb:∀i j,i<m->j<l->PS κ d e' (b i j)) (c5:d+c<=40) (e4:e'+e<=40) (q:Q (ptb κ n l λi j=>Rg.Sg (λk=>b k j*a i k) m)):S_qtt [.kp κ,ptb κ n m a,ptb κ m l b] Q
theorem sc_times_table:FnScope ["kind","A","B","columns"] ["kind","A","B"] (Zab Zb4):=‹2›
theorem z_qtt(h:Here K mg "times_table" Zb4) (T:Nm mg) (o:Fn P w K mg base Z "turned" 8 S_qtu) (g:Fn P w K mg base Z "sums_with" 8 S_qsw):Fn P w K mg base Z "times_table" 9 S_qtt:=by
 have S:=sc_times_table.nd;refine Za2 h (λ_ _ F=>F.b3 λ_ _ _ _ _ _ _ _ _=>rfl) sc_times_table (λY A B f ⟨v,L,I,x,H,N,O,t,M,q⟩=>⟨v,L,I,x,H,N,O,t,M,f _ q⟩) (λ_ _ ⟨_,_,_,_,_,_,_,_,_,_⟩=>rfl) (λ_ _ _ _ _ _ _ hr =>
  (Zaf (Zci (Zfv Zda lne (ZaT T.len<|Zcg (qv 1) ZaA)<|ZaT T.len<|qv 2) (Zai Zpk) Zbo)
  (Zaf (ZaC 3 S<|Zak o<|qa1<|qv 2)
  (Zai<|Zau<|QL.toE<|Zei "row" [(0,"kind"),(3,"columns")] (Zec<|qv 1) (by exact λ_ _ _ _=>(Zak g<|qa3 (qv 1) (qv 2)<|qv 0)))))) ∅ ?_
 rintro _ Q ⟨n1,U,G,s,r,y,J,u,R,q⟩
 rename_i κ c d e W n m l a b
 refine ⟨_,Zaq (j:=0)<|ZaZ ⋯,?_⟩;refine brn (λz=>absurd (by show ((List.map _ _).length:Int)=((List.map _ _).length:Int);rw[Zap,Zap]) z) λ_=>?_;refine S_qtu.mk G s r ?_;exact Zbu ⋯ (λi E C k=>S_qsw.mk r s (λj k p D=>J k j D p) (λj p=>y i j E p) u R k) q
noncomputable def u1(κ:KX)(i j:Nat):Sr κ:=if j=i then 1 else 0
inductive S_qur:ZF
 |mk {Q:PK'} {κ:KX} {n i:Nat} (n4:n<=4) (q:Q (.lst (prow κ n (u1 κ i)))):S_qur [.kp κ,.int (n:Int),.int (i:Int)] Q
theorem ZiH:FnScope ["kind","size","place"] ["kind","size","place"] (Zab Zel):=‹2›
theorem Zsy{κ:KX}:Rg.Ps.con (1:κ.F)=1:=rfl
theorem z_qur(h:Here K mg "unit_row" Zel) (T:Nm mg) (b:Mt P w K mg base Z zKp "number" 6 S_qN1):Fn P w K mg base Z "unit_row" 7 S_qur:=by
 refine Za2 h (λ_ _ F=>F.b3 λ_ _ _ _ _ _ _ _ _=>rfl) ZiH (λd A B f ⟨a,q⟩=>⟨a,f _ q⟩) (λ_ _ ⟨_,_⟩=>rfl) (λ_ _ _ _ _ _ _ l =>
  (Zai<|Zau<|QL.toE<|Zei "column" [(0,"kind"),(2,"place")] (Zb9 T.range<|qv 1) (by exact λ_ _ _ _=>(q_m b (qv 1)<|qa1<|ZqY (Zfv Za6 leq (qv 0)<|qv 2) ZaA ZaA)))) ∅ ?_
 rintro _ Q ⟨g,q⟩
 rename_i c n i
 refine ⟨⋯,⋯,?_⟩;rw[Qa];refine ZcY ⋯ (λj e C k=>?_) q;refine br (λz=>⟨Zcy,∅,?_⟩) λz=>⟨Zfr,∅,?_⟩
 ·rw[show u1 c i j=1 from if_pos ⋯,<-Zsy] at k;exact k
 ·rw[show u1 c i j=0 from if_neg ⋯,<-Zog] at k;exact k
inductive S_qu:ZF
 |mk {Q:PK'} {κ:KX} {n:Nat} (n4:n<=4) (q:Q (ptb κ n n (u1 κ))):S_qu [.kp κ,.int (n:Int)] Q
theorem ZpF:FnScope ["kind","size"] ["kind","size"] (Zab Zlq):=‹2›
theorem z_qu(h:Here K mg "unit" Zlq) (T:Nm mg) (b:Fn P w K mg base Z "unit_row" 7 S_qur):Fn P w K mg base Z "unit" 8 S_qu:=by
 refine Za2 h (λ_ _ F=>F.b2 λ_ _ _ _ _ _ _ _=>rfl) ZpF (λd A B f ⟨a,q⟩=>⟨a,f _ q⟩) (λ_ _ ⟨_,_⟩=>rfl) (λ_ _ _ _ _ _ _ g =>
  (Zai<|Zau<|QL.toE<|Zei "place" [(0,"kind"),(1,"size")] (Zb9 T.range<|qv 1) (by exact λ_ _ _ _=>(Zak b<|qa3 (qv 1) (qv 2)<|qv 0)))) ∅ ?_
 rintro _ Q ⟨c,q⟩;refine ⟨⋯,⋯,?_⟩;rw[Qa];exact ZcY ⋯ (λi e C k=>S_qur.mk c k) q
inductive S_qsq:ZF
 |mk {Q:PK'} {κ:KX} {n:Nat} {a:Nat->Nat->Sr κ} (n1:1<=n) (q:Q (.bl true)):S_qsq [ptb κ n n a] Q
theorem sc_is_square:FnScope ["table"] ["table"] (Zab Zcf):=‹2›
theorem z_qsq(h:Here K mg "is_square" Zcf) (T:Nm mg):Fn P w K mg base Z "is_square" 1 S_qsq:=by
 refine Za2 h (λ_ _ F=>F.b1 λ_ _ _ _ _ _ _=>rfl) sc_is_square (λc A B f ⟨a,q⟩=>⟨a,f _ q⟩) (λ_ _ ⟨_,_⟩=>rfl) (λ_ _ _ _ _ _ _ d =>
  (Zai<|Zau<|Zhy Za6 leq (ZaT T.len<|qv 0)<|ZaT T.len<|Zcg (qv 0) ZaA)) ∅ ?_
 rintro _ Q ⟨b,q⟩;refine ⟨_,Zaq (j:=0)<|ZaZ ⋯,?_⟩;show Q (.bl<|decide<|((List.map _ _).length:Int)=((List.map _ _).length:Int));rw[Zap,Zap,decide_eq_true rfl];exact q
inductive S_qne:ZF
 |mk {Q:PK'} {κ:KX} {n:Nat} {a:Nat->Nat->Sr κ} (n1:1<=n) (q:Q .non):S_qne [ptb κ n n a] Q
theorem sc_need_square:FnScope ["table"] ["table"] (Zab Zb3):=‹2›
theorem z_qne(h:Here K mg "need_square" Zb3) (b:Fn P w K mg base Z "is_square" 1 S_qsq):Fn P w K mg base Z "need_square" 2 S_qne:=by
 refine Za2 h (λ_ _ F=>F.b1 λ_ _ _ _ _ _ _=>rfl) sc_need_square (λd A B f ⟨a,q⟩=>⟨a,f _ q⟩) (λ_ _ ⟨_,_⟩=>rfl) (λ_ _ _ _ _ _ _ e =>
  (Zai<|Zci (Zc7<|ZgK<|Zak b<|qa1<|qv 0) (Zai Zpk) Zbo)) ∅ ?_
 rintro _ Q ⟨c,q⟩;exact ⟨c,q⟩
theorem Zsz{κ:KX}{F:ZZlk κ}{A:Int}{c M:Nat}(h:ZqP κ F A)(q:∀x∈F,QN κ ((12^c:Nat):Int) M x)(c5:c<=50):∃y,Bq κ c A y:=by
 obtain ⟨d,a⟩:=Zrf (Wb ∅) q h;obtain ⟨y,f⟩:=ZlX (κ:=κ) (A:=A)<|Q1 (Q1 a<|W5 ∅ c5) ∅;refine ⟨y,f,d,?_,λe=>?_⟩
 ·cases κ with
  |q=>exact h.2.2 _ λx g=>Zpw (Wb ∅)<|q x g
  |r p b=>rw[show A=1 from h];exact Int.one_dvd _
 ·cases κ with
  |q=>exact absurd rfl e
  |r p b=>exact h
inductive S_qB:ZF
 |mk {Q:PK'} {κ:KX} {c e m:Nat} {a:Nat->Sr κ} (m4:m<=4) (ha:∀j,j<m->PS κ c e (a j)) (c5:c<=50) (e4:e<=40) (q:∀A y,Bq κ c A y->Q (.int A)):S_qB [.kp κ,.lst (prow κ m a)] Q
theorem sc_Pbot:FnScope ["self","some","numbers","one"] ["self","some"] (Zab Zbe):=‹2›
theorem z_qB(h:HereM K Z.p "common_bottom" "Polys.common_bottom" Zbe) (n:Pc K mg Z.p) (b:Mt P w K mg base Z zKd "common_bottom" 5 Zsv):Mt P w K mg base Z zKp "common_bottom" 6 S_qB:=by
 have r:=sc_Pbot.nd;refine Ziz n.cl (λO A B f ⟨t,I,G,u,q⟩=>⟨t,I,G,u,λA y h=>f _<|q A y h⟩)<|Zf4 h (λ_ _ F=>F.b2 λ_ _ _ _ _ _ _ _=>rfl) sc_Pbot (λ_ _ ⟨_,_,_,_,_⟩=>rfl) (λ_ _ _ _ _ _ _ S =>
  (Zaf (Zch 2 r<|Zb8 ZbB)
  (Zaf (ZbC [3] (Zec<|qv 1) (Zg6 3 r)<|Zai<|Zq6 2<|qv 3)
  (Zai<|ZbZ 2<|Zau<|q_m b (ZlV n.nU n.cl<|qv 0)<|qa1<|qv 2)))) ∅ ?_
 rintro _ Q ⟨N,j,o,R,q⟩
 rename_i g c e m a
 have D:∀i,i<=m->(((List.range i).map λk=>pl<|a k).flatten).length<=i*81:=λi=>by
  induction i with
  |zero=>intro _;exact Q2 _
  |succ i M =>
   intro l;have s:=(j i ⋯).pl.1.l;rw[Wz,Qw,List.flatten_append,Qc];have:=M ⋯;have e:(([i]:List Nat).map λk=>pl<|a k).flatten=pl (a i):=by simp
   rw[e];omega
 have p:∀x∈((List.range m).map λk=>pl<|a k).flatten,QN g ((12^c:Nat):Int) (10^(10*c)) x:=λx d=>by
  obtain ⟨f,H,d⟩:=List.mem_flatten.mp d;obtain ⟨k,C,rfl⟩:=Wy.mp H;exact (j k<|W3.mp C).pl.1.q x d
 refine ⟨by show 0<=1000;decide,λi J=>i<=m/\J=[some<|.val<|.kp g,some<|.val<|.lst<|prow g m a,some<|.own<|(((List.range i).map λk=>pl<|a k).flatten).map<|num g,none],⟨Q6 _,rfl⟩,?_,?_⟩
 ·rintro i _ _ v ⟨_,rfl⟩;obtain ⟨l,rfl⟩:=rget v;have:=D i ⋯;have s:=(j i l).pl.1.l;refine ⟨by rw[Zcq,Zcq];omega,l,?_⟩;rw[Wz,Qw,List.flatten_append,Qw,show (([i]:List Nat).map λk=>pl<|a k).flatten=pl (a i) by simp]
 ·rintro _ ⟨_,rfl⟩;rw[Zap];have E:Bits 4000 ((12^c:Nat):Int):=Bits.of (by rw[Qk];exact Qq (Zkh o).1<|Q5 (show 10^200<2^1000 by decide)<|W5 ∅ ∅);refine ⟨((12^c:Nat):Int),Znn,E,λx d=>Zpw (Wb ∅)<|p x d,λA L=>?_⟩;obtain ⟨y,z⟩:=Zsz L p o;exact q A y z
inductive S_qF:ZF
 |mk {Q:PK'} {κ:KX} {e n m:Nat} {a:Nat->Nat->Sr κ} (n4:n<=4) (m4:m<=4) (ha:∀i j,i<n->j<m->PS κ 1 e (a i j)) (e4:e<=40) (q:∀(y:Nat->κ.F) b,(∀i,i<n->∃A,Bq κ 1 A (y i))->Bq κ n b (Rg.prd y n)->Q (.tup [ptb κ n m λi j=>Rg.Ps.con (y i)*a i j,.int b])):S_qF [.kp κ,ptb κ n m a] Q
theorem sc_freed:FnScope ["kind","table","rows","bottom","row","factor"] ["kind","table"] (Zab Zib):=‹2›
theorem z_qF(h:Here K mg "freed" Zib) (p:Mt P w K mg base Z zKp "common_bottom" 7 S_qB) (g:Mt P w K mg base Z zKp "number" 7 S_qN1) (d:Fn P w K mg base Z "scaled_row" 7 S_qsr):Fn P w K mg base Z "freed" 8 S_qF:=by
 have t:=sc_freed.nd;refine Za2 h (λ_ _ F=>F.b2 λ_ _ _ _ _ _ _ _=>rfl) sc_freed (λW A B f ⟨I,O,N,J,q⟩=>⟨I,O,N,J,λy b k l=>f _<|q y b k l⟩) (λ_ _ ⟨_,_,_,_,_⟩=>rfl) (λ_ _ _ _ _ _ _ Y =>
  (Zaf (Zch 2 t<|Zb8 ZbB)
  (Zaf (ZaC 3 t ZaA)
  (Zaf (ZbC [4,5] (Zec<|qv 1) (Zg6 4 t)<|Zaf (ZaC 5 t<|q_m p (qv 0)<|qa1<|qv 4)
   (Zaf (Zc3 2<|Zak d<|qa3 (qv 0) (q_m g (qv 0)<|qa1<|qv 5)<|qv 4)
   (Zai<|Zpv 3 Zpy (λ_ _ _ _ h=>h) t<|qv 5)))
  (Zai<|ZbZ 2<|Zau<|ZqV<|qa2 (qv 2)<|qv 3))))) ∅ ?_
 rintro _ Q ⟨U,G,E,H,q⟩
 rename_i o e n m a
 refine ⟨by show 0<=1000;decide,λi S=>i<=n/\∃(y:Nat->o.F) (b:Int),(∀k,k<i->∃A,Bq o 1 A<|y k)/\Bq o i b (Rg.prd y i)/\S=[some<|.val<|.kp o,some<|.val<|ptb o n m a,some<|.own<|(List.range i).map λk => .lst<|prow o m λj=>Rg.Ps.con (y k)*a k j,some<|.val<|.int b,none,none],⟨Q6 _,λ_=>1,1,λ_ z=>absurd z<|Nat.not_lt_zero _,.one,rfl⟩,?_,?_⟩
 ·rintro i _ _ L ⟨_,y,b,u,s,rfl⟩;obtain ⟨D,rfl⟩:=rget L;refine S_qB.mk (c:=1) G (λj C=>E i j D C) ∅ H λA x r=>?_;refine S_qN1.mk r.n (r.ten ∅) ?_;refine S_qsr.mk (c:=1) (e:=0) G r.con (λj C=>E i j D C) ∅ ∅ ∅ H ?_;refine ⟨by rw[Zap];omega,ZpW (Q1 (s.ten ⋯) ∅)<|Q1 (r.ten ∅) ∅,?_⟩;have T:∀k,k<i->(λk=>if k=i then x else y k) k=y k:=λk v=>if_neg ⋯;refine ⟨D,λk=>if k=i then x else y k,b*A,λk v=>?_,?_,?_⟩
  ·by_cases z:k=i
   ·exact ⟨A,by show Bq o 1 A (if k=i then x else y k);rw[if_pos z];exact r⟩
   ·obtain ⟨B,M⟩:=u k ⋯;exact ⟨B,by show Bq o 1 B (if k=i then x else y k);rw[if_neg z];exact M⟩
  ·show Bq o (i+1) (b*A) (Rg.prd _ i*(if i=i then x else y i));rw[if_pos rfl,Rg.prd_congr T];exact s.mul r
  ·rw[Wz,Qw];have R:((List.range i).map λk=>PV.lst<|prow o m λj=>Rg.Ps.con (if k=i then x else y k)*a k j)=(List.range i).map λk=>PV.lst (prow o m λj=>Rg.Ps.con (y k)*a k j):=U4 λk v=>by rw[if_neg (by have:=W3.mp v;omega)]
   rw[R];show _=[_,_,some<|Sl.own<|_++[PV.lst<|prow o m λj=>Rg.Ps.con (if i=i then x else y i)*a i j],_,_,_];rw[if_pos rfl]
 ·rintro _ ⟨_,y,b,u,s,rfl⟩;rw[Zap] at u s;rw[Zap];exact ⟨by show 2<=1000;decide,q y b u s⟩
end Zp
namespace L2
open PySem PySem.Spec PyProof.Rows
section
variable{X:Cx}
def ZsA(K:ZZfg):R2:=λx y H Q=>∃a b c d,x = .ref a/\y = .ref b/\SqT K H a c/\SqT K H b d/\c.length+d.length<=sizeLine ∧
 (c=[]->Q (.ref b) H)/\(c≠[]->d=[]->Q (.ref a) H)/\(c≠[]->d≠[]->∀p,H p=none->Q (.ref p) (upd H p<|.tup<|c++d))
theorem ZpG:OpR X (binaryOp .Add) (ZsA X.K):=by
 intro d s S H x y v u Q I o A h;obtain ⟨a,b,r,E,rfl,rfl,p,t,O,L,N,G⟩:=h
 by_cases hx:r=[]
 ·cases o
  cases A
  obtain ⟨g,P,D,_⟩:=I.tuple p;obtain ⟨i,T,K,_⟩:=I.tuple t;have M:g=[]:=P.nil_iff.mpr hx;obtain ⟨⟨J,C,z,R⟩,m,B,n,w⟩:=id D;obtain ⟨⟨q,k,l,j⟩,c,e,F,f⟩:=id K
  simp only at B w e f
  subst B w e f;exact concat_meets ⟨_,m,rfl⟩ ⟨_,c,rfl⟩ noFill_tuple_add seq_tuple_add PySem.F.slot_tuple_add PySem.F.entry_tuple_add (PySem.F.args_tuple_add_2 _ _)
   (tuple_addW0 a b g.toArray i.toArray n F C k R j (by simp[M])) ⟨m,c,⟨.ref b,H,I,rfl,L hx⟩⟩
 ·exact ZoF d s S H _ _ v u Q I o A ⟨a,b,r,E,rfl,rfl,p,t,hx,O,N hx,G hx⟩
def ZsB:R2:=λx y H Q=>∃a b e d,x = .ref a/\y = .ref b/\H a=some (.tup e)/\H b=some (.tup d)/\e.length+d.length<=sizeLine/\∀p c,(∀b o,H b=some o->c b=some o)->c p=some (.tup<|e++d)->Q (.ref p) c
theorem Zmb:OpR X (binaryOp .Add) ZsB:=λc s w H x y v u Q I l m h=>by
 obtain ⟨a,b,A,j,r,k,d,g,n,q⟩:=h;refine ZpG c s w H x y v u Q I l m ⟨a,b,A,j,r,k,SqT.of d,SqT.of g,n,λz=>?_,λz f=>?_,λz f p i=>?_⟩
 ·exact q b H (λ_ _ e=>e) (by rw[z];exact g)
 ·exact q a H (λ_ _ e=>e) (by rw[f,Wq];exact d)
 ·exact q p _ (λb o e=>by rw[Zaj (λt=>by rw[t,i] at e;cases e)];exact e) Zah
end
end L2
namespace My
open PySem L2 PyProof.Rows
section
def kc(c:List Nat):List Key:=c.map λx:Nat=>Sum.inl (x:Int)
theorem ZpH(c:List Nat):(kc c).map kV=c.map λx:Nat=>V.int (x:Int):=by
 unfold kc;rw[U7]
 rfl
def Inc(m:Nat)(c:List Nat):Prop:=c.Pairwise (· < ·)/\∀x∈c,x<m
theorem ZeZ{m j:Nat}{c:List Nat}(h:Inc m c):Inc m (c.take j++c.drop (j+1)):=by
  refine ⟨?_,λx a=>?_⟩
  · have e:(c.take j++c.drop (j+1)).Sublist c:=by
      have:=List.Sublist.append (List.Sublist.refl<|c.take j)<|List.drop_sublist_drop_left c<|U9 j
      rwa [List.take_append_drop] at this
    exact h.1.sublist e
  · rcases W6.mp a with q | q
    · exact h.2 x (List.mem_of_mem_take q)
    · exact h.2 x (List.mem_of_mem_drop q)
theorem Ze0{j:Nat}{c:List Nat}(h:j<c.length):(c.take j++c.drop (j+1)).length=c.length-1:=by
 rw[Qc,Qi,Qv];omega
theorem Zmc{j:Nat}{c:List Nat}(h:j<c.length)(t:Nat):(c.take j++c.drop (j+1)).getD t 0=c.getD (Rg.skip j t) 0:=by
 have l:(c.take j).length=j:=by rw[Qi];omega
 rw[Q3,Q3]
 by_cases q:t<j
 ·rw[Rg.skip_lo q,Wd ⋯,Wh,if_pos q]
 ·rw[Rg.skip_hi ⋯,Wa ⋯,l,Ww,show j+1+(t-j)=t+1 by omega]
def bdC(m:Nat):List Nat->Nat
 | []=>m
 |y::_=>y
theorem Zoh{m:Nat}{c:List Nat}(h:Inc m c):bdC m c<=m:=by
 cases c with
 |nil=>exact Q2 _
 |cons y c=>exact Qx<|h.2 y (by simp)
theorem Zjx{m x:Nat}{c:List Nat}(h:Inc m c)(b:x<bdC m c):Inc m (x::c):=by
 refine ⟨List.pairwise_cons.mpr ⟨λy a=>?_,h.1⟩,λy a=>?_⟩
 ·cases c with
  |nil=>cases a
  |cons z c =>
   rcases Qe.mp a with e|e
   ·rw[e];exact b
   ·exact Ua b ((List.pairwise_cons.mp h.1).1 y e)
 ·rcases Qe.mp a with e|e
  ·rw[e];exact Q5 b<|Zoh h
  ·exact h.2 y e
theorem Zno{m x:Nat}{c:List Nat}(h:Inc m (x::c)):Inc m c/\x<bdC m c:=by
 refine ⟨⟨(List.pairwise_cons.mp h.1).2,λy a=>h.2 y (by simp[a])⟩,?_⟩
 cases c with
 |nil=>exact h.2 x (by simp)
 |cons z c=>exact (List.pairwise_cons.mp h.1).1 z (by simp)
theorem Zmd:∀ {c d:List Nat},kc c=kc d->c=d
 | [],[],_=>rfl
 | [],_::_,h=>by cases h
 |_::_,[],h=>by cases h
 |x::c,y::d,h=>by
  have a:(Sum.inl (x:Int):Key)=Sum.inl (y:Int):=(List.cons.inj h).1;have b:(x:Int)=y:=Sum.inl.inj a;rw[Zmd (c:=c) (d:=d) (List.cons.inj h).2,show x=y by omega]
theorem Znp{kvs:List (List Key×V)}{k:List Key}{v:V}{p:List Key×V}(h:p∈Zhq kvs k v):p.1=k\/∃q∈kvs,q.1=p.1:=by
 unfold Zhq at h
 split at h
 ·obtain ⟨q,a,e⟩:=Wy.mp h;refine .inr ⟨q,a,?_⟩;rw[<-e]
  split <;> rfl
 ·rcases W6.mp h with h|h
  ·exact .inr ⟨p,h,rfl⟩
  ·rw[Qh.mp h];exact .inl rfl
theorem ZpI{kvs:List (List Key×V)}{k:List Key}{v:V}(h:Zfc kvs k=some v):∃i:Nat,kvs[i]?=some (k,v):=by
 unfold Zfc at h;obtain ⟨p,b,e⟩:=Option.map_eq_some_iff.mp h;have a:=List.find?_some b;have d:p.1=k:=of_decide_eq_true a;obtain ⟨i,c⟩:=List.getElem?_of_mem<|List.mem_of_find?_eq_some b;exact ⟨i,by rw[c,<-d,<-e]⟩
theorem ZfB(m:Nat):Inc m (List.range m):=⟨List.pairwise_lt_range,λx a=>W3.mp a⟩
def PR(κ:KX)(H:Hp)(v:V)(s:Rg.Ps κ.F):Prop:=∃a b,v = .ref a/\H a=some (.lst b)/\AllG (NR κ H) b (pl s)
def MnQ(κ:KX)(H:Hp)(kvs:List (List Key×V))(a:Nat->Nat->Rg.Ps κ.F)(k m:Nat):Prop :=
 (∀c,Inc m c->c.length=k->∃v,Zfc kvs (kc c)=some v/\PR κ H v (Rg.det k λi j=>a i<|c.getD j 0))/\∀p∈kvs,∃c,Inc m c/\c.length=k/\p.1=kc c
def DicP(κ:KX)(k m:Nat)(a:Nat->Nat->Rg.Ps κ.F)(H:Hp)(d:Addr):Prop:=∃b,Rd H d (.dT b)/\MnQ κ H b a k m
structure Dk (H H':Hp):Prop where
 o:∀a o,H a=some o->(∀z,o ≠ .dT z)->H' a=some o
 n:∀a,H a≠none->H' a≠none
variable{κ:KX}{H H' H2:Hp}
theorem Dk.tr(h:Dk H H')(g:Dk H' H2):Dk H H2:=⟨λa o e n=>g.o a o (h.o a o e n) n,λa n=>g.n a<|h.n a n⟩
theorem Dk.of(S:Same H H'):Dk H H':=⟨λa o e _=>S a o e,λa n z=>by
 cases e:H a with
 |none=>exact n e
 |some o=>rw[S _ _ e] at z;cases z⟩
theorem Dk.upd{d:Addr}{x:List (List Key×V)}{o:HO}(h:H d=some (.dT x)):Dk H (upd H d o):=⟨λa b e n=>by rw[Zaj λz=>by rw[z,h] at e;exact n _ (Option.some.inj e).symm];exact e,λa n z=>by
 by_cases e:a=d
 ·rw[e,Zah] at z;cases z
 ·rw[Zaj e] at z;exact n z⟩
theorem NR.dk{v:V}{x:κ.F}(h:NR κ H v x)(D:Dk H H'):NR κ H' v x:=by
 cases κ with
 |q=>obtain ⟨a,e,h⟩:=h;exact ⟨a,e,D.o _ _ h λ_ z=>nomatch z⟩
 |r p b=>exact h
theorem PR.dk{v:V}{s:Rg.Ps κ.F}(h:PR κ H v s)(D:Dk H H'):PR κ H' v s:=let ⟨a,us,e,h,r⟩:=h;⟨a,us,e,D.o _ _ h (λ_ z=>nomatch z),r.mono λ_ _ n=>n.dk D⟩
theorem MnQ.dk{kvs:List (List Key×V)}{a:Nat->Nat->Rg.Ps κ.F}{k m:Nat}(h:MnQ κ H kvs a k m)(D:Dk H H'):MnQ κ H' kvs a k m :=
 ⟨λc b lc=>let ⟨v,e,n⟩:=h.1 c b lc;⟨v,e,n.dk D⟩,h.2⟩
theorem Zme{d:Addr}{x:HO}(h:Rd H d x)(S:Same H H'):Rd H' d x:=h.elim (λz => .inl<|S _ _ z) λ⟨o,z⟩ => .inr ⟨o,S _ _ z⟩
theorem DicP.same{k m:Nat}{a:Nat->Nat->Rg.Ps κ.F}{d:Addr}(h:DicP κ k m a H d)(S:Same H H'):DicP κ k m a H' d:=let ⟨kvs,r,n⟩:=h;⟨kvs,Zme r S,n.dk<|.of S⟩
def ovR(b:Nat->Rg.Ps κ.F)(a:Nat->Nat->Rg.Ps κ.F):Nat->Nat->Rg.Ps κ.F
 |0,j=>b j
 |i+1,j=>a i j
end
end My
namespace Zp
open My
open PySem L2 PyProof.Rows
variable{Z:Zc}{X:Cx}
abbrev zTp(p:PV)(f:List PV->Prop):Prop:=match p with
 | .tup l=>f l
 |_=>False
theorem ZhH{f g:List PV->Prop}{p:PV}(h:∀l,f l->g l)(k:zTp p f):zTp p g:=by
 unfold zTp at *
 split at k
 ·exact h _ k
 ·exact k
theorem ZfC{f:List PV->Prop}{p:PV}(k:zTp p f):∃l,p = .tup l/\f l:=by
 unfold zTp at k
 split at k
 ·exact ⟨_,rfl,k⟩
 ·exact k.elim
theorem ZgV{O:ZZla}{H:Hp}{a:Addr}{us:List V}(L:Ls O H)(h:H a=some (.tup us)):hide O H a=some (.tup us):=by
 rw[hide_out λm=>by obtain ⟨b,q⟩:=L a m;rw[h] at q;cases q];exact h
section
variable{x y:Str}{pos p2 p3 apos:Pos}{a b e o i elt it tg:Expr}{ta tb te to':ZE}{t ti:ZA}{lo hi:Option Expr}{tl th:ZO}{scope:Scope}{caps:List (Nat×Str)}
abbrev ZsC(ta tb:ZE):ZE:=λc Q=>ta c λp=>tb c λq=>zTp p λl=>zTp q λm=>l.length+m.length<=1000/\Q (.tup<|l++m)
theorem Zoi(j:QE Z X a ta)(u:QE Z X b tb):QE Z X (.BinOp a .Add b pos) (ZsC ta tb) :=
 ⟨λg _ _ f q=>j.mo g _ _ (λp k=>u.mo g _ _ (λ_ k=>ZhH (λ_ k=>ZhH (λ_ k=>⟨k.1,f _ k.2⟩) k) k) k) q,λB A=>Zbf (Zam Zmb (j.ok B A)<|u.ok B A) λS H Q ⟨O,g,s,q⟩ =>
  ⟨O,g,s,j.mo g _ _ (λp k v P w J=>⟨O,g,s.same w,u.mo g _ _ (λT k R N S2 G=>by
   obtain ⟨l,rfl,C⟩:=ZfC k;obtain ⟨m,rfl,M,D⟩:=ZfC C;obtain ⟨c,F,rfl,h,r⟩:=rep_tup J;obtain ⟨d,I,rfl,K,z⟩:=rep_tup G;refine ⟨c,d,F,I,rfl,rfl,S2 _ _<|Zao _ _ h,Zao _ _ K,by rw[r.len,z.len];exact Qx<|ZaR M,λp E n L=>D _ E (Zat w<|Zat S2 n) ?_⟩;exact rep_t (ZgV (s.ls.same<|Zat w<|Zat S2 n) L)<|((r.h S2).append z).h n) k⟩) q⟩⟩
abbrev ZtR(te:ZE)(tl th:ZO):ZE:=λc Q=>te c λp=>zTp p λl=>tl c λlo=>th c λhi=>¬(HT.sIx l.length 0 lo=0/\HT.sIx l.length l.length hi=l.length)/\Q (.tup<|ZcH l lo hi)
theorem Znq(n:QE Z X e te)(m:QO Z X lo tl)(w:QO Z X hi th):QE Z X (.Subscript e (.Slice lo hi none p2) pos) (ZtR te tl th) :=
 ⟨λc _ _ f q=>n.mo c _ _ (λp k=>ZhH (λl k=>m.mo c _ _ (λ_ k=>w.mo c _ _ (λ_ k=>⟨k.1,f _ k.2⟩) k) k) k) q,λz u=>Zbf (ZeS Zqi (n.ok z u) (m.ok z u)<|w.ok z u) λE H Q ⟨O,c,s,q⟩ =>
  ⟨O,c,s,n.mo c _ _ (λp k v D d A=>by
   obtain ⟨l,rfl,k⟩:=ZfC k;obtain ⟨a,B,rfl,h,r⟩:=rep_tup A;exact ⟨O,c,s.same d,m.mo c _ _ (λlo k C S2=>⟨O,c,s.same<|Zat d S2,w.mo c _ _ (λhi k F g=>⟨a,B,rfl,.of<|g _ _<|S2 _ _<|Zao _ _ h,by rw[r.len];exact k.1,λp j=>k.2 _ _ (Zat d<|Zat S2<|Zat g<|Zal j _)<|rep_t (ZgV (s.ls.same<|Zat d<|Zat S2<|Zat g<|Zal j _) Zah)<|(r.cut lo hi).h<|Zat S2<|Zat g<|Zal j _⟩) k⟩) k⟩) q⟩⟩
abbrev zTr(te:ZE):ZE:=λc Q=>te c λp=>Zjl p λj=>0<=j/\j<=1000/\Q (.tup<|ZhR 0 j.toNat)
theorem Zs7{p p4 c:Pos}(m:X.mg "tuple" = none) (E:X.mg "range" = none) (g:QE Z X e te) (l:Gl X "tuple" := by rfl) (D:Gl X "range" := by rfl) (I:X.calm=true:=by rfl) (A:starEach [e] X.env=[(false,eval e X.env)]:=by rfl) (h:starEach [.Call (.Name "range" p) [e] [] pos] X.env=[(false,eval (.Call (.Name "range" p) [e] [] pos) X.env)]:=by rfl) :
    QE Z X (.Call (.Name "tuple" p4) [.Call (.Name "range" p) [e] [] pos] [] c) (zTr te) :=
  ⟨λd _ _ f q=>g.mo d _ _ (λ_ k=>ZcV (λ_ k=>⟨k.1,k.2.1,f _ k.2.2⟩) k) q,λC B=>Zbf (Zlp l m D E I (Zaa (g.ok C B) Zae A) A h) λM H Q ⟨O,d,s,q⟩ =>
    ⟨O,d,s,g.mo d _ _ (λp k v J z F=>by
      obtain ⟨j,rfl,L,K,k⟩:=Zb7 k;obtain ⟨n,rfl⟩:∃n:Nat,j=n:=⟨j.toNat,⋯⟩;rw[Qa] at k;refine ⟨n,by rw[Zax F],⋯,λp r=>k _ _ (Zat z<|Zal r _)<|rep_t (ZgV (s.ls.same<|Zat z<|Zal r _) Zah)<|.of (by rw[ZaE,Q0,Q9]) λi q u G w=>?_⟩;obtain ⟨hi,rfl⟩:=ZaN G;rw[Q4,Qj hi] at w
      cases w
      rw[Qo]; exact Zb6) q⟩⟩
abbrev ZtS(te:ZE):ZA:=λc Q=>te c λp=>zTp p Q
theorem ZtT(h:QE Z X e te):QI Z X tg e (ZtS te) :=
 ⟨λd _ _ f q=>h.mo d _ _ (λp k=>ZhH f k) q,λC A=>Zkb (Zqb<|h.ok C A) λK H R ⟨O,d,s,q⟩=>⟨O,d,s,h.mo d _ _ (λp k v B E F=>by
  obtain ⟨l,rfl,k⟩:=ZfC k;obtain ⟨a,c,rfl,j,r⟩:=rep_tup F;refine ⟨a,rfl,⟨c,.of<|Zao _ _ j⟩,k _ B E λJ w S2 _ i=>?_⟩;have g:w a=some (.tup c):=Zao _ _<|S2 _ _ j;refine ⟨λe=>⟨c,.of g,by rw[e,r.len];exact Q2 _⟩,λp n=>?_⟩;obtain ⟨u,m,z⟩:=r.get n;refine ⟨⟨c,u,.of g,m⟩,λx I ⟨D,G⟩=>?_⟩;subst D;have:=G c<|.of g;rw[m] at this;cases this;exact ⟨ZaW,z.same S2⟩) q⟩⟩
abbrev zEn(te:ZE):ZA:=λc Q=>te c λp=>zTp p λl=>Q<|ZhS (ZhR 0 l.length) l
theorem ZsD{h:List Expr}{k0}{d p:Pos}(W:X.mg "enumerate"=none) (m:QE Z X a ta) (S:Gl X "enumerate":= by rfl) (C:starEach [a] X.env=[(false,eval a X.env)]:=by rfl):QI Z X (.Tuple h k0 d) (.Call (.Name "enumerate" p) [a] [] pos) (zEn ta) :=
 ⟨λj _ _ f q=>m.mo j _ _ (λ_ k=>ZhH (λ_ k=>f _ k) k) q,λN L=>Zkb (ZqG S W (Zaa (m.ok N L) Zae C) C) λσ H R ⟨O,j,s,q⟩=>⟨O,j,s,m.mo j _ _ (λp k v M U Y=>by
  obtain ⟨l,rfl,k⟩:=ZfC k;obtain ⟨c,g,rfl,D,r⟩:=rep_tup Y;refine ⟨c,rfl,⟨g,.of<|Zao _ _ D⟩,k _ M U λO3 Q w P i=>?_⟩;have n:Q c=some (.tup g):=Zao _ _<|w _ _ D;have lr:=r.len;refine ⟨λe=>⟨g,.of n,by rw[ZbP,ZaE,Ui] at e;omega⟩,λp G=>?_⟩;obtain ⟨x,y,K,J,rfl⟩:=ZcW G;obtain ⟨hi,rfl⟩:=ZaN K;obtain ⟨v,u,F⟩:=r.get J;refine ⟨⟨g,v,.of n,u⟩,λz H4 ⟨T,E,ez,x',ex,I⟩=>?_⟩;have A:=ex g<|.of n;rw[u] at A;cases A;subst ez I;have B:=Zal E<|HO.tup [.int (i:Int),v];exact ⟨B,rep_t (by rw[hide_out<|P.new E];exact Zah)<|.cons (by rw[Qo];exact Zb6)<|.cons ((F.same w).h B) .nil⟩) q⟩⟩
def Zdc(Z:Zc):Prop:=∀c k m a H d,Z.la c k m a H d↔DicP c k m a H d
inductive GetD (p q:PV) (Q:PK'):Prop
 |mk {κ:KX} {k m:Nat} {a:Nat->Nat->Sr κ} (c:List Nat) (hp:p = .la κ k m a) (hq:q = .tup (c.map λx:Nat => .int (x:Int))) (ic:Inc m c) (lc:c.length=k) (k:Q (pv κ (Rg.det k λi j=>a i (c.getD j 0)))):GetD p q Q
abbrev zDg(ta tb:ZE):ZE:=λc Q=>ta c λp=>tb c λq=>GetD p q Q
theorem GetD.mo{p q:PV}{A B:PK'}(f:∀p,A p->B p)(h:GetD p q A):GetD p q B:=let ⟨c,a,b,d,e,k⟩:=h;⟨c,a,b,d,e,f _ k⟩
theorem ZgW{H:Hp}:hide [] H=H:=funext λa=>if_neg (by simp)
theorem PR.rep{κ:KX}{H:Hp}{v:V}{s:Sr κ}(h:PR κ H v s):Rep Z H (pv κ s) v:=by
 obtain ⟨a,g,rfl,h,r⟩:=h;refine rep_l h<|.of (by rw[r.1,Q0]) λi p u c f=>?_;obtain ⟨x,d,rfl⟩:=Zof c;have:=ZcE (Z:=Z) (O:=[]) (H:=H) (λ_ z=>nomatch z)<|r.2 i u x f d;rw[ZgW] at this;exact this
theorem pr_of{κ:KX}{H:Hp}{v:V}{s:Sr κ}(h:Rep Z H (pv κ s) v):PR κ H v s:=by
 obtain ⟨a,c,rfl,h,r⟩:=rep_lst h;have:=Zcr (Z:=Z) (O:=[]) (H:=H) (by rw[ZgW];exact r);exact ⟨a,c,rfl,h,this⟩
theorem Znr{H:Hp}{c:List Nat}{us:List V}(r:Reps Z H (c.map λx:Nat => .int (x:Int)) us):us=c.map λx:Nat=>V.int (x:Int):=by
 refine Uj λi=>?_;have l:=r.len;rw[Q0] at l
 by_cases hi:i<c.length
 ·obtain ⟨u,d,f⟩:=r.get (i:=i) (p:=.int ((c[i]:Nat):Int)) (by rw[Q4,Q7 hi];rfl);rw[d,Zax f,Q4,Q7 hi];rfl
 ·rw[Qz ⋯,Qz (by rw[Q0];omega)]
theorem ZsE{k:Nat}(F:Zdc Z)(l:QE Z X o ta)(h:QE Z X i tb)(J:Room k X.A:=by assumption)(G:Zsa i:=by exact λ_ _=>rfl):QE Z X (.Subscript o i pos) (zDg ta tb) :=
 ⟨λg _ _ f q=>l.mo g _ _ (λp k=>h.mo g _ _ (λ_ k=>k.mo f) k) q,λu n=>Zbf (Zo3 (ZoH J) (l.ok u n) (h.ok u n) G) λN H Q ⟨O,g,s,q⟩ =>
  ⟨O,g,s,l.mo g _ _ (λp k v K w j=>⟨O,g,s.same w,h.mo g _ _ (λP k M A S2 E=>by
   obtain ⟨c,rfl,rfl,ic,lc,D⟩:=k;unfold Rep at j;obtain ⟨d,rfl,j⟩:=j;obtain ⟨m,C,z⟩:=((F _ _ _ _ _ _).mp j).same<|Zaz S2;obtain ⟨b,L,rfl,h,r⟩:=rep_tup E;obtain ⟨v,I,B⟩:=z.1 c ic lc;refine ⟨d,v,rfl,.inr ⟨m,kc c,b,Zme C Zao,rfl,by rw[ZpH,<-Znr r];exact Zao _ _ h,I.symm⟩,D v A (Zat w S2)<|PR.rep B⟩) k⟩) q⟩⟩
theorem Zns(i:Nat)(x h:Str)(caps:List (Nat×Str)){k0:Nat}{p p4 p5:Pos}(U:X.N.Nodup)(hi:QI Z X (.Tuple [.Name x p2,.Name h p3] k0 p5) it ti)(J:∀j d c C,QE Z (ZaD X scope (x::h::caps.map (·.2)) d c C j) elt te)(Q:X.N[i]?=some y:=by rfl)(I:X.env.scope.names.lookup y=some .local:=by rfl)(w:CapsOk X scope caps:=by repeat (first | exact trivial | refine And.intro ⟨rfl,rfl,by first | exact .inl rfl | exact .inr rfl⟩ ?_))(M:X.calm=true:=by rfl)
    (E:(x::h::caps.map (·.2)).Nodup:=by decide +kernel)
    (G:(scope.names.all λy=>!(y.2==NameKind.free)||(X.env.cells.lookup y.1).isSome)=true:=by rfl)
    (F:swapsWith (.ListComp elt [⟨.Tuple [.Name x p2,.Name h p3] k0 p5,it,[],0⟩] scope pos) (some<|.Name y p4) p.line X.env=pure true:=by rfl)
    (r:scope.kind = .function:=by rfl) (u:∀y∈scope.names,y.2 ≠ .cell:=by decide +kernel)
    (m:∀y∈scope.names,y.2 = .local->scope.names.lookup y.1=some .local:=by decide +kernel) (hs:∀x,foldedSetIterable it X.env x=pure x:=by intro _; rfl)
    (P:∀j d c C,Loc (ZaD X scope (x::h::caps.map (·.2)) d c C j).env.scope x/\(ZaD X scope (x::h::caps.map (·.2)) d c C j).env.scope.names.lookup x=some .local/\Loc (ZaD X scope (x::h::caps.map (·.2)) d c C j).env.scope h/\(ZaD X scope (x::h::caps.map (·.2)) d c C j).env.scope.names.lookup h=some .local:=by exact λ_ _ _ _=>⟨.inl rfl,rfl,.inl rfl,rfl⟩) :
    QS Z X (.Assign [.Name y p4] (.ListComp elt [⟨.Tuple [.Name x p2,.Name h p3] k0 p5,it,[],0⟩] scope pos) p) (Zq0 i<|ZqT<|ZrL caps ti te):=by
  have W:∀j d c C,PG (ZaD X scope (x::h::caps.map (·.2)) d c C j) (.Tuple [.Name x p2,.Name h p3] k0 p5) (ZnH X.K 2<|ZeM (Zcm 0)<|ZeM (Zcm 1) ZpV):=λj d c C=>let ⟨l1,l2,l3,l4⟩:=P j d c C; ZfT (n:=2) M (Zbp (ZaL (i:=0) E rfl l1<|.inr l2)<|Zbp (ZaL (i:=1) E rfl l3<|.inr l4) Zej);have S:Mo te:=(J [] X.s₀ X.H₀ 0).mo;refine ZlW (λv A B f q=>hi.mo v _ _ (λl k=>k.mo (λ_ _ z=>z) f) q) ⟨λD D' v l q=>hi.mo v _ _ (λls k=>k.mo (λ_ _ z=>z) λ_=>l.nx _) q,λL K=>Zdo (ZcD [x,h] caps U Q I M (hi.ok L K) W (λj d c C=>(J j d c C).ok L K) w G F r u m hs) λD σ H ⟨O,v,s,q⟩=>Ziy hi.mo S σ H _ ⟨O,v,s,hi.mo v _ _ (λls k=>k.mo (λ_ _ z=>z) λl k a us R Y n g r1=>?_) q⟩⟩;obtain ⟨N,T⟩:=s.own Y (i:=i) n g r1;exact k _ _ R N T
end
end Zp
namespace My.Rg
open PySem L2 PyProof.Rows
theorem sgn_if{α:Type}[Lean.Grind.CommRing α](x:α):∀n,sgn α n*x=if n%2=0 then x else 0-x
 |0=>by show (1:α)*x=x;grind
 |n+1=>by
  show (0-sgn α n)*x=_;have h:=sgn_if x n
  by_cases e:n%2=0
  ·rw[if_pos e] at h;rw[if_neg ⋯];grind
  ·rw[if_neg e] at h;rw[if_pos ⋯];grind
end My.Rg
namespace Zp
open My
open PySem L2 PyProof.Rows
variable{Z:Zc}{X:Cx}{P:Program}{w:World}{K:ZZfg}{mg:ZZmg}{base:Heap}{cN:Addr}
abbrev iL(c:List Nat):List PV:=c.map λx:Nat => .int (x:Int)
theorem ZpJ{c:List Nat}{i:Nat}{p:PV}(h:(iL c)[i]?=some p):i<c.length/\p = .int ((c.getD i 0:Nat):Int):=by
 rw[Q4] at h
 by_cases x:i<c.length
 ·rw[Q7 x] at h
  cases h
  exact ⟨x,by rw[Q3,Q7 x];rfl⟩
 ·rw[Qz ⋯] at h
  cases h
theorem ZpK{c:List Nat}{g:Nat->PV}{z:PV->PK'->Prop}{A:List PV->Prop}(j:c.length<=1000)(h:∀i,i<c.length->∀C:PK',C (g i)->z (.tup [.int (i:Int),.int ((c.getD i 0:Nat):Int)]) C)(q:A ((List.range c.length).map g)):Comp (ZhS (ZhR 0 (iL c).length)<|iL c) z A :=
 ⟨(List.range c.length).map g,by rw[ZbP,ZaE,Zap,Q0,Ui],by rw[ZbP,ZaE,Q0,Ui];exact j,λi p e=>by
  obtain ⟨a,b,f,k,rfl⟩:=ZcW e;obtain ⟨_,rfl⟩:=ZaN f;obtain ⟨d,rfl⟩:=ZpJ k;rw[Qo];exact h i d _<|ZaZ d,q⟩
theorem Zrp{c:List Nat}{q:Nat}{A:PK'}(d:q<c.length)(l9:c.length<=1000)(k:A (.tup<|iL<|c.take q++c.drop (q+1))) :
    ¬(HT.sIx (iL c).length 0 none=0/\HT.sIx (iL c).length (iL c).length (some (q:Int))=(iL c).length)/\¬(HT.sIx (iL c).length 0 (some<|(q:Int)+1)=0/\HT.sIx (iL c).length (iL c).length none=(iL c).length) ∧
      (ZcH (iL c) none<|some (q:Int)).length+(ZcH (iL c) (some<|(q:Int)+1) none).length<=1000/\A (.tup<|ZcH (iL c) none (some (q:Int))++ZcH (iL c) (some<|(q:Int)+1) none):=by
  have b:=ZbT (f:=λx:Nat=>PV.int (x:Int)) c q;have a:=Zcl (f:=λx:Nat=>PV.int (x:Int)) c<|q+1;rw[show (q:Int)+1=((q+1:Nat):Int) by omega,b,a,<-Qw,HT.sIx_nat,HT.sIx_nat,Q0,Q0,Q0,Qi,Qv];exact ⟨λz=>by have:=z.2; omega,λz=>by have:=z.1; omega,⋯,k⟩
inductive S_exp:ZF
 |mk {Q:PK'} {κ:KX} {c d e e' k m:Nat} {r:Nat->Sr κ} {a:Nat->Nat->Sr κ} {cs:List Nat} (k4:k<=3) (ic:Inc m cs) (lc:cs.length=k+1) (hr:∀j,j<m->PS κ c e (r j)) (hm:∀c',Inc m c'->c'.length=k->PS κ d e' (Rg.det k λi j=>a i (c'.getD j 0))) (c5:c+1+d<=40) (e4:e+e'<=40) (q:Q (pv κ (Rg.det (k+1) λi j=>ovR r a i (cs.getD j 0)))):S_exp [.kp κ,.tup [.lst (prow κ m r),.lst (prow κ m λj=>0-r j)],.tup (iL cs),.la κ k m a] Q
theorem sc_expanded:FnScope ["kind","signed","columns","minors","factors","others"] ["kind","signed","columns","minors"] (Zab Zep):=‹2›
theorem z_exp(O:Zdc Z)(h:Here K mg "expanded" Zep) (T:Nm mg) (L:mg "enumerate" = none) (l:Mt P w K mg base Z zKp "sum_of_products" 7 S_qD):Fn P w K mg base Z "expanded" 8 S_exp:=by
  have s:=sc_expanded.nd;refine Za2 h (λ_ _ F=>F.b4 λ_ _ _ _ _ _ _ _ _ _=>rfl) sc_expanded (λW A B f ⟨y,G,E,z,D,I,M,q⟩=>⟨y,G,E,z,D,I,M,f _ q⟩) (λ_ _ ⟨_,_,_,_,_,_,_,_⟩=>rfl) (λ_ _ _ _ _ _ _ v =>
    (Zaf (Zns 4 "place" "column" [(1, "signed")] s (ZsD L<|qv 2) (by exact λ_ _ _ _=>(Zcg (Zcg (qv 2)<|ZcA Zbb lc (qv 0) ZaA)<|qv 1)))
    (Zaf (ZgR 5 "place" [(2, "columns"),(3, "minors")] s (Zb9 T.range<|ZaT T.len<|qv 2) (by exact λ_ _ _ _=>(ZsE O (qv 2)<|Zoi (Znq (qv 1) ZgJ<|Zft<|qv 0)<|Znq (qv 1) (Zft<|ZcA ZaO li (qv 0) ZaA) ZgJ)))
    (Zai<|Zau<|q_m l (qv 0)<|qa2 (qv 4)<|qv 5)))) ∅ ?_
  rintro _ Q ⟨R,ic,lc,v,J,x,N,q⟩
  rename_i o c d e U k m r a b
  have u:∀j,j<k+1->b.getD j 0<m:=λj n=>ic.2 _ (by rw[Q3,Q7 ⋯]; exact Wl _);refine ZpK (g:=λj=>pv o (if j%2=0 then r (b.getD j 0) else 0-r (b.getD j 0))) ⋯ (λi S C k=>?_) ?_
  · have p:=u i ⋯
    refine ⟨by show (0:Int)<2; decide,?_⟩
    by_cases ev:i%2=0
    · rw[if_pos ev] at k
      exact ⟨.lst<|prow o m r,(show atI _ ((i:Int)%2)=_ from by rw[show (i:Int)%2=((0:Nat):Int) by omega]; exact Zaq rfl),_,Zaq<|ZaZ p,k⟩
    · rw[if_neg ev] at k
      exact ⟨.lst<|prow o m λj=>0-r j,(show atI _ ((i:Int)%2)=_ from by rw[show (i:Int)%2=((1:Nat):Int) by omega]; exact Zaq rfl),_,Zaq<|ZaZ p,k⟩
  · rw[lc]
    refine ⟨by rw[Q0]; omega,by rw[Q0]; omega,?_⟩;rw[Q0,lc,Qa];refine ZcY (g:=λj=>pv o<|Rg.det k λi t=>a i<|(b.take j++b.drop (j+1)).getD t 0) ⋯ (λj n C H=>?_) ?_
    · exact Zrp (c:=b) (q:=j) (A:=λq=>GetD (.la o k m a) q C) ⋯ ⋯ (GetD.mk _ rfl rfl (ZeZ ic) (by rw[Ze0 ⋯]; omega) H)
    · refine S_qD.mk ⋯ (λj n=>?_) (λj n=>J _ (ZeZ ic) (by rw[Ze0 ⋯]; omega)) x N ?_
      · have p:=v _<|u j n
        by_cases ev:j%2=0
        · rw[if_pos ev]; exact p.up ⋯<|Q2 _
        · rw[if_neg ev]; exact PS.zero.sub p
      · have e:Rg.Sg (λj=>(if j%2=0 then r (b.getD j 0) else 0-r (b.getD j 0))*Rg.det k λi t=>a i<|(b.take j++b.drop (j+1)).getD t 0) (k+1)=Rg.det (k+1) λi j=>ovR r a i (b.getD j 0):=by
          refine Rg.Sg_congr λj n=>?_;rw[<-Rg.sgn_if,Rg.det_congr λi t _ _=>show a i ((b.take j++b.drop (j+1)).getD t 0)=a i (b.getD (Rg.skip j t) 0) by rw[Zmc ⋯]]
          rfl
        rw[e]; exact q
end Zp
namespace My
open PySem L2 PyProof.Rows
section
variable{κ:KX}{Z:Zp.Zc}{H H':Hp}{O:ZZla}
theorem Dk.hide(D:Dk H H'):Dk (Zp.hide O H) (Zp.hide O H'):=⟨λa o e n=>by
 obtain ⟨m,e⟩:=Zp.hide_eq e;rw[Zp.hide_out m];exact D.o a o e n,λa n z=>by
 by_cases m:a∈O
 ·exact n (Zp.hide_in m)
 ·rw[Zp.hide_out m] at n z;exact D.n a n z⟩
theorem ZsF{v:V}(D:Dk H H')(h:Zp.Rep Z H (.kp κ) v):Zp.Rep Z H' (.kp κ) v:=by
 unfold Zp.Rep at *;obtain ⟨a,c,k,e,h,⟨d,gs,g⟩⟩:=h;refine ⟨a,c,k,e,D.o _ _ h (λ_ z=>nomatch z),?_,λb m=>D.n b<|gs b m,λb f m=>D.o _ _ (g b f m) λ_ z=>nomatch z⟩
 cases κ with
 |q=>obtain ⟨c,h⟩:=d;exact ⟨c,D.o _ _ h λ_ z=>nomatch z⟩
 |r p i=>obtain ⟨c,h⟩:=d;exact ⟨c,D.o _ _ h λ_ z=>nomatch z⟩
theorem ZsG{v:V}{s:Sr κ}(D:Dk H H')(h:Zp.Rep Z H (Zp.pv κ s) v):Zp.Rep Z H' (Zp.pv κ s) v:=Zp.PR.rep<|(Zp.pr_of h).dk D
theorem Zmf{v:V}{m:Nat}{r:Nat->Sr κ}(D:Dk H H')(h:Zp.Rep Z H (.lst<|Zp.prow κ m r) v):Zp.Rep Z H' (.lst<|Zp.prow κ m r) v:=by
 obtain ⟨a,j,rfl,h,e⟩:=Zp.rep_lst h;refine Zp.rep_l (D.o _ _ h λ_ z=>nomatch z)<|.of e.len λi p u c f=>?_;obtain ⟨w,d,b⟩:=e.get c;rw[f] at d
 cases d
 obtain ⟨g,rfl⟩:=Zp.rget c;exact ZsG D b
theorem Zrq{v:V}{m:Nat}{r t:Nat->Sr κ}(D:Dk H H')(h:Zp.Rep Z H (.tup [.lst<|Zp.prow κ m r,.lst<|Zp.prow κ m t]) v):Zp.Rep Z H' (.tup [.lst<|Zp.prow κ m r,.lst<|Zp.prow κ m t]) v:=by
 obtain ⟨a,e,rfl,h,c⟩:=Zp.rep_tup h;obtain ⟨u,w,rfl,d,b⟩:=c.two;exact Zp.rep_t (D.o _ _ h λ_ z=>nomatch z)<|.cons (Zmf D d)<|.cons (Zmf D b) .nil
structure WdQ (κ:KX) (H:Hp) (kw:List (List Key×V)) (D:List Nat->Sr κ) (S:List Nat->Prop) (k m L:Nat):Prop where
 val:∀c,S c->∃v,Zfc kw (kc c)=some v/\PR κ H v (D c)
 keys:∀p∈kw,∃c,Inc m c/\c.length=k/\p.1=kc c
 len:kw.length<=L
section
variable{kw:List (List Key×V)}{D:List Nat->Sr κ}{S S':List Nat->Prop}{k m L L':Nat}
theorem WdQ.dk(h:WdQ κ H kw D S k m L)(t:Dk H H'):WdQ κ H' kw D S k m L:=⟨λc a=>let ⟨v,e,n⟩:=h.val c a;⟨v,e,n.dk t⟩,h.keys,h.len⟩
theorem WdQ.sub(h:WdQ κ H kw D S k m L)(s:∀c,S' c->S c)(l:L<=L'):WdQ κ H kw D S' k m L':=⟨λc a=>h.val c<|s c a,h.keys,Q1 h.len l⟩
theorem WdQ.put{c:List Nat}{v:V}(h:WdQ κ H kw D S k m L)(f:Inc m c)(lc:c.length=k)(n:PR κ H v (D c)):WdQ κ H (Zhq kw (kc c) v) D (λd=>S d\/d=c) k m (L+1):=by
 refine ⟨λd b=>?_,λp a=>?_,Q1 (ZdJ _ _ _)<|Nat.succ_le_succ h.len⟩
 ·rw[ZmU]
  by_cases e:d=c
  ·rw[if_pos (by rw[e])];exact ⟨v,rfl,by rw[e];exact n⟩
  ·rw[if_neg λz=>e<|Zmd z];exact h.val d<|b.resolve_right e
 ·rcases Znp a with e|⟨q,hq,e⟩
  ·exact ⟨c,f,lc,e⟩
  ·rw[<-e];exact h.keys q hq
end
end
inductive sp_wid (Z:Zp.Zc) (vs:List V) (H:Hp) (Q:VK) (E:XK):Prop
 |mk {O:ZZla} {κ:KX} {sv rv:V} {d:Addr} {r:Nat->Sr κ} {kvs:List (List Key×V)} {a:Nat->Nat->Sr κ} {k m c g e e':Nat} (ev:vs=[sv,rv,.ref d]) (L:Zp.Ls O H) (hs:Zp.Rep Z (Zp.hide O H) (.kp κ) sv) (hr:Zp.Rep Z (Zp.hide O H) (.lst (Zp.prow κ m r)) rv) (m4:m<=4) (k3:k<=3) (hd:H d=some (.dT kvs)) (lk:kvs.length<=7^k) (mn:MnQ κ (Zp.hide O H) kvs a k m)
  (qr:∀j,j<m->PS κ c e (r j)) (qm:∀c',Inc m c'->c'.length=k->PS κ g e' (Rg.det k λi j=>a i (c'.getD j 0))) (c5:c+1+g<=40) (e4:e+e'<=40)
  (q:∀(H':Hp) (d':Addr) (kvs':List (List Key×V)),Off [d] H H'->H d'=none->H' d'=some (.dT kvs')->kvs'.length<=7^(k+1)->MnQ κ (Zp.hide O H') kvs' (ovR r a) (k+1) m->Q (.ref d') H'):sp_wid Z vs H Q E
def Zs8(i j:Nat):TE:=λd H Q=>∃e a c b,d[i]?=some (some<|.ref e)/\d[j]?=some (some<|.ref a)/\H e=some (.tup ((c:List Nat).map λx:Nat=>V.int (x:Int)))/\H a=some (.lst b)/\Q (.int ((bdC b.length c:Nat):Int)) H
theorem Zrr{K:ZZfg}{i j:Nat}{a:L2.St}{H:Hp}{Q:VK}(h:Zs8 i j a H Q):tIf (ZqH K<|ZpU i) (tOp (Zqj K) (ZpU i)<|tC<|.int 0) (tCB (λxs H Q=>∃p ys,xs=[.ref p]/\(SqL K H p ys\/SqT K H p ys)/\Q (.int ys.length) H)<|Zqe (ZpU j) ZsV) a H Q:=by
 obtain ⟨d,f,c,xs,b,g,e,k,q⟩:=h;refine ⟨_,b,d,_,rfl,SqT.of e,?_⟩
 cases c with
 |nil =>
  refine (if_neg ∅).mpr ?_;exact ⟨_,g,f,xs,rfl,.inl<|SqL.of k,q⟩
 |cons y c =>
  refine (if_pos rfl).mpr ?_;exact ⟨_,b,d,_,0,_,rfl,rfl,SqT.of e,(show atI _ ((0:Nat):Int)=_ from Zaq rfl),q⟩
theorem ZpL{X:Cx}{e:Expr}{t t':TE}(h:PE X e t)(m:∀b H Q,t' b H Q->t b H Q):PE X e t':=λa s b H Q I q=>h a s b H Q I<|m b H Q q
theorem Zjy{Z:Zp.Zc}{H:Hp}{O:ZZla}{N:List Str}{ps:List Zp.PV}{vs:List V}(L:Zp.Ls O H)(r:Zp.Reps Z (Zp.hide O H) ps vs)(h:ps.length<=N.length):Zp.SR Z H O O H (L2.start N vs) (Zp.ini N ps):=by
 have l:=r.len;refine ⟨Same.refl _,λ_ m=>m,λ_ m => .inl m,L,?_,λi k e=>?_,λi j c m n d _=>?_,λi c a e _=>?_⟩
 ·unfold L2.start;rw[Qc,Q0,Wr,Zp.ini_len];omega
 ·obtain ⟨p,rfl,g⟩:=Zp.ini_get e;obtain ⟨u,b,f⟩:=r.get g;refine ⟨u,?_,.val f⟩;unfold L2.start;rw[Wd (by rw[Q0];exact (Qn.mp b).1),Q4,b];rfl
 ·obtain ⟨p,z,_⟩:=Zp.ini_get d;cases z
 ·obtain ⟨p,z,_⟩:=Zp.ini_get e;cases z
section
variable{P:Program}{w:World}{K:ZZfg}{mg:ZZmg}{base:Heap}{Z:Zp.Zc}
theorem sc_wider_minors:FnScope ["kind","row","minors","signed","wider","columns","bound","column","chosen"] ["kind","row","minors"] (Zab Zcw):=‹2›
open Zp in
theorem Zrs(hz:Zdc Z)(h:Here K mg "wider_minors" Zcw) (T:Nm mg) (G:Mt P w K mg base Z zKp "minus" 8 (S_qP λ_ f g=>f-g)) (y:Mt P w K mg base Z zKp "number" 8 S_qN1) (l:Fn P w K mg base Z "expanded" 8 S_exp):HasX P w K mg base "wider_minors" 9 ["kind","row","minors"] (sp_wid Z):=by
 obtain ⟨e3,c6⟩:=l.has;refine h.hasX (λ_ _ F=>F.b3 λ_ _ _ _ _ _ _ _ _=>rfl) λf fd F=>F.okx sc_wider_minors (λvs H Q E h=>?_)<|λd8 A d3 s H vs Q E hr h=>?_
 ·obtain ⟨rfl,_⟩:=h
  rfl
 obtain ⟨rfl,L,hs,a8,m4,k3,hd,c8,Y,qr,qm,c5,e4,kk⟩:=h
 rename_i O B sv rv d r kvs a k m c g e e'
 obtain ⟨sk,d7,ku,rfl,_⟩:=(show ∃a dx k,sv = .ref a/\_ from by unfold Rep at hs;exact hs);obtain ⟨ra,xs,rfl,c3,d0⟩:=rep_lst a8;have nd:=sc_wider_minors.nd;have hu:=ZoH hr;have c1:xs.length=m:=by rw[d0.len,Zap]
 refine ⟨_,(Zad (ZaG (i:=3) nd rfl (Or.inl rfl)<|(ZqV<|qa2 (qv 1)<|QL.toE<|Zei "each" [(0,"kind")] (Zec<|qv 1) (by exact λ_ _ _ _=>(q_m G (qv 1)<|qa2 (q_m y (qv 1)<|qa1 ZaA)<|qv 0))).ok H O)
  (Zad (ZaG (i:=4) nd rfl (Or.inl rfl) ZmV)
  (Zad (ZdY PassesOwn.leaving rfl (ZqE<|L2.pv 2) (ZaL (i:=5) nd rfl<|Or.inl rfl)<|Zad (ZaG (i:=6) nd rfl (Or.inl rfl)<|ZpL (t':=Zs8 5 1) (ZiV (ZqI<|L2.pv 5) (ZaF Zaw (L2.pv 5) Zac<|λ_ _=>rfl)<|Zan Zas (by rfl) T.len boot_len<|Zaa (L2.pv 1) Zae)<|λ_ _ _ h=>Zrr h)
   (Zag<|ZdY PassesOwn.leaving rfl (Zc9 (by rfl) T.range<|Zaa (L2.pv 6) Zae) (ZaL (i:=7) nd rfl<|Or.inl rfl)<|Zad (ZaG (i:=8) nd rfl (Or.inl rfl)<|Zam Zmb (Zcd<|Zaa (L2.pv 7) Zae)<|L2.pv 5)
    (Zag<|Zo4 hu (L2.pv 4) (L2.pv 8) (Zbs c6 Zgh hr (by rfl)<|Zaa (L2.pv 0)<|Zaa (L2.pv 3)<|Zaa (L2.pv 8)<|Zaa (L2.pv 2) Zae) rfl)))
  (Zag<|Zar<|L2.pv 4)))),?_⟩
 have b6:d∉O:=λmm=>by obtain ⟨us,q⟩:=L d mm;rw[hd] at q;cases q
 have d2:hide O H d=some (.dT kvs):=by rw[hide_out b6];exact hd
 refine ⟨O,_,Zjy (N:=["kind","row","minors","signed","wider","columns","bound","column","chosen"]) (ps:=[.kp B,.lst<|prow B m r,.la B k m a]) (vs:=[.ref sk,.ref ra,.ref d]) L (.cons hs<|.cons a8<|.cons (by unfold Rep;exact ⟨d,rfl,(hz _ _ _ _ _ _).mpr ⟨kvs,.inl d2,Y⟩⟩) .nil) (by show 3<=9;decide),?_⟩;refine Zbu (g:=λj=>Zp.pv B<|0-r j) ⋯ (λj hj C k=>?_) ⟨by show 2<=1000;decide,λd6 H4 S4 rs=>?_⟩
 ·refine S_qN1.mk Zfr ∅ (S_qP.mk (c:=c) (e:=e) (by rw[Zog];exact .zero) (qr j hj) ⋯ ⋯ ?_);rw[Zog];exact k
 obtain ⟨sg,e1,rfl,_⟩:=rep_tup rs;have a9:=S4 _ _ hd;have L4:=L.same S4;refine λp np=>?_;have b1:=Zal np<|.dT [];have qp:=Zah (H:=H4) (a:=p) (o:=.dT []);refine ⟨_,rfl,d,kvs,rfl,b1 _ _ a9,λo=>?_⟩;have pd:p≠d:=λz=>by rw[z,a9] at np;cases np
 obtain ⟨t,eHf⟩:∃t,t=upd H4 d (.frz o<|.dT kvs):=⟨_,rfl⟩;have Of:Off [d] H4 t:=eHf ▸ ZeX (Same.refl _);have Df:Dk H4 t:=eHf ▸ Dk.upd a9;have S:Dk H t:=(Dk.of S4).tr Df;have fd:t d=some (.frz o<|.dT kvs):=by rw[eHf];exact Zah
 have fp:t p=none:=by rw[eHf,Zaj pd];exact np
 have Lf:Ls O t:=λb mb=>by
  obtain ⟨us,q⟩:=L4 b mb;exact ⟨us,Df.o _ _ q λ_ z=>nomatch z⟩
 have d1:=ZsF (Dk.hide (O:=O) S) hs;have d4:=Zmf (Dk.hide (O:=O) S) a8;have c0:=Zrq (Dk.hide (O:=O) Df) rs;have b7:t ra=some (.lst xs):=S.o _ _ (Zao _ _ c3) λ_ z=>nomatch z;have c9:MnQ B (hide O t) kvs a k m:=Y.dk<|Dk.hide S;have c4:hide O t d=some (.frz o<|.dT kvs):=by rw[hide_out b6];exact fd
 have b9:Same t (upd (upd H4 p<|.dT []) d<|.frz o<|.dT kvs):=λb u e=>by
  rw[eHf] at e
  by_cases z:b=d
  ·rw[z,Zah] at e ⊢;exact e
  ·rw[Zaj z] at e ⊢;exact b1 _ _ e
 have S7:(7:Nat)*7^k<=7*7^6:=Nat.mul_le_mul_left _<|W5 ∅ ⋯;have sl:7*7^6<sizeLine:=∅;refine Zo9 (kvs:=kvs) (λi σ Hb=>∃(z5 z6 z7 z8:Option V) (M:List (List Key×V)),σ=[some<|.ref sk,some<|.ref ra,some<|.ref d,some<|.ref sg,some<|.ref p,z5,z6,z7,z8]/\Same t Hb/\Hb p=some (.dT M)/\WdQ B (hide O Hb) M (λc=>Rg.det (k+1) λi j=>ovR r a i<|c.getD j 0) (λc=>∃J x W v,c=x::W/\J<i/\kvs[J]?=some (kc W,v)/\x<bdC m W) (k+1) m (7*i)) ⟨_,_,_,_,[],rfl,b9,by rw[Zaj pd];exact qp,⟨(λc hc=>by obtain ⟨J,_,_,_,_,hi,_⟩:=hc;omega),(λ_ z=>nomatch z),Q6 _⟩⟩ ?_ ?_ ?_
 ·rintro i σ Hb-⟨z5,z6,z7,z8,M,rfl,Sb,-⟩;exact Sb _ _ fd
 ·rintro i d9 e0 cb σ Hb a7 U ⟨z5,z6,z7,z8,M,rfl,Sb,R,wd⟩;obtain ⟨c,ic,lc,rfl⟩:=Y.2 _<|Qp a7
  replace U:Hb cb=some (.tup (c.map λx:Nat=>V.int (x:Int))):=by rw[<-ZpH];exact U
  have hi:i<kvs.length:=(Qn.mp a7).1;have bl:=Zoh ic;refine ⟨cb,ra,c,xs,rfl,rfl,U,Sb _ _ b7,?_⟩;rw[c1];refine ⟨_,rfl,((bdC m c:Nat):Int),rfl,⋯,⋯,?_⟩;rw[Qa];refine Ze3 (lo:=0) (n:=bdC m c) (λq σ a2=>∃(z7 z8:Option V) (M:List (List Key×V)),σ=[some<|.ref sk,some<|.ref ra,some<|.ref d,some<|.ref sg,some<|.ref p,some<|.ref cb,some<|.int ((bdC m c:Nat):Int),z7,z8]/\Same t a2/\a2 cb=some (.tup (c.map λx:Nat=>V.int (x:Int)))/\a2 p=some (.dT M)/\WdQ B (hide O a2) M (λc=>Rg.det (k+1) λi j=>ovR r a i<|c.getD j 0) (λc2=>(∃J x W v,c2=x::W/\J<i/\kvs[J]?=some (kc W,v)/\x<bdC m W)\/∃x,x<q/\c2=x::c) (k+1) m (7*i+q)) ⟨_,_,M,rfl,Sb,U,R,wd.sub (λc2 h=>h.resolve_right λ⟨x,hx,_⟩=>⋯) ⋯⟩ ?_ ?_
  ·rintro q σ H5 hq ⟨z7,z8,a6,rfl,S5,I,a5,X⟩;refine ⟨_,rfl,(by show 1<=sizeLine;decide),λt1 b8=>?_⟩;have b2:=Zal b8<|.tup [.int<|0+(q:Int)];refine ⟨_,rfl,t1,cb,_,_,rfl,rfl,Zah,b2 _ _ I,?_,λch H6 S6 a3=>?_⟩
   ·rw[Q0,lc];have:(100:Nat)<=sizeLine:=∅;show 1+k<=_;omega
   replace a3:H6 ch=some (.tup ((q::c).map λx:Nat=>V.int (x:Int))):=by rw[a3,Qo];rfl
   have b4:Same H5 H6:=b2.trans S6;generalize upd H5 t1 (.tup [.int<|0+(q:Int)])=d5 at *;have b3:=S5.trans b4;have L6:=Lf.same b3;have a1:Same (hide O t) (hide O H6):=Zaz b3;refine ⟨_,rfl,_,rfl,_,rfl,_,rfl,O,[.kp B,.tup [.lst<|prow B m r,.lst<|prow B m λj=>0-r j],.tup<|iL (q::c),.la B k m a],L6,.cons (d1.same a1)<|.cons (c0.same a1)<|.cons (rep_t (ZgV L6 a3) ?_)<|.cons (by unfold Rep;exact ⟨d,rfl,(hz _ _ _ _ _ _).mpr ⟨kvs,.inr ⟨o,a1 _ _ c4⟩,c9.dk<|.of a1⟩⟩) .nil,S_exp.mk k3 (Zjx ic hq) (by rw[W7,lc]) qr qm c5 e4 λv H7 b0 nv=>?_⟩
   ·refine .of (by rw[Q0,Q0]) λi p u R hu=>?_;rw[Q4] at R hu
    cases e:(q::c)[i]? with
    |none=>rw[e] at R;cases R
    |some x=>rw[e] at R hu;cases R;cases hu;exact Zb6
   have a0:=b4.trans b0;have b5:=a0 _ _ a5;have wl:=X.len;refine ⟨_,rfl,_,rfl,p,_,rfl,DPut.t (k:=kc (q::c)) b5 (by rw[ZpH];exact b0 _ _ a3) ⋯,?_⟩;have D7:Dk H7 (upd H7 p<|.dT<|Zhq a6 (kc (q::c)) v):=Dk.upd b5;refine ⟨_,_,_,rfl,Off.same (D:=[p]) (ZeX<|Same.refl H7) (S5.trans a0) (λz hz=>by rw[Qh.mp hz];exact fp),D7.o _ _ (a0 _ _ I) (λ_ z=>nomatch z),Zah,?_⟩;refine WdQ.sub (WdQ.dk (WdQ.put (X.dk<|.of<|Zaz a0) (Zjx ic hq) (by rw[W7,lc])<|pr_of nv) D7.hide) (λc2 h=>?_) ⋯;rcases h with h|⟨x,hx,e⟩
   ·exact .inl (.inl h)
   ·by_cases z:x=q
    ·rw[z] at e;exact .inr e
    ·exact .inl (.inr ⟨x,⋯,e⟩)
  ·rintro σ H5 ⟨z7,z8,a6,rfl,S5,I,a5,X⟩;refine ⟨_,_,_,_,a6,rfl,S5,a5,X.sub (λc2 h=>?_) ⋯⟩;obtain ⟨J,x,W,v,e,a4,hg,hx⟩:=h
   by_cases z:J=i
   ·rw[z,a7] at hg;have e2:=Zmd<|congrArg Prod.fst<|Option.some.inj hg;rw[<-e2] at e hx;exact .inr ⟨x,hx,e⟩
   ·exact .inl ⟨J,x,W,v,e,⋯,hg,hx⟩
 ·rintro σ Hb ⟨z5,z6,z7,z8,M,rfl,Sb,R,wd⟩;refine ⟨_,rfl,kk Hb p M (λb u nb e=>?_) (S4.free np) R ?_ ⟨λc ic lc=>?_,wd.keys⟩⟩
  ·exact Sb _ _ (Of _ _ nb<|S4 _ _ e)
  ·refine Q1 wd.len ?_;rw[Nat.pow_succ,Nat.mul_comm];exact Ql _ c8
  ·cases c with
   |nil=>cases lc
   |cons x c =>
    obtain ⟨c7,hx⟩:=Zno ic;obtain ⟨v,hv,_⟩:=Y.1 c c7 (by rw[W7] at lc;omega);obtain ⟨J,a4⟩:=ZpI hv;exact wd.val _ ⟨J,x,c,v,rfl,(Qn.mp a4).1,a4,hx⟩
end
section
variable{κ:KX}
def gz(c:Nat):Nat->Nat
 |0=>0
 |k+1=>gz c k+c+k+3
theorem ZeL{c e:Nat}(c5:c<=40)(e4:5*e<=40):∀(k:Nat) {a:Nat->Nat->Sr κ},k<=4->(∀i j,i<k->j<k->PS κ c e (a i j))->PS κ (gz c k) (k*e) (Rg.det k a)
 |0,a,_,_=>by
  have:PS κ 0 0 (Rg.Ps.con (1:κ.F)):=PS.con Zcy ∅;rw[show 0*e=0 by omega];exact this
 |k+1,a,hk,h=>by
  have g:k*e<=4*e:=Ql _ ⋯;have:=PS.sum (c:=c+1+gz c k+1) (e:=e+k*e) (a:=λj=>Rg.sgn (Sr κ) j*a 0 j*Rg.det k λi t=>a (i+1)<|Rg.skip j t) (k+1) λj b=>by
   refine PS.mul (c:=c+1) ?_ (ZeL c5 e4 k ⋯ λi t f d=>h (i+1) _ ⋯<|Rg.skB d) ⋯ ⋯;rw[Rg.sgn_if]
   split
   ·exact (h 0 j ⋯ b).up ⋯ (Q2 _)
   ·exact PS.zero.sub (h 0 j ⋯ b)
  refine PS.up this (by show _<=gz c k+c+k+3;omega) (by rw[U3];omega)
theorem MnQ.congr{H:Hp}{kvs:List (List Key×V)}{a b:Nat->Nat->Sr κ}{k m:Nat}(h:MnQ κ H kvs a k m)(e:∀i j,i<k->a i j=b i j):MnQ κ H kvs b k m :=
 ⟨λc g lc=>by
  obtain ⟨v,f,n⟩:=h.1 c g lc;refine ⟨v,f,?_⟩;rw[<-Rg.det_congr (a:=λi j=>a i<|c.getD j 0) λi j d _=>e i _ d];exact n,h.2⟩
theorem Zoj{m:Nat}{c:List Nat}(ic:Inc m c){j:Nat}(a:j<c.length):c.getD j 0<m:=ic.2 _ (by rw[Q3,Q7 a];exact Wl _)
end
end My
namespace Zp
open My
open PySem L2 PyProof.Rows
variable{Z:Zc}{P:Program}{w:World}{K:ZZfg}{mg:ZZmg}{base:Heap}
inductive S_mo:ZF
 |mk {Q:PK'} {κ:KX} {e n m:Nat} {a:Nat->Nat->Sr κ} (n4:n<=4) (m4:m<=4) (ha:∀i j,i<n->j<m->PS κ 3 e (a i j)) (e4:5*e<=40) (q:Q (.la κ n m a)):S_mo [.kp κ,ptb κ n m a] Q
theorem sc_minors_of:FnScope ["kind","rows","minors","row"] ["kind","rows"] (Zab ZdM):=‹2›
theorem z_mo(W:Zdc Z)(h:Here K mg "minors_of" ZdM) (Tv:mg "reversed"=none) (y:Mt P w K mg base Z zKp "number" 9 S_qN1) (R:HasX P w K mg base "wider_minors" 9 ["kind","row","minors"] (sp_wid Z)):Fn P w K mg base Z "minors_of" 10 S_mo:=by
 refine ⟨λps A B f ⟨a1,a2,a3,a4,q⟩=>⟨a1,a2,a3,a4,f _ q⟩,["kind","rows"],h.hasX (λ_ _ F=>F.b2 λ_ _ _ _ _ _ _ _=>rfl) λf fd F=>F.okx sc_minors_of (λvs H Q E h=>?_)<|λb4 A a8 s H vs Q E hr h=>?_⟩
 ·obtain ⟨O,ps,l,r,q⟩:=h;rw[r.len]
  cases q
  rfl
 obtain ⟨O,ps,L,rs,q0⟩:=h;obtain ⟨n4,m4,ha,e4,q⟩:=q0
 rename_i S e n m a
 obtain ⟨sv,tv,rfl,hs,ht⟩:=rs.two;obtain ⟨sk,b3,ku,rfl,_⟩:=(show ∃a dx k,sv = .ref a/\_ from by unfold Rep at hs;exact hs);obtain ⟨D,us,rfl,hD,rD⟩:=rep_lst ht;have nd:=sc_minors_of.nd;have hu:=ZoH hr;have X:us.length=n:=by rw[rD.len,Zap]
 refine ⟨_,(Zad (ZaG (i:=2) nd rfl (Or.inl rfl)<|ZmW hu (Zcd Zae)<|(q_m y (qv 0)<|qa1 ZaA).ok H O)
  (Zad (ZdY PassesOwn.leaving rfl (Zqx (by rfl) Tv<|Zaa (L2.pv 1) Zae) (ZaL (i:=3) nd rfl<|Or.inl rfl)<|Zag<|ZaG (i:=2) nd rfl (Or.inl rfl)<|Zbs R Zgh hr (by rfl)<|Zaa (L2.pv 0)<|Zaa (L2.pv 3)<|Zaa (L2.pv 2) Zae)
  (Zag<|Zar<|L2.pv 2))),?_⟩
 refine λp np=>⟨(by show 0<=sizeLine;decide),λt nt=>?_⟩;have a6:=Zal np<|.dT [];have qp:=Zah (H:=H) (a:=p) (o:=.dT []);generalize upd H p (.dT [])=H1 at *;have St:=Zal nt<|.tup [];have qt:=Zah (H:=H1) (a:=t) (o:=.tup []);generalize upd H1 t (.tup [])=H2 at *;have S2:=a6.trans St;refine ⟨O,_,(Zjy (N:=["kind","rows","minors","row"]) (ps:=[.kp S,ptb S n m a]) (vs:=[.ref sk,.ref D]) L rs (by show 2<=4;decide)).same S2,S_qN1.mk Zcy ∅ λv G S3 nv=>?_⟩;have a5:=S3 _ _<|St _ _ qp;refine ⟨a5,[],t,rfl,S3 _ _ qt,?_⟩;have O3:Off [p] G (upd G p<|.dT [([],v)]):=ZeX<|Same.refl G;have q4:=Zah (H:=G) (a:=p) (o:=.dT [([],v)]);have U:Same H (upd G p<|.dT [([],v)]):=Off.same O3 (S2.trans S3) (λz W=>by rw[Qh.mp W];exact np);have b2:PR S (hide O<|upd G p<|.dT [([],v)]) v 1:=(pr_of nv).dk<|Dk.hide<|Dk.upd a5;generalize upd G p (.dT [([],v)])=H4 at *;refine ⟨_,rfl,D,_,rfl,SqL.of<|U _ _<|Zao _ _ hD,?_⟩;refine Zpx (K:=K) (a:=D) (xs:=us) (λq σ J=>∃(z3:Option V) (d:Addr) (b:List (List Key×V)),q<=n/\σ=[some<|.ref sk,some<|.ref D,some<|.ref d,z3]/\Same H J/\H d=none/\J d=some (.dT b)/\b.length<=7^q/\MnQ S (hide O J) b (λi j=>a (n-q+i) j) q m) ⟨_,p,_,Q6 _,rfl,U,np,q4,Q2 _,⟨λc _ lc=>?_,λq hq=>?_⟩⟩ ?_ ?_ ?_
 ·rw[List.length_eq_zero_iff.mp lc];exact ⟨v,rfl,b2⟩
 ·rw[Qh.mp hq];exact ⟨[],⟨.nil,λ_ z=>nomatch z⟩,rfl,rfl⟩
 ·rintro i σ J-⟨z3,d,b,_,rfl,C,-⟩;exact SqL.of<|C _ _<|Zao _ _ hD
 ·rintro q x σ J hx ⟨z3,d,b,_,rfl,C,M,I,lk,mr⟩;have hq:q<n:=by
   have:=(Qn.mp hx).1;rw[List.length_reverse] at this;omega
  rw[List.getElem?_reverse ⋯,X] at hx;have T:Rep Z (hide O H) (.lst<|prow S m<|a<|n-1-q) x:=by
   obtain ⟨u,a0,ru⟩:=rD.get<|ZaZ (f:=λi=>PV.lst<|prow S m<|a i) (show n-1-q<n by omega);rw[hx] at a0
   cases a0
   exact ru
  have ke:q*e<=4*e:=Ql _ ⋯;have gq:gz 3 q<=36:=by
   rcases (show q=0\/q=1\/q=2\/q=3 by omega) with rfl|rfl|rfl|rfl <;> decide
  refine ⟨_,rfl,_,rfl,_,rfl,sp_wid.mk (c:=3) (e:=e) (g:=gz 3 q) (e':=q*e) rfl (L.same C) (hs.h C) (T.h C) m4 ⋯ I lk mr (λj hj=>ha _ j ⋯ hj) (λc' ic lc=>ZeL ∅ e4 q ⋯ λi j hi hj=>ha _ _ ⋯<|Zoj ic ⋯) ⋯ ⋯ λH6 d' Y O6 a9 b0 a7 b1=>?_⟩;refine ⟨_,d',Y,hq,rfl,Off.same O6 C (λz W=>by rw[Qh.mp W];exact M),C.free a9,b0,a7,b1.congr λi j hi=>?_⟩
  cases i with
  |zero =>
   show a (n-1-q) j=a (n-(q+1)+0) j;rw[show n-(q+1)+0=n-1-q by omega]
  |succ i =>
   show a (n-q+i) j=a (n-(q+1)+(i+1)) j;rw[show n-(q+1)+(i+1)=n-q+i by omega]
 ·rintro σ J ⟨z3,d,b,_,rfl,C,M,I,lk,mr⟩;rw[X] at mr;refine ⟨_,rfl,q _ J C ?_⟩;unfold Rep;refine ⟨d,rfl,(W _ _ _ _ _ _).mpr ⟨b,.inl ?_,mr.congr λi j _=>by rw[Nat.sub_self,Uv]⟩⟩;rw[hide_out λmm=>by obtain ⟨us,q⟩:=L d mm;rw[M] at q;cases q];exact I
end Zp
namespace My
open PySem L2 PyProof.Rows
theorem ZpM{κ:KX}{x:κ.F}(h:NumV κ (-1) x):x+1=0:=by
 cases κ with
 |q =>
  have e:x=(-1:Rat):=Rat.ext h.1 h.2;subst e;show (-1:Rat)+1=0;grind
 |r p a =>
  have c:=a.two;refine Fin.ext ?_;show (Fin.val x+Fin.val (K1<|.r p a))%p=Fin.val (K0<|.r p a);rw[ZlC,ZgF];have e:(Fin.val x:Int)=(-1)%p:=h.2;have d:((-1:Int))%p=(p:Int)-1:=by
   have:(-1:Int)=((p:Int)-1)+p*(-1):=⋯;rw[this,Int.add_mul_emod_self_left];exact Uu ⋯ ⋯
  have b:Fin.val x+1=p:=⋯;rw[b,Nat.mod_self]
theorem Zmg{κ:KX}:NumV κ (-1) ((0:κ.F)-1):=by
 obtain ⟨x,a⟩:=ZlX (κ:=κ) (A:=-1) ∅;have:=ZpM a;have e:x=0-1:=by grind
 rw[<-e];exact a
section
variable{κ:KX}
theorem cn2(x y:κ.F):Rg.Ps.con x*Rg.Ps.con y=Rg.Ps.con (x*y):=Rg.Ps.ext λn=>by
 show (Rg.Ps.mul (Rg.Ps.con x)<|Rg.Ps.con y).c n=_;rw[Rg.Ps.con_mul];show x*(if n=0 then y else 0)=if n=0 then x*y else 0
 split
 ·rfl
 ·grind
theorem Zjz(y:Nat->κ.F):∀n,Rg.prd (λi=>Rg.Ps.con<|y i) n=Rg.Ps.con (Rg.prd y n)
 |0=>rfl
 |n+1=>by
  show Rg.prd (λi=>Rg.Ps.con<|y i) n*Rg.Ps.con (y n)=Rg.Ps.con (Rg.prd y n*y n);rw[Zjz y n,cn2]
theorem ZiI{x y:κ.F}(c:y≠0)(d:Sr κ):(Rg.Ps.con y*d)*Rg.Ps.con (x*Fd.inv y)=Rg.Ps.con x*d:=by
 have e:Rg.Ps.con y*Rg.Ps.con (x*Fd.inv y)=Rg.Ps.con x:=by
  rw[cn2]
  congr 1
  have m:=Fd.mul_inv y c;generalize Fd.inv y=z at *;grind
 rw[<-e];generalize Rg.Ps.con y=a;generalize Rg.Ps.con (x*Fd.inv y)=b;grind
theorem ZiJ{x y:κ.F}(a:y≠0):x*Fd.inv y*y=x:=by
 have m:=Fd.mul_inv y a;generalize Fd.inv y=z at *;grind
noncomputable def sgK(κ:KX)(n:Nat):κ.F:=if n%2=0 then 1 else 0-1
theorem ZdW(n:Nat):NumV κ (if n%2=0 then 1 else -1) (sgK κ n):=by
 unfold sgK
 by_cases h:n%2=0
 ·rw[if_pos h,if_pos h];exact Zcy
 ·rw[if_neg h,if_neg h];exact Zmg
theorem ZeA(n:Nat):Rg.Ps.con (sgK κ n)=Rg.sgn (Sr κ) n:=by
 have e:=Rg.sgn_if (1:Sr κ) n;have a:Rg.sgn (Sr κ) n*1=Rg.sgn (Sr κ) n:=by generalize Rg.sgn (Sr κ) n=x;grind
 rw[a] at e;rw[e];unfold sgK
 by_cases h:n%2=0
 ·rw[if_pos h,if_pos h];rfl
 ·rw[if_neg h,if_neg h,<-Rg.con_sub0];rfl
theorem Zf6{n r:Nat}(h:r<=n):(List.range<|n+1).take r++(List.range<|n+1).drop (r+1)=(List.range n).map (Rg.skip r):=by
 refine Uj λi=>?_;have l:((List.range<|n+1).take r).length=r:=by rw[Qi,Q9];omega
 rw[Q4]
 by_cases hi:i<n
 ·rw[Qj hi]
  by_cases q:i<r
  ·rw[Wd ⋯,Wh,if_pos q,Qj ⋯];show _=some (Rg.skip r i);rw[Rg.skip_lo q]
  ·rw[Wa ⋯,l,Ww,Qj ⋯];show _=some (Rg.skip r i);rw[Rg.skip_hi ⋯]
   congr 1
   omega
 ·rw[Qz (l:=List.range n) (by rw[Q9];omega),Qz (by rw[Qc,l,Qv,Q9];omega)];rfl
end
end My
namespace Zp
open My
open PySem L2 PyProof.Rows
variable{Z:Zc}{X:Cx}{P:Program}{w:World}{K:ZZfg}{mg:ZZmg}{base:Heap}{cN:Addr}
theorem Zef{κ:KX}{p:Nat}{f:Nat->Sr κ}:prow κ (p+1) f=prow κ p f++[pv κ<|f p]:=by
 show (List.range<|p+1).map _=_;rw[Wz,Qw];rfl
theorem Zok{n:Nat}:ZhR 0 n=iL (List.range n):=by
 unfold ZhR;exact U4 λi _=>by rw[Qo]
theorem gz3{n:Nat}(h:n<=4):gz 3 n<=30:=by
 rcases (show n=0\/n=1\/n=2\/n=3\/n=4 by omega) with rfl|rfl|rfl|rfl|rfl <;> decide
inductive S_bm:ZF
 |mk {Q:PK'} {κ:KX} {e n:Nat} {a:Nat->Nat->Sr κ} (n1:1<=n) (n4:n<=4) (ha:∀i j,i<n->j<n->PS κ 1 e (a i j)) (e4:5*e<=40) (q:Q (pv κ (Rg.det n a))):S_bm [.kp κ,ptb κ n n a] Q
theorem sc_by_minors:FnScope ["kind","table","part","minors"] ["kind","table"] (Zab ZcL):=‹2›
theorem z_bm(M:Zdc Z)(h:Here K mg "by_minors" ZcL) (T:Nm mg) (o:Fn P w K mg base Z "need_square" 10 S_qne) (m:Fn P w K mg base Z "freed" 10 S_qF) (g:Fn P w K mg base Z "minors_of" 10 S_mo) (l:Mt P w K mg base Z zKp "times" 10 S_qT) (k:Mt P w K mg base Z zKp "number" 10 S_qN):Fn P w K mg base Z "by_minors" 11 S_bm:=by
 have D:=sc_by_minors.nd;refine Za2 h (λ_ _ F=>F.b2 λ_ _ _ _ _ _ _ _=>rfl) sc_by_minors (λS A B f ⟨E,L,J,G,q⟩=>⟨E,L,J,G,f _ q⟩) (λ_ _ ⟨_,_,_,_,_⟩=>rfl) (λ_ _ _ _ _ _ _ W =>
  (Zaf (Zpu<|Zak o<|qa1<|qv 1)
  (Zaf (ZaC 2 D<|Zak m<|qa2 (qv 0)<|qv 1)
  (Zaf (ZaC 3 D<|Zak g<|qa2 (qv 0)<|Zcg (qv 2) ZaA)
  (Zai<|Zau<|q_m l (qv 0)<|qa2 (ZsE M (qv 3)<|Zs7 T.tuple T.range<|ZaT T.len<|qv 1)<|q_m k (qv 0)<|qa2 ZaA<|Zcg (qv 2) ZaA))))) ∅ ?_
 rintro _ Q ⟨N,r,v,C,q⟩
 rename_i z e n a
 refine S_qne.mk N<|S_qF.mk r r v ⋯ λy b H p=>?_;have u:∀i j,i<n->j<n->PS z 3 e (Rg.Ps.con (y i)*a i j):=λi j t s=>by
  obtain ⟨A,O⟩:=H i t;have:=O.con.mul (v i j t s) ⋯ ⋯;rw[Uv] at this;exact this
 refine ⟨_,Zaq (j:=0) rfl,S_mo.mk r r u C ?_⟩;show 0<=((List.map _ _).length:Int)/\((List.map _ _).length:Int)<=1000/\_;rw[Zap];refine ⟨⋯,⋯,GetD.mk (List.range n) rfl (by rw[Qa,Zok]) (ZfB n) Q9 ?_⟩;refine ⟨_,Zaq (j:=1) rfl,S_qN.mk Zcy p.n p.ne ∅ p.p (p.ten ⋯) p.r ?_⟩;have I:(Rg.det n λi j=>Rg.Ps.con (y i)*a i ((List.range n).getD j 0))=Rg.Ps.con (Rg.prd y n)*Rg.det n a:=by
  rw[<-Zjz,<-Rg.det_scl];exact Rg.det_congr λi j _ s=>by rw[Q3,Qj s];rfl
 have R:n*e<=4*e:=Ql _ r;have U:=gz3 r;refine S_qT.mk (c:=gz 3 n) (d:=n) (e:=n*e) (e':=0) (ZeL ∅ C n r λi j t s=>u _ _ t (by rw[Q3,Qj s];exact s)) (p.inv Zcy ∅<|ZiJ p.ne) ⋯ ⋯ ⋯ ⋯ ?_;rw[I,ZiI p.ne,show Rg.Ps.con (1:z.F)*Rg.det n a=Rg.det n a by rw[Zsy];generalize Rg.det n a=x;grind];exact q
theorem ZgX{a:List Nat}{g:Nat->PV}{z:PV->PK'->Prop}{A:List PV->Prop}(d:a.length<=1000)(h:∀i,i<a.length->∀C:PK',C (g i)->z (.int ((a.getD i 0:Nat):Int)) C)(q:A ((List.range a.length).map g)):Comp (iL a) z A :=
 ⟨(List.range a.length).map g,by rw[Zap,Q0],by rw[Q0];exact d,λi p c=>by
  obtain ⟨b,rfl⟩:=ZpJ c;exact h i b _<|ZaZ b,q⟩
inductive S_ch:ZF
 |mk {Q:PK'} {κ:KX} {m:Nat} {r:Nat->Sr κ} {cs:List Nat} (l9:cs.length<=1000) (hc:∀j,j<cs.length->cs.getD j 0<m) (q:Q (.lst (prow κ cs.length λj=>r (cs.getD j 0)))):S_ch [.lst (prow κ m r),.lst (iL cs)] Q
theorem ZeB:FnScope ["row","columns"] ["row","columns"] (Zab ZbU):=‹2›
theorem z_ch(h:Here K mg "chosen_numbers" ZbU):Fn P w K mg base Z "chosen_numbers" 1 S_ch:=by
 refine Za2 h (λ_ _ F=>F.b2 λ_ _ _ _ _ _ _ _=>rfl) ZeB (λg A B f ⟨b,d,q⟩=>⟨b,d,f _ q⟩) (λ_ _ ⟨_,_,_⟩=>rfl) (λ_ _ _ _ _ _ _ i =>
  (Zai<|Zau<|QL.toE<|Zei "column" [(0,"row")] (Zec<|qv 1) (by exact λ_ _ _ _=>(Zcg (qv 1)<|qv 0)))) ∅ ?_
 rintro _ Q ⟨a,e,q⟩;exact ZgX a (λj c C k=>⟨_,Zaq<|ZaZ<|e j c,k⟩) q
inductive S_mi:ZF
 |mk {Q:PK'} {κ:KX} {e n:Nat} {a:Nat->Nat->Sr κ} {rs cs:List Nat} (n4:n<=4) (l1:1<=cs.length) (l4:cs.length<=4) (lr:rs.length=cs.length) (hr:∀j,j<cs.length->rs.getD j 0<n) (hc:∀j,j<cs.length->cs.getD j 0<n) (ha:∀i j,i<n->j<n->PS κ 1 e (a i j)) (e4:5*e<=40) (q:Q (pv κ (Rg.det cs.length λi j=>a (rs.getD i 0) (cs.getD j 0)))):S_mi [.kp κ,ptb κ n n a,.lst (iL rs),.lst (iL cs)] Q
theorem Znt:FnScope ["kind","table","rows","columns"] ["kind","table","rows","columns"] (Zab Zic):=‹2›
theorem z_mi(h:Here K mg "minor" Zic) (c:Fn P w K mg base Z "by_minors" 11 S_bm) (b:Fn P w K mg base Z "chosen_numbers" 11 S_ch):Fn P w K mg base Z "minor" 12 S_mi:=by
 refine Za2 h (λ_ _ F=>F.b4 λ_ _ _ _ _ _ _ _ _ _=>rfl) Znt (λN A B f ⟨s,E,D,t,y,G,H,p,q⟩=>⟨s,E,D,t,y,G,H,p,f _ q⟩) (λ_ _ ⟨_,_,_,_,_,_,_,_,_⟩=>rfl) (λ_ _ _ _ _ _ _ d =>
  (Zai<|Zau<|Zak c<|qa2 (qv 0)<|QL.toE<|Zei "row" [(1,"table"),(3,"columns")] (Zec<|qv 2) (by exact λ_ _ _ _=>(Zak b<|qa2 (Zcg (qv 1)<|qv 0)<|qv 2)))) ∅ ?_
 rintro _ Q ⟨M,r,v,L,d,o,u,J,q⟩
 rename_i I e n a z l
 refine ZgX (g:=λi => .lst<|prow I l.length λj=>a (z.getD i 0)<|l.getD j 0) ⋯ (λi m C k=>⟨_,Zaq<|ZaZ<|d i ⋯,S_ch.mk ⋯ o k⟩) ?_;rw[L];exact S_bm.mk r v (λi j m x=>u _ _ (d i m)<|o j x) J q
inductive S_sg:ZF
 |mk {Q:PK'} {n:Nat} (q:Q (.int (if n%2=0 then 1 else -1))):S_sg [.int (n:Int)] Q
theorem Zkj:FnScope ["count"] ["count"] (Zab Zfe):=‹2›
theorem z_sg(h:Here K mg "sign_of" Zfe):Fn P w K mg base Z "sign_of" 1 S_sg:=by
 refine Za2 h (λ_ _ F=>F.b1 λ_ _ _ _ _ _ _=>rfl) Zkj (λa A B f ⟨q⟩=>⟨f _ q⟩) (λ_ _ ⟨_⟩=>rfl) (λ_ _ _ _ _ _ _ b =>
  (Zai<|Zau<|ZqY (Zfv Za6 leq (ZcA Zbb lc (qv 0) ZaA) ZaA) ZaA<|Zm9 ZaA)) ∅ ?_
 rintro _ Q ⟨q⟩
 rename_i n
 refine ⟨by show (0:Int)<2;decide,br (λz=>?_) λz=>?_⟩
 ·rw[if_pos ⋯] at q;exact q
 ·rw[if_neg ⋯] at q;exact q
inductive S_cc:ZF
 |mk {Q:PK'} {κ:KX} {e n r:Nat} {a:Nat->Nat->Sr κ} (n4:n<=3) (hr:r<=n) (ha:∀i j,i<n+1->j<n+1->PS κ 1 e (a i j)) (e4:5*e<=40) (q:Q (.lst (prow κ (n+1) λp=>Rg.cofN n a p r))):S_cc [.kp κ,ptb κ (n+1) (n+1) a,.int (r:Int)] Q
theorem sc_cofactor_column:FnScope ["kind","table","left_out","part","minors","columns","answer","place","sign"] ["kind","table","left_out"] (Zab ZbF):=‹2›
theorem z_cc(U:Zdc Z)(h:Here K mg "cofactor_column" ZbF) (T:Nm mg) (z:Fn P w K mg base Z "freed" 10 S_qF) (g:Fn P w K mg base Z "minors_of" 10 S_mo) (o:Fn P w K mg base Z "sign_of" 10 S_sg) (t:Mt P w K mg base Z zKp "times" 10 S_qT) (s:Mt P w K mg base Z zKp "number" 10 S_qN):Fn P w K mg base Z "cofactor_column" 11 S_cc:=by
 have E:=sc_cofactor_column.nd;refine Za2 h (λ_ _ F=>F.b3 λ_ _ _ _ _ _ _ _ _=>rfl) sc_cofactor_column (λps A B f ⟨Y,R,O,M,q⟩=>⟨Y,R,O,M,f _ q⟩) (λ_ _ ⟨_,_,_,_,_⟩=>rfl) (λ_ _ _ _ _ _ _ L =>
  (Zaf (ZaC 3 E<|Zak z<|qa2 (qv 0)<|QL.toE<|Zm7 (QL.toE<|Zhw (qv 1) ZgJ<|Zft<|qv 2)<|QL.toE<|Zhw (qv 1) (Zft<|ZcA ZaO li (qv 2) ZaA) ZgJ)
  (Zaf (ZaC 4 E<|Zak g<|qa2 (qv 0)<|Zcg (qv 3) ZaA)
  (Zaf (ZaC 5 E<|Zs7 T.tuple T.range<|ZaT T.len<|qv 1)
  (Zaf (Zch 6 E<|Zb8 ZbB)
  (Zaf (ZbC [7,8] (ZtT<|qv 5) (Zg6 7 E)<|Zaf (ZaC 8 E<|q_m s (qv 0)<|qa2 (Zak o<|qa1<|ZcA ZaO li (qv 7)<|qv 2)<|Zcg (qv 3) ZaA)
   (Zai<|Zc3 6<|q_m t (qv 0)<|qa2 (qv 8)<|ZsE U (qv 4)<|Zoi (Znq (qv 5) ZgJ<|Zft<|qv 7)<|Znq (qv 5) (Zft<|ZcA ZaO li (qv 7) ZaA) ZgJ))
  (Zai<|ZbZ 6<|Zau<|qv 6))))))) ∅ ?_
 rintro _ Q ⟨n4,L,I,J,q⟩
 rename_i k e n r a
 have S:=ZbT (f:=λi=>PV.lst<|prow k (n+1)<|a i) (List.range<|n+1) r;have W:=Zcl (f:=λi=>PV.lst<|prow k (n+1)<|a i) (List.range<|n+1)<|r+1;show (ZcH (prs k (n+1) (n+1) a) none<|some (r:Int)).length+(ZcH (prs k (n+1) (n+1) a) (some<|(r:Int)+1) none).length<=1000/\S_qF [.kp k,.lst<|ZcH (prs k (n+1) (n+1) a) none (some (r:Int))++ZcH (prs k (n+1) (n+1) a) (some<|(r:Int)+1) none] _;rw[show (r:Int)+1=((r+1:Nat):Int) by omega,S,W,<-Qw,Zf6 L,U7,Q0,Q0,Qi,Qv,Q9];refine ⟨⋯,S_qF.mk (n:=n) (m:=n+1) (a:=λi j=>a (Rg.skip r i) j) ⋯ ⋯ (λi j D G=>I _ _ (Rg.skB D) G) ⋯ λy b hy C=>?_⟩;have H:∀i j,i<n->j<n+1->PS k 3 e (Rg.Ps.con (y i)*a (Rg.skip r i) j):=λi j D G=>by
  obtain ⟨A,hA⟩:=hy i D;have:=hA.con.mul (I (Rg.skip r i) j (Rg.skB D) G) ⋯ ⋯;rw[Uv] at this;exact this
 refine ⟨_,Zaq (j:=0) rfl,S_mo.mk ⋯ ⋯ H J ?_⟩;show 0<=((List.map _ _).length:Int)/\((List.map _ _).length:Int)<=1000/\_;rw[Zap];refine ⟨⋯,⋯,by show 0<=1000;decide,?_⟩;rw[Qa,Zok];refine ⟨λp ρ=>p<=n+1/\ρ=[some<|.val<|.kp k,some<|.val<|ptb k (n+1) (n+1) a,some<|.val<|.int (r:Int),some<|.val<|.tup [ptb k n (n+1) λi j=>Rg.Ps.con (y i)*a (Rg.skip r i) j,.int b],some<|.val<|.la k n (n+1) λi j=>Rg.Ps.con (y i)*a (Rg.skip r i) j,some<|.val<|.tup<|iL<|List.range<|n+1,some<|.own<|prow k p λp=>Rg.cofN n a p r,none,none],⟨Q6 _,rfl⟩,?_,?_⟩
 ·rintro p x _ N ⟨_,rfl⟩;obtain ⟨l,rfl⟩:=ZpJ N;rw[Q9] at l;rw[show (List.range<|n+1).getD p 0=p by rw[Q3,Qj l];rfl];show S_sg [.int<|(p:Int)+(r:Int)] _;rw[<-Int.natCast_add];refine S_sg.mk ⟨_,Zaq (j:=1) rfl,S_qN.mk (ZdW<|p+r) C.n C.ne (by split <;> decide) C.p (C.ten ⋯) C.r ?_⟩;refine Zrp (c:=List.range<|n+1) (q:=p) (A:=λq=>GetD (.la k n (n+1) λi j=>Rg.Ps.con (y i)*a (Rg.skip r i) j) q _) (by rw[Q9];exact l) (by rw[Q9];omega)<|GetD.mk _ rfl rfl (ZeZ<|ZfB<|n+1) (by rw[Ze0 (by rw[Q9];exact l),Q9];omega) ?_;have ic:=ZeZ (j:=p)<|ZfB<|n+1;have lc:((List.range<|n+1).take p++(List.range<|n+1).drop (p+1)).length=n:=by rw[Ze0 (by rw[Q9];exact l),Q9];omega
  have ke:n*e<=4*e:=Ql _ ⋯;have g4:=gz3 (n:=n) ⋯;refine S_qT.mk (c:=n) (d:=gz 3 n) (e:=0) (e':=n*e) (C.inv (ZdW<|p+r) (by split <;> decide)<|ZiJ C.ne) (ZeL ∅ J n ⋯ λi j D G=>H _ _ D<|Zoj ic ⋯) ⋯ ⋯ ⋯ ⋯ ?_;have er:(Rg.det n λi j=>Rg.Ps.con (y i)*a (Rg.skip r i) ((((List.range<|n+1).take p++(List.range<|n+1).drop (p+1))).getD j 0))=Rg.Ps.con (Rg.prd y n)*Rg.mnr n a r p:=by
   unfold Rg.mnr;rw[<-Zjz,<-Rg.det_scl];refine Rg.det_congr λi j _ G=>?_;rw[Zmc (by rw[Q9];exact l),Q3,Qj<|Rg.skB G];rfl
  have ec:Rg.Ps.con (sgK k (p+r)*Fd.inv (Rg.prd y n))*(Rg.Ps.con (Rg.prd y n)*Rg.mnr n a r p)=Rg.cofN n a p r:=by
   have:=ZiI (x:=sgK k<|p+r) C.ne<|Rg.mnr n a r p;unfold Rg.cofN;rw[<-ZeA,<-this];generalize Rg.Ps.con (Rg.prd y n)*Rg.mnr n a r p=u;generalize Rg.Ps.con (sgK k (p+r)*Fd.inv (Rg.prd y n))=v;grind
  rw[er,ec];refine ⟨by rw[Zap];omega,l,?_⟩;rw[Zef]
 ·rintro _ ⟨_,rfl⟩;rw[Q0,Q9];exact q
inductive S_cf:ZF
 |mk {Q:PK'} {κ:KX} {e n:Nat} {a:Nat->Nat->Sr κ} (n4:n<=3) (ha:∀i j,i<n+1->j<n+1->PS κ 1 e (a i j)) (e4:5*e<=40) (q:Q (ptb κ (n+1) (n+1) (Rg.cofN n a))):S_cf [.kp κ,ptb κ (n+1) (n+1) a] Q
theorem sc_cofactors:FnScope ["kind","table"] ["kind","table"] (Zab ZcM):=‹2›
theorem z_cf(h:Here K mg "cofactors" ZcM) (T:Nm mg) (c:Fn P w K mg base Z "need_square" 11 S_qne) (b:Fn P w K mg base Z "turned" 11 S_qtu) (d:Fn P w K mg base Z "cofactor_column" 11 S_cc):Fn P w K mg base Z "cofactors" 12 S_cf:=by
 refine Za2 h (λ_ _ F=>F.b2 λ_ _ _ _ _ _ _ _=>rfl) sc_cofactors (λs A B f ⟨g,o,m,q⟩=>⟨g,o,m,f _ q⟩) (λ_ _ ⟨_,_,_,_⟩=>rfl) (λ_ _ _ _ _ _ _ p =>
  (Zaf (Zpu<|Zak c<|qa1<|qv 1)
  (Zai<|Zau<|Zak b<|qa1<|QL.toE<|Zei "place" [(0,"kind"),(1,"table")] (Zb9 T.range<|ZaT T.len<|qv 1) (by exact λ_ _ _ _=>(Zak d<|qa3 (qv 1) (qv 2)<|qv 0))))) ∅ ?_
 rintro _ Q ⟨l,i,j,q⟩
 rename_i t e n a
 refine S_qne.mk ⋯ ?_;show ((List.map _ _).length:Int)<_/\_;rw[Zap];refine ⟨⋯,⋯,?_⟩;rw[Qa];exact ZcY ⋯ (λr p C k=>S_cc.mk l ⋯ i j k)<|S_qtu.mk ⋯ ⋯ ⋯ q
end Zp
namespace My
open PySem L2 PyProof.Rows
section
variable{κ:KX}
theorem Zrt{l a k:Nat}(h:a+k<=l):((List.range l).drop a).take k=(List.range k).map (a + ·):=by
 refine Uj λi=>?_;rw[Wh,Q4]
 by_cases hi:i<k
 ·rw[if_pos hi,Ww,Qj ⋯,Qj hi];rfl
 ·rw[if_neg hi,Qz (by rw[Q9];omega)];rfl
theorem Zol{α:Type}[Lean.Grind.CommRing α](h:Nat->α)(lo:Nat)(z:∀i,i<lo->h i=0):∀k,Rg.Sg h (lo+k)=Rg.Sg (λi=>h<|lo+i) k
 |0=>by
  show Rg.Sg h lo=0;rw[Rg.Sg_congr z,Rg.Sg_zero]
 |k+1=>by
  show Rg.Sg h (lo+k)+h (lo+k)=_+h (lo+k);rw[Zol h lo z k]
theorem Zmh{α:Type}[Lean.Grind.CommRing α](a:Nat->Nat->α)(s t:Nat):(Rg.cn a s).c (t+2)=0-Rg.Sg (λj=>a s j*Rg.cv a s (λi=>a i s) t j) s:=by
 show 0-Rg.Sg (λi=>Rg.wv a s t i*a i s) s=_;rw[Rg.wv_cv a s t<|λi=>a i s]
variable{e n s:Nat}{a:Nat->Nat->Sr κ}
theorem ZjA:PS κ 0 0 (1:Sr κ):=PS.con (x:=(1:κ.F)) Zcy ∅
theorem Znu(e4:e<=4)(n3:n<=3)(b:s<n)(h:∀i j,i<n->j<n->PS κ 3 e (a i j)):∀t i,t<=2->i<n->PS κ (3+6*t) ((t+1)*e) (Rg.cv a s (λi=>a i s) t i)
 |0,i,_,hi=>by rw[Nat.one_mul];exact h i s hi b
 |t+1,i,ht,hi=>by
  have f:(t+1)*e<=3*e:=Ql _ ⋯;refine PS.up (PS.sum (c:=3+(3+6*t)+1) (e:=e+(t+1)*e) s λj d=>(h i j hi ⋯).mul (Znu e4 n3 b h t j ⋯ ⋯) ⋯ ⋯) ⋯ (by rw[U3<|t+1];omega)
theorem Zmi(e4:e<=4)(n3:n<=3)(b:s<n)(h:∀i j,i<n->j<n->PS κ 3 e (a i j)){t:Nat}(g:t<=2):PS κ (9+6*t) ((t+2)*e) (Rg.Sg (λj=>a s j*Rg.cv a s (λi=>a i s) t j) s):=by
 have f:(t+1)*e<=3*e:=Ql _ ⋯;refine PS.up (PS.sum (c:=3+(3+6*t)+1) (e:=e+(t+1)*e) s λj d=>(h s j b ⋯).mul (Znu e4 n3 b h t j ⋯ ⋯) ⋯ ⋯) ⋯ (by rw[U3<|t+1];omega)
theorem Zru(e4:e<=4)(n3:n<=3)(b:s<n)(h:∀i j,i<n->j<n->PS κ 3 e (a i j)):∀i,i<=s+1->PS κ (4+6*s) ((s+1)*e) ((Rg.cn a s).c i)
 |0,_=>(show PS κ 0 0 ((Rg.cn a s).c 0) from ZjA).up ⋯ ⋯
 |1,_=>(show PS κ 4 e ((Rg.cn a s).c 1) from PS.zero.sub (h s s b b)).up ⋯ (by rw[U3];omega)
 |t+2,ht=>by
  rw[Zmh];exact (PS.zero.sub<|Zmi e4 n3 b h (t:=t) ⋯).up ⋯<|Ql _ ⋯
def dz:Nat->Nat
 |0=>0
 |t+1=>dz t+7*t+7
def ez(e:Nat):Nat->Nat
 |0=>0
 |t+1=>ez e t+(t+1)*e
theorem ZpN(e4:e<=4){t:Nat}(h:t<=3):ez e t<=24:=by
 rcases (show t=0\/t=1\/t=2\/t=3 by omega) with rfl|rfl|rfl|rfl <;> simp only[ez] <;> omega
theorem ZpO(e4:e<=4)(n3:n<=3)(h:∀i j,i<n->j<n->PS κ 3 e (a i j)):∀t,t<=n->∀i,PS κ (dz t) (ez e t)<|(Rg.qz t a).c i
 |0,_,i=>by
  show PS κ 0 0 ((1:Rg.Ps (Sr κ)).c i);rw[Rg.Ps.c_one]
  split
  ·exact ZjA
  ·exact .zero
 |t+1,ht,i=>by
  by_cases q:i<=t+1
  ·rw[Rg.qz_step,Rg.Ps.c_mul];have d:(t+1)*e<=3*e:=Ql _ ⋯;have b:=ZpN e4 (t:=t) ⋯;refine PS.up (PS.sum (c:=(4+6*t)+dz t+1) (e:=(t+1)*e+ez e t) (i+1) λk f=>(Zru e4 n3 ⋯ h k ⋯).mul (ZpO e4 n3 h t ⋯<|i-k) ⋯ ⋯) ?_ ?_
   ·show _<=dz t+7*t+7;omega
   ·show _<=ez e t+(t+1)*e;omega
  ·rw[Rg.qz_deg _ _ ⋯];exact .zero
end
end My
namespace Zp
open My
open PySem L2 PyProof.Rows
variable{Z:Zc}{X:Cx}{P:Program}{w:World}{K:ZZfg}{mg:ZZmg}{base:Heap}{cN:Addr}
inductive S_pq:ZF
 |mk {Q:PK'} {κ:KX} {c d e e' l l' pl:Nat} {f g:Nat->Sr κ} (lp:pl+2<=l+l') (l4:min (pl+1) l-(pl+1-l')<=4) (l9:l<=90) (g9:l'<=90) (hf:∀i,i<l->PS κ c e (f i)) (hg:∀i,i<l'->PS κ d e' (g i)) (c5:c+d<=40) (e4:e+e'<=40) (q:Q (pv κ (Rg.Sg (λi=>f (pl+1-l'+i)*g (pl-(pl+1-l'+i))) (min (pl+1) l-(pl+1-l'))))):S_pq [.kp κ,.lst (prow κ l f),.lst (prow κ l' g),.int (pl:Int)] Q
theorem z_pq(h:Here K mg "product_number" Zbq) (T:Nm mg) (t:mg "max"=none) (s:mg "min"=none) (n:Mt P w K mg base Z zKp "sum_of_products" 7 S_qD):Fn P w K mg base Z "product_number" 8 S_pq:=by
 have y:=sc_product_number.nd;refine Za2 h (λ_ _ F=>F.b4 λ_ _ _ _ _ _ _ _ _ _=>rfl) sc_product_number (λps A B f ⟨E,M,J,G,I,O,R,z,q⟩=>⟨E,M,J,G,I,O,R,z,f _ q⟩) (λ_ _ ⟨_,_,_,_,_,_,_,_,_⟩=>rfl) (λ_ _ _ _ _ _ _ hr =>
  (Zaf (ZaC 4 y<|ZlP t ZaA<|ZcA ZaO li (ZcA ZbQ li (qv 3)<|ZaT T.len<|qv 2) ZaA)
  (Zaf (ZaC 5 y<|Zn6 s (ZcA ZaO li (qv 3) ZaA)<|ZaT T.len<|qv 1)
  (Zai<|Zau<|q_m n (qv 0)<|qa2 (QL.toE<|Zhw (qv 1) (Zft<|qv 4)<|Zft<|qv 5)<|QL.toE<|Zei "each" [(2,"others"),(3,"place")] (ZqZ T.range (qv 4)<|qv 5) (by exact λ_ _ _ _=>(Zcg (qv 1)<|ZcA ZbQ li (qv 2)<|qv 0)))))) ∅ ?_
 rintro _ Q ⟨W,v,l9,g9,L,N,D,S,q⟩
 rename_i k c d e e' l o pl f g
 have Y:(prow k l f).length=l:=Zap;have lg:(prow k o g).length=o:=Zap;obtain ⟨a,est,hst⟩:∃a:Nat,(if (pl:Int)-((prow k o g).length:Int)+1>0 then (pl:Int)-((prow k o g).length:Int)+1 else 0)=(a:Int)/\a=pl+1-o:=⟨pl+1-o,by split <;> omega,rfl⟩;obtain ⟨b,eb,hb⟩:∃b:Nat,(if ((prow k l f).length:Int)<(pl:Int)+1 then ((prow k l f).length:Int) else (pl:Int)+1)=(b:Int)/\b=min (pl+1) l:=⟨min (pl+1) l,by split <;> omega,rfl⟩;have U:a<=b:=⋯;rw[<-hst,<-hb] at q v;have u:S_qD [.kp k,.lst<|ZcH (prow k l f) (some (a:Int))<|some (b:Int),.lst<|prow k (b-a) λi=>g<|pl-(a+i)] Q:=by
  rw[show ZcH (prow k l f) (some (a:Int)) (some (b:Int))=prow k (b-a) λi=>f (a+i) by
   rw[ZhD (List.range l) U (by rw[Q9];omega),Zrt ⋯,U7];rfl]
  exact S_qD.mk v (λi x=>L _ ⋯) (λi x=>N _ ⋯) D S q
 have m:(-(2^62)<=(a:Int)/\(a:Int)<2^62 /\ -(2^62)<=(b:Int)/\(b:Int)<2^62)/\Comp (ZhR a ((b:Int)-a).toNat) (λp C=>zOp zIx (zV 1) (zOp (zI0 λi j => .int<|i-j) (zV 2)<|zV 0) [some<|.val p,some<|.val<|.lst<|prow k o g,some<|.val<|.int pl] C) (λr=>S_qD [.kp k,.lst<|ZcH (prow k l f) (some (a:Int))<|some (b:Int),.lst r] Q):=by
  refine ⟨⋯,_,by rw[ZaE,Zap];omega,by rw[ZaE];omega,λi p H=>?_,u⟩;obtain ⟨x,rfl⟩:=ZaN H;refine ⟨_,by rw[show (pl:Int)-((a:Int)+(i:Int))=((pl-(a+i):Nat):Int) by omega];exact Zaq<|ZaZ ⋯,?_⟩;exact ZaZ ⋯
 rw[<-est,<-eb] at m;exact m
theorem ZjB{κ:KX}{n m s:Nat}{a:Nat->Nat->Sr κ}(h:s<=n):ZcH (prs κ n m a) none (some (s:Int))=prs κ s m a:=by
 rw[ZbT,List.take_range,Uh h]
theorem ZhI{κ:KX}{n s:Nat}{a:Nat->Sr κ}(h:s<=n):ZcH (prow κ n a) none (some (s:Int))=prow κ s a:=by
 rw[ZbT,List.take_range,Uh h]
inductive S_cnq:ZF
 |mk {Q:PK'} {κ:KX} {e n s:Nat} {a:Nat->Nat->Sr κ} (n3:n<=3) (hs:s<n) (ha:∀i j,i<n->j<n->PS κ 3 e (a i j)) (e4:e<=4) (q:Q (.lst (prow κ (s+2) λi=>(Rg.cn a s).c i))):S_cnq [.kp κ,ptb κ n n a,.int (s:Int)] Q
theorem sc_corner_numbers:FnScope ["kind","table","size","row","inner","column","falling","turn"] ["kind","table","size"] (Zab ZbY):=‹2›
theorem z_cnq(h:Here K mg "corner_numbers" ZbY) (T:Nm mg) (b:Mt P w K mg base Z zKp "number" 8 S_qN1) (o:Mt P w K mg base Z zKp "minus" 8 (S_qP λ_ f g=>f-g)) (v:Mt P w K mg base Z zKp "sum_of_products" 8 S_qD) (l:Fn P w K mg base Z "column_at" 8 S_qco) (m:Fn P w K mg base Z "sums_with" 8 S_qsw):Fn P w K mg base Z "corner_numbers" 9 S_cnq:=by
 have y:=sc_corner_numbers.nd;refine Za2 h (λ_ _ F=>F.b3 λ_ _ _ _ _ _ _ _ _=>rfl) sc_corner_numbers (λW A B f ⟨I,R,O,J,q⟩=>⟨I,R,O,J,f _ q⟩) (λ_ _ ⟨_,_,_,_,_⟩=>rfl) (λ_ _ _ _ _ _ _ Y =>
  (Zaf (ZaC 3 y<|QL.toE<|Zhw (Zcg (qv 1)<|qv 2) ZgJ<|Zft<|qv 2)
  (Zaf (ZgR 4 "each" [(2,"size")] y (Zec<|QL.toE<|Zhw (qv 1) ZgJ<|Zft<|qv 2) (by exact λ_ _ _ _=>(QL.toE<|Zhw (qv 0) ZgJ<|Zft<|qv 1)))
  (Zaf (ZaC 5 y<|Zak l<|qa2 (QL.toE<|Zhw (qv 1) ZgJ<|Zft<|qv 2)<|qv 2)
  (Zaf (Zch 6 y<|Zb8<|qa2 (q_m b (qv 0)<|qa1 ZaA)<|q_m o (qv 0)<|qa2 (q_m b (qv 0)<|qa1 ZaA)<|Zcg (Zcg (qv 1)<|qv 2)<|qv 2)
  (Zaf (ZbC [7] (Zb9 T.range<|qv 2) (Zg6 7 y)<|Zaf (Zc3 6<|q_m o (qv 0)<|qa2 (q_m b (qv 0)<|qa1 ZaA)<|q_m v (qv 0)<|qa2 (qv 3)<|qv 5)
   (Zai<|ZaC 5 y<|Zak m<|qa3 (qv 0) (qv 4)<|qv 5))
  (Zai<|ZbZ 6<|Zau<|qv 6))))))) ∅ ?_
 rintro _ Q ⟨E,u,x,G,q⟩
 rename_i r e n s a
 have H:∀ {c e},PS r c e (Rg.Ps.con (0:r.F)):=fun {c e}=>by rw[Zog];exact .zero
 refine ⟨_,Zaq<|ZaZ u,?_⟩;show Comp (ZcH (prs r n n a) none<|some (s:Int)) _ _;rw[ZjB ⋯];refine Zbu (g:=λi => .lst<|prow r s<|a i) ⋯ (λi N C k=>?_) ?_
 ·show C (.lst<|ZcH (prow r n<|a i) none<|some (s:Int));rw[ZhI ⋯];exact k
 show S_qco [.lst<|ZcH (prs r n n a) none<|some (s:Int),.int (s:Int)] _;rw[ZjB ⋯];refine S_qco.mk ⋯ u ?_;refine S_qN1.mk Zcy ∅<|S_qN1.mk Zfr ∅ ⟨_,Zaq<|ZaZ u,_,Zaq<|ZaZ u,S_qP.mk H (x s s u u) ∅ ⋯ ⟨by show 2<=1000;decide,⋯,⋯,?_⟩⟩;rw[Qa];refine ⟨λt S=>t<=s/\S=[some<|.val<|.kp r,some<|.val<|ptb r n n a,some<|.val<|.int s,some<|.val<|.lst<|prow r s<|a s,some<|.val<|ptb r s s a,some<|.val<|.lst<|prow r s<|Rg.cv a s (λi=>a i s) t,some<|.own<|prow r (t+2) λi=>(Rg.cn a s).c i,none],⟨Q6 _,?_⟩,?_,?_⟩
 ·show [_,_,_,some<|Sl.val<|.lst<|ZcH (prow r n<|a s) none<|some (s:Int),_,_,_,_]=_;rw[ZhI ⋯,Zog,Zsy]
  rfl
 ·rintro t _ _ L ⟨_,rfl⟩;obtain ⟨D,rfl⟩:=ZaN L;have U:(t+1)*e<=3*e:=Ql _ ⋯;have M:(t+2)*e<=4*e:=Ql _ ⋯;refine S_qN1.mk Zfr ∅<|S_qD.mk (c:=3) (e:=e) (d:=3+6*t) (e':=(t+1)*e) ⋯ (λj z=>x s j u ⋯) (λj z=>Znu G E u x t j ⋯ ⋯) ⋯ ⋯ ?_;refine S_qP.mk H (Zmi G E u x (t:=t) ⋯) ⋯ ⋯ ⟨by rw[Zap];omega,?_⟩;refine S_qsw.mk (c:=3) (e:=e) (d:=3+6*t) (e':=(t+1)*e) ⋯ ⋯ (λi j N z=>x i j ⋯ ⋯) (λj z=>Znu G E u x t j ⋯ ⋯) ⋯ ⋯ ⟨D,?_⟩;rw[Zog,<-Zmh,show t+1+2=(t+2)+1 by omega,Zef (p:=t+2)]
  rfl
 ·rintro _ ⟨_,rfl⟩;rw[ZaE];exact q
inductive S_flq:ZF
 |mk {Q:PK'} {κ:KX} {e n:Nat} {a:Nat->Nat->Sr κ} (n3:n<=3) (ha:∀i j,i<n->j<n->PS κ 3 e (a i j)) (e4:e<=4) (q:Q (.lst (prow κ (n+1) λi=>(Rg.qz n a).c i))):S_flq [.kp κ,ptb κ n n a] Q
theorem sc_falling_numbers:FnScope ["kind","table","numbers","size","corner"] ["kind","table"] (Zab ZbL):=‹2›
theorem z_flq(h:Here K mg "falling_numbers" ZbL) (T:Nm mg) (b:Mt P w K mg base Z zKp "number" 9 S_qN1) (c:Fn P w K mg base Z "corner_numbers" 9 S_cnq) (l:Fn P w K mg base Z "product_number" 9 S_pq):Fn P w K mg base Z "falling_numbers" 10 S_flq:=by
 have p:=sc_falling_numbers.nd;refine Za2 h (λ_ _ F=>F.b2 λ_ _ _ _ _ _ _ _=>rfl) sc_falling_numbers (λM A B f ⟨x,E,D,q⟩=>⟨x,E,D,f _ q⟩) (λ_ _ ⟨_,_,_,_⟩=>rfl) (λ_ _ _ _ _ _ _ N =>
  (Zaf (ZaC 2 p<|QL.toE<|Zb8<|qa1<|q_m b (qv 0)<|qa1 ZaA)
  (Zaf (ZbC [3,4] (Zb9 T.range<|ZaT T.len<|qv 1) (Zg6 3 p)<|Zaf (ZaC 4 p<|Zak c<|qa3 (qv 0) (qv 1)<|qv 3)
   (Zai<|ZaC 2 p<|QL.toE<|Zei "place" [(0,"kind"),(2,"numbers"),(4,"corner")] (Zb9 T.range<|ZcA ZaO li (qv 3) ZaA) (by exact λ_ _ _ _=>(Zak l<|qa4 (qv 1) (qv 3) (qv 2)<|qv 0))))
  (Zai<|Zau<|qv 2)))) ∅ ?_
 rintro _ Q ⟨s,r,o,q⟩
 rename_i m e n a
 refine S_qN1.mk Zcy ∅ ⟨by show 1<=1000;decide,?_⟩;show ((List.map _ _).length:Int)<_/\_;rw[Zap];refine ⟨⋯,⋯,?_⟩;rw[Qa];refine ⟨λt G=>t<=n/\G=[some<|.val<|.kp m,some<|.val<|ptb m n n a,some<|.val<|.lst<|prow m (t+1) λi=>(Rg.qz t a).c i,none,none],⟨Q6 _,rfl⟩,?_,?_⟩
 ·rintro t _ _ y ⟨_,rfl⟩;obtain ⟨d,rfl⟩:=ZaN y;rw[Qo];refine S_cnq.mk s d r o ⟨⋯,⋯,?_⟩;rw[show ((t:Int)+2).toNat=t+2 by omega];refine ZcY (g:=λi=>pv m<|(Rg.qz (t+1) a).c i) ⋯ (λi v C k=>?_) ⟨d,rfl⟩;have J:(t+1)*e<=3*e:=Ql _ ⋯;have I:=ZpN o (t:=t) ⋯;have H:dz t<=21:=by rcases (show t=0\/t=1\/t=2 by omega) with rfl|rfl|rfl <;> decide
  refine S_pq.mk ⋯ ⋯ ⋯ ⋯ (λi v=>Zru o s d r i ⋯) (λi v=>ZpO o s r t ⋯ i) ⋯ ⋯ ?_;have z:Rg.Sg (λj=>(Rg.cn a t).c (i+1-(t+1)+j)*(Rg.qz t a).c (i-(i+1-(t+1)+j))) (min (i+1) (t+2)-(i+1-(t+1)))=(Rg.qz (t+1) a).c i:=by
   rw[Rg.qz_step,Rg.Ps.c_mul,<-Zol (λj=>(Rg.cn a t).c j*(Rg.qz t a).c (i-j)) (i+1-(t+1)) λj L=>by
    rw[Rg.qz_deg t a (show t<i-j by omega)];generalize (Rg.cn a t).c j=u;grind]
   congr 1
   omega
  rw[z];exact k
 ·rintro _ ⟨_,rfl⟩;rw[ZaE];exact q
theorem Znv{κ:KX}{n:Nat}{f:Nat->Sr κ}:atI (prow κ (n+1) f) (-1)=some (pv κ<|f n):=by
 unfold atI ixN;rw[Zap,if_neg ∅,if_pos ⋯];show (prow κ (n+1) f)[((-1:Int)+((n+1:Nat):Int)).toNat]?=_;rw[show ((-1:Int)+((n+1:Nat):Int)).toNat=n by omega];exact ZaZ ⋯
inductive S_wo:ZF
 |mk {Q:PK'} {κ:KX} {e n:Nat} {a:Nat->Nat->Sr κ} (n1:1<=n) (n3:n<=3) (ha:∀i j,i<n->j<n->PS κ 1 e (a i j)) (e4:e<=4) (q:Q (pv κ (Rg.det n a))):S_wo [.kp κ,ptb κ n n a] Q
theorem sc_without:FnScope ["kind","table","part","last"] ["kind","table"] (Zab Zd5):=‹2›
theorem z_wo(h:Here K mg "without" Zd5) (T:Nm mg) (p:Fn P w K mg base Z "need_square" 10 S_qne) (o:Fn P w K mg base Z "freed" 10 S_qF) (c:Fn P w K mg base Z "falling_numbers" 10 S_flq) (k:Fn P w K mg base Z "sign_of" 10 S_sg) (m:Mt P w K mg base Z zKp "times" 10 S_qT) (l:Mt P w K mg base Z zKp "number" 10 S_qN):Fn P w K mg base Z "without" 11 S_wo:=by
 have H:=sc_without.nd;refine Za2 h (λ_ _ F=>F.b2 λ_ _ _ _ _ _ _ _=>rfl) sc_without (λps A B f ⟨I,R,O,J,q⟩=>⟨I,R,O,J,f _ q⟩) (λ_ _ ⟨_,_,_,_,_⟩=>rfl) (λ_ _ _ _ _ _ _ hr =>
  (Zaf (Zpu<|Zak p<|qa1<|qv 1)
  (Zaf (ZaC 2 H<|Zak o<|qa2 (qv 0)<|qv 1)
  (Zaf (ZaC 3 H<|Zcg (Zak c<|qa2 (qv 0)<|Zcg (qv 2) ZaA)<|Zm9 ZaA)
  (Zai<|Zau<|q_m m (qv 0)<|qa2 (qv 3)<|q_m l (qv 0)<|qa2 (Zak k<|qa1<|ZaT T.len<|qv 1)<|Zcg (qv 2) ZaA))))) ∅ ?_
 rintro _ Q ⟨U,z,E,C,q⟩
 rename_i s e n a
 refine S_qne.mk U<|S_qF.mk ⋯ ⋯ E ⋯ λy b L r=>?_;have D:∀i j,i<n->j<n->PS s 3 e (Rg.Ps.con (y i)*a i j):=λi j G M=>by
  obtain ⟨A,hA⟩:=L i G;have:=hA.con.mul (E i j G M) ⋯ ⋯;rw[Uv] at this;exact this
 refine ⟨_,Zaq (j:=0) rfl,S_flq.mk z D C ⟨_,Znv,?_⟩⟩;show S_sg [.int ((List.map _ _).length:Int)] _;rw[Zap];refine S_sg.mk ⟨_,Zaq (j:=1) rfl,S_qN.mk (ZdW n) r.n r.ne (by split <;> decide) r.p (r.ten ⋯) r.r ?_⟩;have ee:=ZpN C (t:=n) z;have dd:dz n<=42:=by rcases (show n=1\/n=2\/n=3 by omega) with rfl|rfl|rfl <;> decide
 refine S_qT.mk (ZpO C z D n (Q2 _) n) (r.inv (ZdW n) (by split <;> decide)<|ZiJ r.ne) ⋯ ⋯ ⋯ ⋯ ?_;have N:(Rg.qz n λi j=>Rg.Ps.con (y i)*a i j).c n*Rg.Ps.con (sgK s n*Fd.inv (Rg.prd y n))=Rg.det n a:=by
  rw[Rg.qz_top,Rg.det_scl,Zjz];have:=ZiI (x:=sgK s n) r.ne<|Rg.det n a;rw[ZeA] at this;have W:=Rg.sgn_sq (α:=Sr s) n;generalize Rg.Ps.con (Rg.prd y n)*Rg.det n a=u at *;generalize Rg.Ps.con (sgK s n*Fd.inv (Rg.prd y n))=v at *;generalize Rg.sgn (Sr s) n=g at *;generalize Rg.det n a=d at *;have S:g*u*v=g*(u*v):=by grind
  rw[S,this];have Y:g*(g*d)=g*g*d:=by grind
  rw[Y,W];grind
 rw[N];exact q
end Zp
namespace My
open PySem L2 PyProof.Rows
section
variable{P:Program}{w:World}{K:ZZfg}{mg:ZZmg}{base:Heap}
theorem sc_l_fraction:FnScope ["_law_top","_law_bottom","_law_by"] ["_law_top","_law_bottom"] (Zab Zdk):=‹2›
theorem Zmj(h:Here K mg "_law_fraction" Zdk) (c:Has P w K mg base "_law_divisor" 1 ["_law_one","_law_other"] ZaX):Has P w K mg base "_law_fraction" 2 ["_law_top","_law_bottom"] Zfq:=by
 refine h.has (λ_ _ F=>F.b2 λ_ _ _ _ _ _ _ _=>rfl) λf y F=>F.ok sc_l_fraction (λm H Q E h=>?_)<|λo A e s H m Q E u h=>?_
 ·obtain ⟨_,_,rfl,_⟩:=h
  rfl
 obtain ⟨t,b,rfl,q,l,k⟩:=h;have v:=sc_l_fraction.nd;refine ⟨_,(Zad (ZaG (i:=2) v rfl (Or.inl rfl)<|ZaI c u (by rfl)<|Zaa (pv 0)<|Zaa (pv 1) Zae)
  (Zag<|Zar<|Zcd<|Zaa (Zam Zje (pv 0)<|pv 2)<|Zaa (Zam Zje (pv 1)<|pv 2) Zae)),?_⟩
 refine ⟨_,rfl,_,rfl,t,b,rfl,?_⟩;have x:=M3.gcd_ne (a:=t) (b:=b) ⋯;have p:Int.gcd t b<=b.natAbs:=Wu ⋯<|Wv.mpr<|W1 t b;have d:(Int.gcd t b:Int)≠0/\Bits 8000 (Int.gcd t b:Int):=⟨⋯,l.le (by rw[Qk];exact p)⟩;obtain ⟨j,n⟩:=ZtA (t:=t) q;refine ⟨_,rfl,_,rfl,_,_,rfl,rfl,d,_,rfl,_,rfl,_,_,rfl,rfl,d,(by show 2<=sizeLine;decide),λr g=>?_⟩;have:=k r g;rw[<-j,<-n] at this;exact this
theorem sc_l_prime:FnScope ["_law_number"] ["_law_number"] (Zab Zfh):=‹2›
theorem ZiK(h:Here K mg "_law_prime" Zfh) (a:Has P w K mg base "_law_is_prime" 1 ["_law_number"] Zd6):Has P w K mg base "_law_prime" 2 ["_law_number"] ZdT:=by
 refine h.has (λ_ _ F=>F.b1 λ_ _ _ _ _ _ _=>rfl) λf x F=>F.ok sc_l_prime (λl H Q E h=>?_)<|λm A b s H l Q E o h=>?_
 ·obtain ⟨_,rfl,_⟩:=h
  rfl
 obtain ⟨n,rfl,q,u,k⟩:=h;have p:=sc_l_prime.nd;refine ⟨_,(Zad (Zcn PassesOwn.never (ZcB<|Zbv<|ZaI a o (by rfl)<|Zaa (pv 0) Zae)<|Zag<|ZaG (i:=0) p rfl (Or.inl rfl)<|Zam ZaO (pv 0) Zac)
  (Zag<|Zar<|pv 0)),?_⟩
 refine ⟨λd g e=>∃t:Int,d=(999983-t).toNat/\g=[some<|.int t]/\e=H/\2<=t/\t<=999983,⟨_,n,rfl,rfl,rfl,⋯,⋯⟩,?_⟩;rintro d g e ⟨t,rfl,rfl,rfl,v,r⟩;refine ⟨_,rfl,t,rfl,⋯,λc=>⟨_,rfl,?_⟩,λc=>⟨_,rfl,?_⟩⟩
 ·refine ZeT ?_;exact ⟨_,rfl,k t<|.inr ⟨c,⋯⟩⟩
 ·refine ZkW ?_;refine ⟨_,λ_ _ h=>h,?_⟩;have j:t≠999983:=λz=>c (by rw[z];exact M2.prm_big);refine ⟨_,rfl,_,_,rfl,rfl,?_⟩;exact ⟨_,⋯,t+1,rfl,rfl,rfl,⋯,⋯⟩
theorem ZgY:FnScope ["_law_cell"] ["_law_cell"] (Zab Zdj):=‹2›
theorem ZgZ(h:Here K mg "_law_prime_by" Zdj) (a:Has P w K mg base "_law_prime" 2 ["_law_number"] ZdT):Has P w K mg base "_law_prime_by" 3 ["_law_cell"] ZcX:=by
 refine h.has (λ_ _ F=>F.b1 λ_ _ _ _ _ _ _=>rfl) λf o F=>F.ok ZgY (λe H Q E h=>?_)<|λi A b s H e Q E n h=>?_
 ·obtain ⟨_,rfl,_⟩:=h
  rfl
 obtain ⟨c,rfl,k⟩:=h;refine ⟨_,(Zad (Za1 (Zav Za6 (Zam Zbb (pv 0) Zac) Zac<|Zay _) (Zag<|Zar Zac) ZaB)
  (Zad (Za1 (Zav Za6 (Zam Zbb (pv 0) Zac) Zac<|Zay _) (Zag<|Zar<|ZaF Za9 (Zhc<|Zaa Zac<|Zaa Zac<|Zaa Zac<|Zaa Zac<|Zaa Zac<|Zaa Zac Zae) (Zam Zbb (Zam Zcu (pv 0) Zac) Zac)<|λ_ _=>rfl) ZaB)
  (Zag<|Zar<|ZaI a n (by rfl)<|Zaa (Zam ZaO Zac<|Zam Zbb (Zam Zg7 (Zam Zcu (pv 0) Zac) Zac) Zac) Zae))),?_⟩
 refine ⟨_,rfl,_,_,rfl,rfl,(by show (0:Int)<_;decide),rfl,_,rfl,?_⟩;refine Zc0 (λ_=>k H 0 (Same.refl H)<|.inl rfl)<|λ_=>?_;refine ⟨_,rfl,_,_,rfl,rfl,(by show (0:Int)<_;decide),rfl,_,rfl,?_⟩;refine Zc0 (λ_=>?_)<|λ_=>?_
 ·obtain ⟨m,g,d⟩:=Zso c;refine ⟨(by show 6<=sizeLine;decide),λq j=>?_⟩;refine ⟨_,rfl,_,_,rfl,rfl,⟨∅,∅⟩,_,_,rfl,rfl,(by show (0:Int)<_;decide),_,_,_,_,rfl,rfl,SqL.of Zah,g,?_⟩;exact k _ m (Zal j _) d
 ·refine ⟨_,rfl,_,_,rfl,rfl,⟨∅,∅⟩,_,_,rfl,rfl,.inr ⟨∅,∅⟩,_,_,rfl,rfl,(by show (0:Int)<_;decide),_,_,rfl,rfl,_,rfl,?_,?_,λp l=>k H p (Same.refl H) l⟩
  ·show (2:Int)<=2+c/3*48271%999982;omega
  ·show 2+c/3*48271%999982<=(999983:Int);omega
theorem Zmk:FnScope ["_law_prime_here","_law_number"] ["_law_prime_here","_law_number"] (Zab Zgr):=‹2›
theorem Zml(h:Here K mg "_law_make" Zgr):Has P w K mg base "_law_make" 1 ["_law_prime_here","_law_number"] ZbN:=by
 refine h.has (λ_ _ F=>F.b2 λ_ _ _ _ _ _ _ _=>rfl) λf o F=>F.ok Zmk (λj H Q E h=>?_)<|λm A a s H j Q E u h=>?_
 ·obtain ⟨_,_,_,rfl,_⟩:=h
  rfl
 obtain ⟨g,t,x,rfl,c,k⟩:=h;refine ⟨_,(Zad (Za1 (Zav Za6 (pv 0) Zac<|Zay _) (Zag<|Zar<|Zcd<|Zaa (pv 1)<|Zaa Zac Zae) ZaB)
  (Zag<|Zar<|Zam Zbr (pv 1)<|pv 0)),?_⟩
 refine ⟨_,rfl,rfl,_,rfl,?_⟩
 cases g with
 |r p b =>
  have n:=b.two;refine Zjf (show (KX.r p b).P≠0 by have:0<(KX.r p b).P:=ZlB;omega) ⟨_,rfl,_,rfl,_,_,rfl,rfl,(show (p:Int)≠0 by omega),k H _ (Same.refl H) ?_⟩;show V.int (t.fmod p)=V.int x.val;have e:(Fin.val x:Int)=t%p:=c.2;rw[W8 _ ⋯,e]
 |q =>
  refine ZgE (show KX.q.P=0 from rfl) ⟨_,rfl,(by show 2<=sizeLine;decide),λr i=>?_⟩;refine k _ _ (Zal i _) ⟨r,rfl,?_⟩;have d:Rat.num x=t:=c.1;have l:Rat.den x=1:=c.2;rw[Zah,d,l];rfl
theorem ZfP:FnScope ["_law_prime_here","_law_found"] ["_law_prime_here","_law_found"] (Zab ZcR):=‹2›
theorem ZfQ(h:Here K mg "_law_is_number" ZcR) (T:Nm mg) (b:Has P w K mg base "_law_whole" 1 ["_law_found"] ZcT) (c:Has P w K mg base "_law_divisor" 1 ["_law_one","_law_other"] ZaX):Has P w K mg base "_law_is_number" 2 ["_law_prime_here","_law_found"] Zdp:=by
 refine h.has (λ_ _ F=>F.b2 λ_ _ _ _ _ _ _ _=>rfl) λf v F=>F.ok ZfP (λn H Q E h=>?_)<|λo A i s H n Q E e h=>?_
 ·obtain ⟨_,_,_,rfl,_⟩:=h
  rfl
 obtain ⟨m,u,x,rfl,g,k⟩:=h;refine ⟨_,(Zad (Za1 (Zav ZfI (pv 0) Zac<|Zay _) (Zag<|Zar<|ZeD (ZaI b e (by rfl)<|Zaa (pv 1) Zae)<|ZdX<|Zga ZjK Zg9 Zac (pv 1)<|pv 0) ZaB)
  (Zad (Za1 (ZdD (ZcB<|Zbv<|Zan ZaK (by rfl) T.isinstance boot_isinstance<|Zaa (pv 1)<|Zaa (ZfK (by rfl) T.tuple boot_tuple) Zae)<|ZdD (Zav Zda (Zan Zas (by rfl) T.len boot_len<|Zaa (pv 1) Zae) Zac<|Zay _)<|ZdD (ZcB<|Zbv<|ZaI b e (by rfl)<|Zaa (ZaF Zaw (pv 1) Zac<|λ_ _=>rfl) Zae)<|ZdF<|ZcB<|Zbv<|ZaI b e (by rfl)<|Zaa (ZaF Zaw (pv 1) Zac<|λ_ _=>rfl) Zae).pt (Zag<|Zar Zc5) ZaB)
  (Zag<|Zar<|ZeD (ZbD ZfI (ZaF Zaw (pv 1) Zac<|λ_ _=>rfl) Zac<|Zay _)<|ZdX<|ZbD Za6 (ZaI c e (by rfl)<|Zaa (ZaF Zaw (pv 1) Zac<|λ_ _=>rfl)<|Zaa (ZaF Zaw (pv 1) Zac<|λ_ _=>rfl) Zae) Zac<|Zay _))),?_⟩
 refine ⟨_,rfl,_,_,rfl,rfl,_,rfl,?_⟩
 cases m with
 |r p l =>
  have g:u = .int x.val:=g;subst g;have t:=x.isLt;exact ZgD (show (0:Int)<(KX.r p l).P from ZlB) ⟨_,rfl,_,rfl,_,rfl,ZkW ⟨_,rfl,_,_,rfl,rfl,_,rfl,ZgD (show (0:Int)<=x.val by omega) ⟨_,rfl,_,_,rfl,rfl,Zn7 (show (x.val:Int)<(p:Int) by omega) k⟩⟩⟩
 |q =>
  obtain ⟨a,rfl,d⟩:=g;have j:=Zbj x;refine ZnX (show ¬(0:Int)<0 by decide) ?_;refine ⟨_,rfl,_,_,_,_,rfl,.of<|.tup d,.ty<|ZcJ K _,_,rfl,ZeT ?_⟩;refine ⟨_,rfl,a,_,rfl,.inr<|SqT.of d,rfl,_,rfl,ZeG (λz=>absurd rfl z)<|λ_=>?_⟩;refine ⟨_,rfl,a,_,0,_,rfl,rfl,SqT.of d,rfl,_,rfl,_,rfl,ZeT ?_⟩;refine ⟨_,rfl,a,_,1,_,rfl,rfl,SqT.of d,rfl,_,rfl,_,rfl,ZeT ?_⟩;refine ⟨_,rfl,a,_,1,_,rfl,rfl,SqT.of d,rfl,_,_,rfl,rfl,_,rfl,ZgD (show (0:Int)<x.den from j.pos) ?_⟩;refine ⟨_,rfl,a,_,0,_,rfl,rfl,SqT.of d,rfl,_,rfl,a,_,1,_,rfl,rfl,SqT.of d,rfl,_,_,rfl,rfl,Zn7 (show V.int ((Int.gcd x.num x.den:Nat):Int)=V.int 1 by rw[j.cop];rfl) k⟩
end
inductive ZfD (CF CR:Addr) (vs:List V) (H:Hp) (Q:VK) (zE:XK):Prop
 |mk (p:Int) (_:vs=[.int p]) (_:PK p) (_:∀(H':Hp) (k:Addr),Same H H'->KdA CF CR p H' k->Q (.ref k) H'):ZfD CF CR vs H Q zE
section
variable{P:Program}{w:World}{K:ZZfg}{mg:ZZmg}{base:Heap}{CF CR cN:Addr}
theorem Zmm:FnScope ["_law_prime_here"] ["_law_prime_here"] (Zab Zgq):=‹2›
theorem Zmn(h:Here K mg "_law_kind" Zgq) (m:Kd K mg CF CR) (v:HasI P w K mg base CR 2 ["self","prime"] (ZgB CR)):Has P w K mg base "_law_kind" 4 ["_law_prime_here"] (ZfD CF CR):=by
 refine h.has (λ_ _ F=>F.b1 λ_ _ _ _ _ _ _=>rfl) λf C F=>F.ok Zmm (λu H Q E h=>?_)<|λy A i s H u Q E B h=>?_
 ·obtain ⟨_,rfl,_⟩:=h
  rfl
 obtain ⟨p,rfl,t,k⟩:=h;refine ⟨_,(Zad (Za1 (Zav Za6 (pv 0) Zac<|Zay _) (Zag<|Zar<|Zk0 m.mkF (by rfl) m.mgF) ZaB)
  (Zag<|Zar<|Zi6 v B (by rfl) m.mgR<|Zaa (pv 0) Zae)),?_⟩
 refine ⟨_,rfl,rfl,_,rfl,?_⟩;refine Zc0 (λz=>?_)<|λz=>?_
 ·intro x l j g q;refine k _ x (λb o e=>?_)<|.inl ⟨z,l,Zah⟩;rw[Zaj<|ZaQ e j,Zaj<|ZaQ e g];exact e
 ·rcases t with rfl|⟨pr1,lp1⟩
  ·exact absurd rfl z
  refine ⟨_,rfl,λr d a c n=>⟨r,d,p,rfl,Zah,pr1,lp1,rfl,?_⟩⟩;refine k _ r (λb o e=>?_)<|.inr ⟨pr1,lp1,d,Zah⟩;rw[Zaj<|ZaQ e a,Zaj<|ZaQ e a,Zaj<|ZaQ e c];exact e
end
section
variable{P:Program}{w:World}{K:ZZfg}{mg:ZZmg}{base:Heap}
theorem Zkk:FnScope ["_law_prime_here","_law_one","_law_other"] ["_law_prime_here","_law_one","_law_other"] (Zab Zfi):=‹2›
theorem ZiL(h:Here K mg "_law_times" Zfi) (c:Has P w K mg base "_law_fraction" 2 ["_law_top","_law_bottom"] Zfq):Has P w K mg base "_law_times" 3 ["_law_prime_here","_law_one","_law_other"] (ZdA λ_ x y=>x*y):=by
 refine h.has (λ_ _ F=>F.b3 λ_ _ _ _ _ _ _ _ _=>rfl) λf J F=>F.ok Zkk (λC H Q E h=>?_)<|λG A l s H C Q E I h=>?_
 ·obtain ⟨_,_,_,_,_,rfl,_⟩:=h
  rfl
 obtain ⟨B,u,v,x,y,rfl,j,i,n,d,k⟩:=h;refine ⟨_,(Zad (Za1 (Zav Za6 (pv 0) Zac<|Zay _) (Zag<|Zar<|ZaI c I (by rfl)<|Zaa (Zam ZaH (ZaF Zaw (pv 1) Zac<|λ_ _=>rfl)<|ZaF Zaw (pv 2) Zac<|λ_ _=>rfl)<|Zaa (Zam ZaH (ZaF Zaw (pv 1) Zac<|λ_ _=>rfl)<|ZaF Zaw (pv 2) Zac<|λ_ _=>rfl) Zae) ZaB)
  (Zag<|Zar<|Zam Zbr (Zam ZaH (pv 1)<|pv 2)<|pv 0)),?_⟩
 refine ⟨_,rfl,rfl,_,rfl,?_⟩
 cases B with
 |q =>
  obtain ⟨a,rfl,o⟩:=j;obtain ⟨b,rfl,t⟩:=i;refine ZgE (show KX.q.P=0 from rfl) ?_;have z:=(Zbj x).pos;have D:=(Zbj y).pos;refine ⟨_,rfl,a,_,0,_,rfl,rfl,SqT.of o,rfl,_,rfl,b,_,0,_,rfl,rfl,SqT.of t,rfl,_,_,rfl,rfl,n.1.mulT d.1,_,rfl,a,_,1,_,rfl,rfl,SqT.of o,rfl,_,rfl,b,_,1,_,rfl,rfl,SqT.of t,rfl,_,_,rfl,rfl,(n.2.up ∅).mulG d.2,_,_,rfl,W2 z D,(n.2.times d.2),λr m=>?_⟩;have e:x*y=Rat.divInt (x.num*y.num) ((x.den:Int)*y.den):=by
   rw[<-Ug,Qu,Qu]
  refine k _ _ (Zal m _) ⟨r,rfl,?_⟩;rw[Zah];show _=some (HO.tup [.int (x*y).num,.int ((x*y).den:Int)]);rw[e]
 |r p g =>
  have j:u = .int x.val:=j;have i:v = .int y.val:=i;subst j i;refine Zjf (show (KX.r p g).P≠0 by have:0<(KX.r p g).P:=ZlB;omega) ⟨_,rfl,_,rfl,_,_,rfl,rfl,Zbx (Za8 g x)<|Za8 g y,_,rfl,_,_,rfl,rfl,(show (p:Int)≠0 by have:=g.two;omega),k H _ (Same.refl H) ?_⟩;show V.int (((x.val:Int)*y.val).fmod p)=V.int ((Fin.val (x*y):Nat):Int);have e:Fin.val (x*y)=(x.val*y.val)%p:=Fin.val_mul x y;rw[e,Wj,Wt,W8 _ ⋯]
theorem Zmo:FnScope ["_law_prime_here","_law_one","_law_other"] ["_law_prime_here","_law_one","_law_other"] (Zab Zgs):=‹2›
theorem Zkl(h:Here K mg "_law_plus" Zgs) (c:Has P w K mg base "_law_fraction" 2 ["_law_top","_law_bottom"] Zfq):Has P w K mg base "_law_plus" 3 ["_law_prime_here","_law_one","_law_other"] (ZdA λ_ x y=>x+y):=by
 refine h.has (λ_ _ F=>F.b3 λ_ _ _ _ _ _ _ _ _=>rfl) λf J F=>F.ok Zmo (λC H Q E h=>?_)<|λG A l s H C Q E I h=>?_
 ·obtain ⟨_,_,_,_,_,rfl,_⟩:=h
  rfl
 obtain ⟨B,u,v,x,y,rfl,i,g,j,d,k⟩:=h;refine ⟨_,(Zad (Za1 (Zav Za6 (pv 0) Zac<|Zay _) (Zag<|Zar<|ZaI c I (by rfl)<|Zaa (Zam ZaO (Zam ZaH (ZaF Zaw (pv 1) Zac<|λ_ _=>rfl)<|ZaF Zaw (pv 2) Zac<|λ_ _=>rfl)<|Zam ZaH (ZaF Zaw (pv 2) Zac<|λ_ _=>rfl)<|ZaF Zaw (pv 1) Zac<|λ_ _=>rfl)<|Zaa (Zam ZaH (ZaF Zaw (pv 1) Zac<|λ_ _=>rfl)<|ZaF Zaw (pv 2) Zac<|λ_ _=>rfl) Zae) ZaB)
  (Zag<|Zar<|Zam Zbr (Zam ZaO (pv 1)<|pv 2)<|pv 0)),?_⟩
 refine ⟨_,rfl,rfl,_,rfl,?_⟩
 cases B with
 |q =>
  obtain ⟨a,rfl,n⟩:=i;obtain ⟨b,rfl,t⟩:=g;refine ZgE (show KX.q.P=0 from rfl) ?_;have z:=(Zbj x).pos;have D:=(Zbj y).pos;refine ⟨_,rfl,a,_,0,_,rfl,rfl,SqT.of n,rfl,_,rfl,b,_,1,_,rfl,rfl,SqT.of t,rfl,_,_,rfl,rfl,j.1.mulG d.2,_,rfl,b,_,0,_,rfl,rfl,SqT.of t,rfl,_,rfl,a,_,1,_,rfl,rfl,SqT.of n,rfl,_,_,rfl,rfl,d.1.mulG j.2,_,_,rfl,rfl,_,rfl,a,_,1,_,rfl,rfl,SqT.of n,rfl,_,rfl,b,_,1,_,rfl,rfl,SqT.of t,rfl,_,_,rfl,rfl,(j.2.up ∅).mulG d.2,_,_,rfl,W2 z D,(j.2.times d.2),λr o=>?_⟩;have e:x+y=Rat.divInt (x.num*y.den+y.num*x.den) ((x.den:Int)*y.den):=by
   rw[<-Rat.divInt_add_divInt _ _ ⋯ ⋯,Qu,Qu]
  refine k _ _ (Zal o _) ⟨r,rfl,?_⟩;rw[Zah];show _=some (HO.tup [.int (x+y).num,.int ((x+y).den:Int)]);rw[e]
 |r p m =>
  have i:u = .int x.val:=i;have g:v = .int y.val:=g;subst i g;refine Zjf (show (KX.r p m).P≠0 by have:0<(KX.r p m).P:=ZlB;omega) ⟨_,rfl,_,rfl,_,_,rfl,rfl,_,rfl,_,_,rfl,rfl,(show (p:Int)≠0 by have:=m.two;omega),k H _ (Same.refl H) ?_⟩;show V.int (((x.val:Int)+y.val).fmod p)=V.int ((Fin.val (x+y):Nat):Int);have e:Fin.val (x+y)=(x.val+y.val)%p:=Fin.val_add x y;rw[e,Wj,Int.natCast_add,W8 _ ⋯]
theorem sc_l_mixed:FnScope ["_law_cell","_law_k","_law_one"] ["_law_cell","_law_k"] (Zab Zfj):=‹2›
theorem Zkm(h:Here K mg "_law_mixed" Zfj):Has P w K mg base "_law_mixed" 1 ["_law_cell","_law_k"] Zey:=by
 refine h.has (λ_ _ F=>F.b2 λ_ _ _ _ _ _ _ _=>rfl) λf n F=>F.ok sc_l_mixed (λb H Q E h=>?_)<|λe A a s H b Q E o h=>?_
 ·obtain ⟨_,_,rfl,_⟩:=h
  rfl
 obtain ⟨c,j,rfl,m,k⟩:=h;have l:=sc_l_mixed.nd;refine ⟨_,(Zad (ZaG (i:=2) l rfl (Or.inl rfl)<|Zam Zbb (Zam Zg7 (Zam ZaO (Zam ZaO (Zam Zbb (pv 0) Zac)<|Zam ZaH (Zam Zg7 Zac<|pv 1)<|pv 1)<|Zam Zg7 Zac<|pv 1) Zac) Zac)
  (Zag<|Zar<|Zam Zbb (Zam ZaH (pv 2)<|Zam ZaO (Zam ZaO (Zam Zbb (pv 2) Zac)<|Zam Zg7 Zac<|pv 1) Zac) Zac)),?_⟩
 have g:((40503:Int)*j).natAbs<=10^150:=Q1 (show _<=100000000 by omega) ∅;have d:j.natAbs<=10^150:=Q1 (show _<=100000000 by omega) ∅;refine ⟨_,rfl,_,_,rfl,rfl,(by show (0:Int)<_;decide),_,rfl,_,_,rfl,rfl,.inl ⟨∅,∅⟩,_,rfl,_,_,rfl,rfl,Zbx g d,_,_,rfl,rfl,_,rfl,_,_,rfl,rfl,.inl ⟨∅,∅⟩,_,_,rfl,rfl,_,_,rfl,rfl,.inr ⟨∅,∅⟩,_,_,rfl,rfl,(by show (0:Int)<_;decide),?_⟩;refine ⟨_,rfl,_,rfl,_,_,rfl,rfl,(by show (0:Int)<_;decide),_,rfl,_,_,rfl,rfl,.inl ⟨∅,∅⟩,_,_,rfl,rfl,_,_,rfl,rfl,_,_,rfl,rfl,?_,_,_,rfl,rfl,(by show (0:Int)<_;decide),?_⟩
 ·refine Zbx ?_ ?_
  ·show ((c%2147483647+40503*j*j+17*j)*48271%2147483647:Int).natAbs<=_;exact Q1 (show _<=10000000000 by omega) ∅
  ·show ((c%2147483647+40503*j*j+17*j)*48271%2147483647%65537+3*j+1:Int).natAbs<=_;exact Q1 (show _<=10000000000 by omega) ∅
 ·exact k _
theorem Zkn:FnScope ["_law_prime_here","_law_number"] ["_law_prime_here","_law_number"] (Zab Zfk):=‹2›
theorem ZiM(h:Here K mg "_law_drawn" Zfk) (a:Has P w K mg base "_law_fraction" 2 ["_law_top","_law_bottom"] Zfq):Has P w K mg base "_law_drawn" 3 ["_law_prime_here","_law_number"] ZdV:=by
 refine h.has (λ_ _ F=>F.b2 λ_ _ _ _ _ _ _ _=>rfl) λf O F=>F.ok Zkn (λC H Q E h=>?_)<|λI A b s H C Q E M h=>?_
 ·obtain ⟨_,_,rfl,_⟩:=h
  rfl
 obtain ⟨B,c,rfl,k⟩:=h;refine ⟨_,(Zad (Za1 (Zav ZfI (pv 0) Zac<|Zay _) (Zag<|Zar<|ZaF Za9 (Zhc<|Zaa Zac<|Zaa Zac<|Zaa (Zam ZbQ (pv 0) Zac)<|Zaa (Zam Zbr (Zam Zcu (pv 1) Zac)<|pv 0) Zae) (Zam Zbb (pv 1) Zac)<|λ_ _=>rfl) ZaB)
  (Zad (Za1 (Zav Za6 (Zam Zbb (pv 1) Zac) Zac<|Zay _) (Zag<|Zar<|Zcd<|Zaa (Zam ZbQ (Zam Zbb (Zam Zcu (pv 1) Zac) Zac) Zac)<|Zaa Zac Zae) ZaB)
  (Zag<|Zar<|ZaI a M (by rfl)<|Zaa (Zam ZbQ (Zam Zbb (Zam Zcu (pv 1) Zac) Zac) Zac)<|Zaa (Zam ZaO Zac<|Zam Zbb (Zam Zcu (pv 1) Zac) Zac) Zae))),?_⟩
 refine ⟨_,rfl,_,_,rfl,rfl,_,rfl,?_⟩
 cases B with
 |r p g =>
  have N:=g.two;refine ZgD (show (0:Int)<(KX.r p g).P from ZlB) ⟨_,rfl,_,_,rfl,rfl,_,rfl,_,_,rfl,rfl,⟨∅,∅⟩,_,rfl,_,_,rfl,rfl,(show (p:Int)≠0 by omega),(by show 4<=sizeLine;decide),λl L=>?_⟩;obtain ⟨o,D⟩:=ZqL g<|c/4;have i:∃(v:V) (x:Fin p),atI [V.int 0,V.int 1,V.int<|(p:Int)-1,V.int<|(c/4).fmod p] (c%4)=some v/\v = .int (x.val:Int):=by
   rcases (by omega:c%4=0\/c%4=1\/c%4=2\/c%4=3) with e|e|e|e <;> rw[e]
   ·exact ⟨_,⟨0,⋯⟩,rfl,rfl⟩
   ·exact ⟨_,⟨1,⋯⟩,rfl,rfl⟩
   ·exact ⟨_,⟨p-1,⋯⟩,rfl,by show V.int ((p:Int)-1)=V.int (((p-1:Nat)):Int);congr 1;omega⟩
   ·exact ⟨_,o,rfl,by rw[D]⟩
  obtain ⟨v,x,y,J⟩:=i;exact ⟨_,rfl,_,_,rfl,rfl,(by show (0:Int)<_;decide),l,_,_,_,rfl,rfl,SqL.of Zah,y,k _ v x (Zal L _) J trivial⟩
 |q =>
  refine ZnX (show ¬(0:Int)<0 by decide) ?_;refine ⟨_,rfl,_,_,rfl,rfl,(by show (0:Int)<_;decide),rfl,_,rfl,?_⟩;refine Zc0 (λ_=>?_)<|λ_=>?_
  ·obtain ⟨x,j,m⟩:=Zjg (n:=c/3%3-1) (d:=1) ⟨∅,by rw[Int.gcd_one]⟩;refine ⟨_,rfl,_,_,rfl,rfl,⟨∅,∅⟩,_,_,rfl,rfl,(by show (0:Int)<_;decide),_,_,rfl,rfl,(by show 2<=sizeLine;decide),λz t=>?_⟩;have G:x=Rat.divInt (c/3%3-1) 1:=by rw[<-j,<-m,Qu]
   refine k _ _ x (Zal t _) ⟨z,rfl,?_⟩ ?_
   ·rw[Zah,j,m]
   ·rw[G];exact Zs2 ∅ ∅ ⋯
  ·refine ⟨_,rfl,_,_,rfl,rfl,⟨∅,∅⟩,_,_,rfl,rfl,(by show (0:Int)<_;decide),_,_,rfl,rfl,_,rfl,_,_,rfl,rfl,⟨∅,∅⟩,_,_,rfl,rfl,(by show (0:Int)<_;decide),_,_,rfl,rfl,c/3%19-9,1+c/57%4,rfl,⋯,Bits.of<|Q5 (show _<2^3 by show _<8;omega)<|W5 ∅ ∅,λr u=>?_⟩;exact k _ _ (Rat.divInt (c/3%19-9)<|1+c/57%4) (Zal u _) ⟨r,rfl,Zah⟩<|Zs2 ⋯ ⋯ ⋯
theorem sc_l_cut:FnScope ["_law_prime_here","_law_numbers"] ["_law_prime_here","_law_numbers"] (Zab Zgt):=‹2›
theorem Znw(h:Here K mg "_law_cut" Zgt) (T:Nm mg) (d:Has P w K mg base "_law_make" 1 ["_law_prime_here","_law_number"] ZbN):Has P w K mg base "_law_cut" 2 ["_law_prime_here","_law_numbers"] ZgN:=by
 refine h.has (λ_ _ F=>F.b2 λ_ _ _ _ _ _ _ _=>rfl) λf fd F=>F.ok sc_l_cut (λY H Q E h=>?_)<|λa0 A t s H Y Q E M h=>?_
 ·obtain ⟨_,_,_,_,rfl,_⟩:=h
  rfl
 obtain ⟨J,a,l,g,rfl,R,C,k⟩:=h;have nd:=sc_l_cut.nd;refine ⟨_,(Zad (Zcn PassesOwn.never (ZnG (Zav ZfI (Zan Zas (by rfl) T.len boot_len<|Zaa (pv 1) Zae) Zac<|Zay _)<|Zks<|Zav (ZnV M) (ZaF Za9 (pv 1) (Zam ZbQ (Zan Zas (by rfl) T.len boot_len<|Zaa (pv 1) Zae) Zac)<|λ_ _=>rfl) (ZaI d M (by rfl)<|Zaa (pv 0)<|Zaa Zac Zae)<|Zay _).pt<|Zag<|ZaG (i:=1) nd rfl (Or.inl rfl)<|ZeS ZhX (pv 1) ZhV<|ZhW<|ZkA Zg8 Zac)
  (Zag<|Zar<|pv 1)),?_⟩
 have W:=C.1;refine ⟨λc L q=>∃(b:Addr) (r:Nat),c=r/\L=[some<|.int J.P,some<|.ref b]/\Same H q/\q b=some (.lst<|l.take r)/\r<=g.length/\(∀j,r<=j->g.getD j 0=0)/\(b=a\/H b=none),⟨_,a,g.length,rfl,rfl,Same.refl _,by rw[<-W,List.take_length];exact R,Q2 _,λj G=>?_,.inl rfl⟩,?_⟩
 ·rw[Q3,Qz G];rfl
 rintro c L q ⟨b,r,rfl,rfl,S,m,n,y,D⟩;have u:(l.take c).length=c:=by rw[Qi];omega
 refine ⟨_,rfl,b,_,rfl,.inl<|SqL.of m,_,_,rfl,rfl,_,rfl,?_⟩;rw[u];refine ZbR (λz=>?_)<|λz=>?_
 ·have z:(0:Int)<(c:Int):=z;obtain ⟨v,N,X⟩:=Zfx C (i:=c-1) ⋯;have x:atI (l.take c) (((l.take c).length:Int)-1)=some v:=by
   rw[u,show (c:Int)-1=((c-1:Nat):Int) by omega];refine Zaq ?_;rw[Wh,if_pos ⋯];exact N
  refine ⟨_,rfl,_,rfl,b,_,rfl,.inl<|SqL.of m,_,_,rfl,rfl,b,_,_,v,rfl,rfl,SqL.of m,x,_,rfl,J,0,0,rfl,Zfr,λO v0 S2 U=>?_⟩;obtain ⟨I,Z,o⟩:=ZqO (X.same<|S.trans S2) U;refine ⟨I,Z,_,rfl,?_⟩
  cases I with
  |true =>
   have gz:=o.mp rfl;refine ZkW ⟨_,λ_ _ h=>h,?_⟩;refine ⟨_,rfl,_,rfl,_,rfl,b,_,rfl,SqL.of<|S2 _ _ m,λp B=>?_⟩;have ec:Zko (l.take c) none (some<|-1)=l.take (c-1):=by
    unfold Zko;rw[HT.sIx_none,List.drop_zero,Nat.sub_zero,u];have:HT.sIx c c (some<|-1)=c-1:=by
     simp only[HT.sIx]
     rw[if_pos ∅];omega
    rw[this,List.take_take]
    congr 1
    omega
   refine ⟨c-1,⋯,p,c-1,rfl,rfl,(S.trans S2).trans<|Zal B _,?_,⋯,λj G=>?_,.inr<|(S.trans S2).free B⟩
   ·rw[Zah];exact congrArg (λz=>some<|HO.lst z) ec
   ·by_cases e:j=c-1
    ·rw[e];exact gz
    ·exact y j ⋯
  |false =>
   refine ZeT ?_;exact ⟨_,rfl,k O b c (S.trans S2) (S2 _ _ m) n y (.inr λz=>by have:=o.mpr z;cases this) D⟩
 ·have z:¬(0:Int)<(c:Int):=z;exact ⟨_,rfl,k q b c S m n y (.inl ⋯) D⟩
theorem sc_l_poly_times:FnScope ["_law_prime_here","_law_f","_law_g","_law_told","_law_i","_law_j"] ["_law_prime_here","_law_f","_law_g"] (Zab Zcx):=‹2›
theorem ZfE(h:Here K mg "_law_poly_times" Zcx) (T:Nm mg) (l:Has P w K mg base "_law_make" 3 ["_law_prime_here","_law_number"] ZbN) (g:Has P w K mg base "_law_plus" 3 ["_law_prime_here","_law_one","_law_other"] (ZdA λ_ x y=>x+y)) (e:Has P w K mg base "_law_times" 3 ["_law_prime_here","_law_one","_law_other"] (ZdA λ_ x y=>x*y)) (t:Has P w K mg base "_law_cut" 3 ["_law_prime_here","_law_numbers"] ZgN):Has P w K mg base "_law_poly_times" 4 ["_law_prime_here","_law_f","_law_g"] Zcj:=by
 refine h.has (λ_ _ F=>F.b3 λ_ _ _ _ _ _ _ _ _=>rfl) λf fd F=>F.ok sc_l_poly_times (λvs H Q E h=>?_)<|λb1 A a8 s H vs Q E hr h=>?_
 ·obtain ⟨_,_,_,_,_,_,_,_,_,_,_,rfl,_⟩:=h
  rfl
 obtain ⟨d,Y,U,xs,ys,F,G,Dd,Ee,M,N,rfl,hF,hG,aF,aG,lF,lG,qF,qG,hD,hE,S,lM,k⟩:=h;have nd:=sc_l_poly_times.nd;refine ⟨_,(Zad (ZcD (i:=3) ["_law_k"] [(0,"_law_prime_here")] nd rfl rfl rfl (Zc9 (by rfl) T.range<|Zaa (Zam ZaO (Zan Zas (by rfl) T.len boot_len<|Zaa (pv 1) Zae)<|Zan Zas (by rfl) T.len boot_len<|Zaa (pv 2) Zae) Zae) (by exact λ_ _ _ _=>(ZaL (i:=0) (show (["_law_k","_law_prime_here"]:List Str).Nodup by decide +kernel) rfl<|Or.inl rfl)) (by exact λ_ _ _ _=>(ZaI l hr (by rfl)<|Zaa (pv 1)<|Zaa Zac Zae)) ⟨⟨rfl,rfl,Or.inl rfl⟩,trivial⟩)
  (Zad (ZdY PassesOwn.never rfl (Zc9 (by rfl) T.range<|Zaa (Zan Zas (by rfl) T.len boot_len<|Zaa (pv 1) Zae) Zae) (ZaL (i:=4) nd rfl<|Or.inl rfl)<|Zag<|ZdY PassesOwn.never rfl (Zc9 (by rfl) T.range<|Zaa (Zan Zas (by rfl) T.len boot_len<|Zaa (pv 2) Zae) Zae) (ZaL (i:=5) nd rfl<|Or.inl rfl)<|Zag<|Zkv (ZaI g hr (by rfl)<|Zaa (pv 0)<|Zaa (ZaF Za9 (pv 3) (Zam ZaO (pv 4)<|pv 5)<|λ_ _=>rfl)<|Zaa (ZaI e hr (by rfl)<|Zaa (pv 0)<|Zaa (ZaF Za9 (pv 1) (pv 4)<|λ_ _=>rfl)<|Zaa (ZaF Za9 (pv 2) (pv 5)<|λ_ _=>rfl) Zae) Zae)<|Zku (pv 3) (Zam ZaO (pv 4)<|pv 5) Zgb)
  (Zag<|Zar<|ZaI t hr (by rfl)<|Zaa (pv 0)<|Zaa (pv 3) Zae))),?_⟩
 have lx:=aF.1;have ly:=aG.1;have J:=W2 hD hE;have bM:F.length*(G.length*(M*N))<2^3000:=lM;have a0:∀ {x y:d.F},QN d Dd M x->QN d Ee N y->1<=F.length->1<=G.length->B1 d x/\B1 d y/\B1 d (x*y):=by
  intro x y hx hy f1 g1;have m1:M*N<=F.length*(G.length*(M*N)):=by
   have a:1*(M*N)<=G.length*(M*N):=Ql _ g1;have b:1*(G.length*(M*N))<=F.length*(G.length*(M*N)):=Ql _ f1;omega
  refine ⟨hx.b1 hD S.1 S.2.2.1,hy.b1 hE S.2.1 S.2.2.2.1,(QN.mul hx hy).b1 J S.2.2.2.2<|Qq m1 bM⟩
 refine ⟨_,rfl,Y,_,rfl,.inl<|SqL.of hF,_,rfl,U,_,rfl,.inl<|SqL.of hG,_,_,rfl,rfl,(xs.length:Int)+(ys.length:Int),rfl,⋯,⋯,?_⟩;rw[show ((xs.length:Int)+(ys.length:Int)).toNat=F.length+G.length by omega];refine ZjS (lo:=0) (n:=F.length+G.length) (λq c O=>Same H O/\AllG (NR d O) c (List.replicate q 0)) ⋯ ⟨Same.refl _,.nil⟩ ?_ ?_
 ·rintro q c O _ _ ⟨m,C⟩;refine ⟨_,rfl,d,0,0,rfl,Zfr,λH5 v0 Z n0=>⟨m.trans Z,?_⟩⟩;rw[List.replicate_succ'];exact (C.mono λ_ _ n=>n.same Z).append<|.one n0
 rintro c H1 _ ⟨S1,e1⟩ p B;have Sd:=Zal B<|.lst c;have qt:=Zah (H:=H1) (a:=p) (o:=.lst c);have e2:=e1.mono λ_ _ n=>n.same Sd;have a1:H p=none:=S1.free B;have S2:=S1.trans Sd;generalize upd H1 p (.lst c)=H2 at *;rw[<-Zq7] at e2;refine ⟨_,rfl,Y,_,rfl,.inl<|SqL.of<|S2 _ _ hF,(xs.length:Int),rfl,⋯,⋯,?_⟩;rw[show ((xs.length:Int)).toNat=F.length by omega];refine Ze3 (lo:=0) (n:=F.length) (λi L u=>∃(z4 I:Option V) (c:List V),L=[some<|.int d.P,some<|.ref Y,some<|.ref U,some<|.ref p,z4,I]/\Same H u/\u p=some (.lst c)/\AllG (NR d u) c (ZeQ F G i 0)) ⟨_,_,c,rfl,S2,qt,e2⟩ ?_ ?_
 ·rintro i L u hi ⟨z4,I,c,rfl,X,q3,e3⟩;refine ⟨_,rfl,U,_,rfl,.inl<|SqL.of<|X _ _ hG,(ys.length:Int),rfl,⋯,⋯,?_⟩;rw[show ((ys.length:Int)).toNat=G.length by omega];refine Ze3 (lo:=0) (n:=G.length) (λj L u=>∃(I:Option V) (c:List V),L=[some<|.int d.P,some<|.ref Y,some<|.ref U,some<|.ref p,some<|.int<|0+(i:Int),I]/\Same H u/\u p=some (.lst c)/\AllG (NR d u) c (ZeQ F G i j)) ⟨_,c,rfl,X,q3,e3⟩ ?_ ?_
  ·rintro j L O hj ⟨I,c,rfl,m,q4,C⟩;have lz:=C.1;rw[Zca] at lz;obtain ⟨vt,a5,a3⟩:=Zfx C (i:=i+j) (by rw[Zca];omega);obtain ⟨vf,a7,a2⟩:=Zfx aF (i:=i) hi;obtain ⟨vg,a4,b0⟩:=Zfx aG (i:=j) hj;have mt:=Qp<|ZdU (show i+j<(ZeQ F G i j).length by rw[Zca];omega);have bt:B1 d ((ZeQ F G i j).getD (i+j) 0):=(Zpp J qF qG hi ⋯ _ mt).b1 J S.2.2.2.2 bM;obtain ⟨bf,bg,a9⟩:=a0 (qF _<|Qp<|ZdU hi) (qG _<|Qp<|ZdU hj) ⋯ ⋯;have W:(0+(i:Int))+(0+(j:Int))=((i+j:Nat):Int):=⋯;refine ⟨_,rfl,_,rfl,_,rfl,_,rfl,_,_,rfl,rfl,p,_,_,_,rfl,rfl,SqL.of q4,(by rw[W];exact Zaq a5),_,rfl,_,rfl,_,rfl,Y,_,_,_,rfl,rfl,SqL.of<|m _ _ hF,(by rw[Qo];exact Zaq a7),_,rfl,_,rfl,U,_,_,_,rfl,rfl,SqL.of<|m _ _ hG,(by rw[Qo];exact Zaq a4),d,vf,vg,_,_,rfl,a2.same m,b0.same m,bf,bg,λH5 vp Z np=>?_⟩;refine ⟨d,vt,vp,_,_,rfl,a3.same Z,np,bt,a9,λH6 v S6 nv=>?_⟩;have R:=Z.trans S6;have q6:=R _ _ q4;refine ⟨_,rfl,_,rfl,_,rfl,_,_,rfl,rfl,p,c,_,_,rfl,rfl,q6,(by rw[W];exact Zpd (Int.natCast_nonneg _) ⋯),?_⟩;rw[Qa];have O7:Off [p] H6 (upd H6 p<|.lst<|c.set (i+j) v):=ZeX<|Same.refl H6;refine ⟨_,c.set (i+j) v,rfl,Off.same O7 (m.trans R) (λz hz=>by rw[Qh.mp hz];exact a1),Zah,?_⟩;rw[ZlR hi hj];exact (C.mono λ_ _ n=>(n.same R).off q6 O7).set _<|nv.off q6 O7
  ·rintro L O ⟨I,c,rfl,m,q4,C⟩;rw[Znc] at C;exact ⟨_,_,c,rfl,m,q4,C⟩
 ·rintro L u ⟨z4,I,c,rfl,X,q3,e3⟩;refine ⟨_,rfl,_,rfl,d,p,c,_,rfl,q3,e3,λO D r m a6 lr h0 h1 fD=>?_⟩;rw[Zca] at lr;refine k O D _ r (X.trans m) a6 (Zne (e3.mono λ_ _ n=>n.same m) r) lr h0 h1 ?_;rcases fD with rfl|fD
  ·exact a1
  ·exact X.free fD
theorem sc_l_is_poly:FnScope ["_law_prime_here","_law_found","_law_one"] ["_law_prime_here","_law_found"] (Zab ZdO):=‹2›
theorem ZhJ(h:Here K mg "_law_is_poly" ZdO) (T:Nm mg) (c:Has P w K mg base "_law_is_number" 2 ["_law_prime_here","_law_found"] Zdp) (d:Has P w K mg base "_law_make" 2 ["_law_prime_here","_law_number"] ZbN):Has P w K mg base "_law_is_poly" 3 ["_law_prime_here","_law_found"] Zdr:=by
 refine h.has (λ_ _ F=>F.b2 λ_ _ _ _ _ _ _ _=>rfl) λf Y F=>F.ok sc_l_is_poly (λN H Q E h=>?_)<|λR A p s H N Q E y h=>?_
 ·obtain ⟨_,_,_,_,rfl,_⟩:=h
  rfl
 obtain ⟨t,a,xs,g,rfl,⟨l,q⟩,B,k⟩:=h;have S:=sc_l_is_poly.nd;refine ⟨_,(Zad (Za1 (ZcB<|Zbv<|Zan ZaK (by rfl) T.isinstance boot_isinstance<|Zaa (pv 1)<|Zaa (ZfK (by rfl) T.list boot_list) Zae) (Zag<|Zar Zc5) ZaB)
  (Zad (ZdY PassesOwn.never rfl (Zf8<|pv 1) (ZaL (i:=2) S rfl<|Or.inl rfl)<|Zag<|Za1 (ZcB<|Zbv<|ZaI c y (by rfl)<|Zaa (pv 0)<|Zaa (pv 2) Zae) (Zag<|Zar Zc5) ZaB)
  (Zag<|Zar<|Zp6 (ZbD Za6 (Zan Zas (by rfl) T.len boot_len<|Zaa (pv 1) Zae) Zac<|Zay _)<|ZdX<|ZbD (Zqy y) (ZaF Za9 (pv 1) (Zam ZbQ (Zan Zas (by rfl) T.len boot_len<|Zaa (pv 1) Zae) Zac)<|λ_ _=>rfl) (ZaI d y (by rfl)<|Zaa (pv 0)<|Zaa Zac Zae)<|Zay _))),?_⟩
 have W:=q.1;refine ⟨_,rfl,_,_,_,_,rfl,.of<|.lst l,.ty<|ZcJ K _,_,rfl,ZeT ?_⟩;refine ⟨_,rfl,a,rfl,⟨_,SqL.of l⟩,?_⟩;refine ZiZ (xs:=xs) (λj o m=>∃n:Option V,o=[some<|.int t.P,some<|.ref a,n]/\m=H) ⟨_,rfl,rfl⟩ ?_ ?_ ?_
 ·rintro j o m-⟨n,rfl,rfl⟩;exact SqL.of l
 ·rintro j u o m G ⟨n,rfl,rfl⟩;obtain ⟨x,O,I⟩:=q.get G;exact ⟨_,rfl,_,rfl,t,u,x,rfl,I,_,rfl,ZeT ⟨_,rfl,rfl⟩⟩
 ·rintro o m ⟨n,rfl,rfl⟩;refine ⟨_,rfl,a,_,rfl,.inl<|SqL.of l,rfl,_,rfl,?_⟩;rcases B with z|z
  ·exact ZgE (show (xs.length:Int)=0 by omega) (k m<|Same.refl _)
  ·have U:0<g.length:=Ub λe=>z<|ZaJ ⋯;refine Zjf (show (xs.length:Int)≠0 by omega) ?_;obtain ⟨v,C,M⟩:=Zfx q (i:=g.length-1) ⋯;refine ⟨_,rfl,_,rfl,a,_,rfl,.inl<|SqL.of l,_,_,rfl,rfl,a,_,_,v,rfl,rfl,SqL.of l,(by rw[show (xs.length:Int)-1=((g.length-1:Nat):Int) by omega];exact Zaq C),_,rfl,t,0,0,rfl,Zfr,λD X S2 J=>?_⟩;obtain ⟨b,L,r⟩:=ZqO (M.same S2) J;refine ⟨b,L,?_⟩
   cases b with
   |true=>exact absurd (r.mp rfl) z
   |false=>exact k D S2
end
section
variable{κ:KX}
theorem Znx(F G:ZZlk κ):sr (ZeQ F G F.length 0)=sr F*sr G:=Rg.Ps.ext λk=>by
 rw[Zl2,Zfz]
 by_cases h:k<F.length+G.length
 ·rw[Zjq h];show pO F G F.length k+0=_;generalize pO F G F.length k=z;grind
 ·rw[ZaJ (by rw[Zca];omega),ZlS ⋯]
theorem Zny(F G:ZZlk κ):sr (ZpZ F G)=sr F+sr G:=Rg.Ps.ext λk=>by rw[Rg.Ps.c_add,Zfz,Zfz,Zfz,Znl]
theorem Zmp{f:ZZlk κ}{r:Nat}(a:∀j,r<=j->f.getD j 0=0):sr (f.take r)=sr f:=Rg.Ps.ext λk=>by rw[Zfz,Zfz,Zee a]
end
end My
namespace Zp
open My
open PySem L2 PyProof.Rows
variable{Z:Zc}{X:Cx}{P:Program}{w:World}{K:ZZfg}{mg:ZZmg}{base:Heap}{cF:Addr}
theorem ZeN{x:Str}{k:Nat}{ps:List Str}{sp:Sp}{S:ZF}(h:HasX P w K mg base x k ps sp)(mo:MoF S)(a:∀O H pv vs Q E,Ls O H->Reps Z (hide O H) pv vs->S pv (Up Z O H Q)->sp vs H Q E):Fn P w K mg base Z x k S :=
 ⟨mo,ps,let ⟨f,fd,F,m,kp,b⟩:=h.ex;⟨f,fd,F.imp<|λvs H Q E ⟨O,pv,l,r,s⟩=>a O H pv vs Q E l r s,m,kp,b⟩⟩
theorem Reps.three{H:Hp}{p q r:PV}{us:List V}(h:Reps Z H [p,q,r] us):∃u v t,us=[u,v,t]/\Rep Z H p u/\Rep Z H q v/\Rep Z H r t:=by
 unfold Reps at h;obtain ⟨u,r,e,d,t⟩:=h;obtain ⟨v,t,c,a,b⟩:=t.two;exact ⟨u,v,t,by rw[e,c],d,a,b⟩
inductive S_lmake:ZF
 |mk {Q:PK'} {κ:KX} {t:Int} (x:κ.F) (n:NumV κ t x) (q:Q (num κ x)):S_lmake [.int κ.P,.int t] Q
theorem z_lmake{k:Nat}{ps:List Str}(h:Has P w K mg base "_law_make" k ps ZbN):Fn P w K mg base Z "_law_make" k S_lmake :=
 ZeN h.toX (λps A B f ⟨x,n,q⟩=>⟨x,n,f _ q⟩) λO H pv e Q E L r s=>by
  obtain ⟨x,n,q⟩:=s;obtain ⟨u,v,rfl,c,a⟩:=r.two;rw[Zax c,Zax a];exact ⟨_,_,x,rfl,n,λd v S b=>q v d S<|ZcE (L.same S) b⟩
inductive S_lop (g:(κ:KX)->κ.F->κ.F->κ.F):ZF
 |mk {Q:PK'} {κ:KX} {x y:κ.F} (b1:B1 κ x) (b2:B1 κ y) (q:Q (num κ (g κ x y))):S_lop g [.int κ.P,num κ x,num κ y] Q
theorem z_lop{n:Str}{k:Nat}{ps:List Str}{g:(κ:KX)->κ.F->κ.F->κ.F}(h:Has P w K mg base n k ps (ZdA g)):Fn P w K mg base Z n k (S_lop g) :=
 ZeN h.toX (λps A B f ⟨a,b,q⟩=>⟨a,b,f _ q⟩) λO H pv o Q E L r s=>by
  obtain ⟨c,m,q⟩:=s;obtain ⟨u,v,t,rfl,j,e,d⟩:=r.three;rw[Zax j];exact ⟨_,v,t,_,_,rfl,Zc4 e,Zc4 d,c,m,λl v S i=>q v l S<|ZcE (L.same S) i⟩
inductive EqNP (n:Bool):R2'
 |mk {Q:PK'} {κ:KX} {x y:κ.F} (q:∀b:Bool,(b=true↔x=y)->Q (.bl (n ^^ b))):EqNP n (num κ x) (num κ y) Q
theorem ZsH{O:ZZla}{H:Hp}{κ:KX}{x y:κ.F}{u v:V}(r1:Rep Z (hide O H) (num κ x) u)(r2:Rep Z (hide O H) (num κ y) v):∃b:Bool,ZmS H u v b/\(b=true↔x=y):=by
 have f:=Zc4 r1;have d:=Zc4 r2
 cases κ with
 |q =>
  obtain ⟨a,rfl,g⟩:=f;obtain ⟨c,rfl,h⟩:=d;refine ⟨_,.inr ⟨a,c,_,_,_,_,rfl,rfl,g,h,rfl⟩,?_⟩;rw[Bool.and_eq_true,decide_eq_true_iff,decide_eq_true_iff];exact ⟨λ⟨a,b⟩=>Rat.ext a ⋯,λe=>by rw[e];exact ⟨rfl,rfl⟩⟩
 |r p i =>
  have f:u = .int x.val:=f;have d:v = .int y.val:=d;refine ⟨_,.inl ⟨_,_,f,d,rfl⟩,?_⟩;rw[decide_eq_true_iff];exact ⟨λe=>Fin.ext ⋯,λe=>by rw[e]⟩
theorem ZtU:LR Z Zr7 (EqNP false):=⟨λp q A B f ⟨h⟩=>⟨λb e=>f _<|h b e⟩,λO H p q x y Q _ c a k=>by
 obtain ⟨k⟩:=k;obtain ⟨b,e,i⟩:=ZsH c a;have:=k b i _ H ZaW Zcz;rw[Bool.false_xor] at this;exact ⟨b,e,this⟩⟩
theorem ZhK{O:ZZla}{H:Hp}{κ:KX}{f:ZZlk κ}{v:V}(h:Rep Z (hide O H) (Zex κ f) v):Rp H 2 v (.list<|f.map κ.D):=by
 obtain ⟨a,j,rfl,g,r⟩:=rep_lst h;have c:=Zcr r;refine .inr<|.inl ⟨a,j,_,rfl,rfl,Zao _ _ g,by rw[Q0];exact c.1,λi u e d b=>?_⟩;rw[Q4] at b
 cases hx:f[i]? with
 |none=>rw[hx] at b;cases b
 |some x=>rw[hx] at b;cases b;exact (c.2 i u x d hx).rp
inductive EqTP (b:Bool):R2'
 |mk {Q:PK'} {κ:KX} {f:ZZlk κ} (q:Q (.bl b)):EqTP b (Zex κ f) (Zex κ f) Q
theorem ZtV:LR Z Zr5 (EqTP true):=⟨λp q A B f ⟨h⟩=>⟨f _ h⟩,λO H p q x y Q _ b a k=>by
 obtain ⟨k⟩:=k;exact ⟨_,(ZhK b).mono ∅,(ZhK a).mono ∅,k _ H ZaW Zcz⟩⟩
theorem ZtW:LR Z Zr6 (EqTP false):=⟨λp q A B f ⟨h⟩=>⟨f _ h⟩,λO H p q x y Q _ b a k=>by
 obtain ⟨k⟩:=k;exact ⟨_,(ZhK b).mono ∅,(ZhK a).mono ∅,k _ H ZaW Zcz⟩⟩
section
variable{p p2 pos:Pos}{e:Expr}{te:ZE}
abbrev ZtX(te:ZE):ZE:=λa Q=>te a λp=>match p with
 | .lst _=>Q<|.bl true
 |_=>False
theorem Zrv(n:X.mg "isinstance"=none) (m:X.mg "list"=none) (h:QE Z X e te) (i:Gl X "isinstance":= by rfl) (c:Gl X "list":= by rfl) (d:starEach [e,.Name "list" p2] X.env=(false,eval e X.env)::starEach [.Name "list" p2] X.env:=by rfl):QE Z X (.Call (.Name "isinstance" p) [e,.Name "list" p2] [] pos) (ZtX te) :=
 ⟨λb _ _ f q=>h.mo b _ _ (λp k=>by
  split at k
  ·exact f _ k
  ·exact k.elim) q,λt o=>Zbf (Zan ZbE i n boot_isinstance (Zaa (h.ok t o) (Zaa (ZfK c m boot_list) Zae) d) ∅ ∅ d rfl) λu H Q ⟨O,b,s,q⟩=>⟨O,b,s,h.mo b _ _ (λp k v r j g=>by
  split at k
  ·unfold Rep at g;obtain ⟨a,x,rfl,l,_⟩:=g;exact ⟨_,_,_,true,rfl,.lst<|Zao _ _ l,ZcJ _ _,k _ r j Zcz⟩
  ·exact k.elim) q⟩⟩
end
theorem ZpP{α:Type}{f:α->PV}(g:List α):ZcH (g.map f) none (some<|-1)=(g.take<|g.length-1).map f:=by
 unfold ZcH;rw[HT.sIx_none,List.drop_zero,Nat.sub_zero,Q0];have:HT.sIx g.length g.length (some<|-1)=g.length-1:=by
  simp only[HT.sIx]
  rw[if_pos ∅];omega
 rw[this,List.map_take]
theorem Zg0{O:ZZla}{H:Hp}{κ:KX}{n m:Nat}{a:Nat->Nat->Sr κ}{v:V}(h:Rep Z (hide O H) (ptb κ n m a) v):Rp H 4 v (.list<|(List.range n).map λi => .list<|(List.range m).map λj => .list<|(pl<|a i j).map κ.D):=by
 obtain ⟨b,z,rfl,t,r⟩:=rep_lst h;refine .inr<|.inl ⟨b,z,_,rfl,rfl,Zao _ _ t,by rw[r.len,Zap,Zap],λi u e l g=>?_⟩;obtain ⟨s,rfl⟩:=rget g;obtain ⟨x,d,k⟩:=r.get<|ZaZ (f:=λi=>PV.lst<|prow κ m<|a i) s;rw[l] at d;cases d;obtain ⟨c,q,rfl,y,o⟩:=rep_lst k;refine .inr<|.inl ⟨c,q,_,rfl,rfl,Zao _ _ y,by rw[o.len,Zap,Zap],λj u e l g=>?_⟩;obtain ⟨p,rfl⟩:=rget g;obtain ⟨x,d,k⟩:=o.get<|ZaZ (f:=λj=>pv κ<|a i j) p;rw[l] at d;cases d;exact ZhK k
inductive EqPP (b:Bool):R2'
 |mk {Q:PK'} {κ:KX} {n m:Nat} {a:Nat->Nat->Sr κ} (q:Q (.bl b)):EqPP b (ptb κ n m a) (ptb κ n m a) Q
theorem ZsI:LR Z Zr5 (EqPP true):=⟨λp q A B f ⟨h⟩=>⟨f _ h⟩,λO H p q x y Q _ b a k=>by
 obtain ⟨k⟩:=k;exact ⟨_,(Zg0 b).mono ∅,(Zg0 a).mono ∅,k _ H ZaW Zcz⟩⟩
theorem ZsJ:LR Z Zr6 (EqPP false):=⟨λp q A B f ⟨h⟩=>⟨f _ h⟩,λO H p q x y Q _ b a k=>by
 obtain ⟨k⟩:=k;exact ⟨_,(Zg0 b).mono ∅,(Zg0 a).mono ∅,k _ H ZaW Zcz⟩⟩
inductive S_lmix:ZF
 |mk {Q:PK'} {c j:Int} (j9:j.natAbs<=1000) (q:∀m:Int,Q (.int m)):S_lmix [.int c,.int j] Q
theorem z_lmix{k:Nat}{ps:List Str}(h:Has P w K mg base "_law_mixed" k ps Zey):Fn P w K mg base Z "_law_mixed" k S_lmix :=
 ZeN h.toX (λps A B f ⟨a,q⟩=>⟨a,λm=>f _<|q m⟩) λO H pv e Q E L r s=>by
  obtain ⟨c,q⟩:=s;obtain ⟨u,v,rfl,d,b⟩:=r.two;rw[Zax d,Zax b];exact ⟨_,_,rfl,c,λm=>q m _ H ZaW Zb6⟩
inductive S_ldr:ZF
 |mk {Q:PK'} {κ:KX} {c:Int} (q:∀x:κ.F,QN κ 12 108 x->Q (num κ x)):S_ldr [.int κ.P,.int c] Q
theorem z_ldr{k:Nat}{ps:List Str}(h:Has P w K mg base "_law_drawn" k ps ZdV):Fn P w K mg base Z "_law_drawn" k S_ldr :=
 ZeN h.toX (λps A B f ⟨q⟩=>⟨λx h=>f _<|q x h⟩) λO H pv e Q E L r s=>by
  obtain ⟨q⟩:=s;obtain ⟨u,v,rfl,b,a⟩:=r.two;rw[Zax b,Zax a];exact ⟨_,_,rfl,λc v x S n d=>q x d v c S<|ZcE (L.same S) n⟩
inductive S_lpt:ZF
 |mk {Q:PK'} {κ:KX} {c d e e':Nat} {s t:Sr κ} (hs:PS κ c e s) (ht:PS κ d e' t) (c5:c+d<=50) (e4:e<=40) (e4':e'<=40) (q:Q (pv κ (s*t))):S_lpt [.int κ.P,pv κ s,pv κ t] Q
theorem z_lpt{k:Nat}{ps:List Str}(h:Has P w K mg base "_law_poly_times" k ps Zcj):Fn P w K mg base Z "_law_poly_times" k S_lpt :=
 ZeN h.toX (λps A B f ⟨a1,W,N,I,a5,q⟩=>⟨a1,W,N,I,a5,f _ q⟩) λO H pv vs Q E L r s=>by
  obtain ⟨hs,J,z,e4,a0,q⟩:=s
  rename_i κ c d e e' s t
  obtain ⟨u,v,x,rfl,ru,rv,rx⟩:=r.three;rw[Zax ru];obtain ⟨fa,T,rfl,a,ra⟩:=rep_lst rv;obtain ⟨U,F,rfl,g,rb⟩:=rep_lst rx;obtain ⟨j,Y⟩:=hs.pl;obtain ⟨y,e2⟩:=J.pl;have l1:=j.l;have l2:=y.l;have w1:12^c<=10^200:=(Zkh ⋯).1;have w2:12^d<=10^200:=(Zkh ⋯).1;have w3:12^c*12^d<=10^200:=by rw[<-Wf];exact (Zkh z).1
  have w4:10^(10*c)<=10^500:=(Zkh ⋯).2;have w5:10^(10*d)<=10^500:=(Zkh ⋯).2;have w6:10^(10*c)*10^(10*d)<=10^500:=by rw[<-Wf,<-Ud];exact (Zkh z).2
  have b2:(10:Nat)^200<2^3000:=Q5 (show 10^200<2^1000 by decide)<|W5 ∅ ∅;have b5:81*(81*(10:Nat)^500)<2^3000:=Q5 (show 81*(81*10^500)<2^2000 by decide)<|W5 ∅ ∅;have b6:(10:Nat)^500<2^3000:=Q5 (show 10^500<2^2000 by decide)<|W5 ∅ ∅;refine ⟨κ,fa,U,T,F,pl s,pl t,_,_,_,_,rfl,Zao _ _ a,Zao _ _ g,Zcr ra,Zcr rb,⋯,⋯,j.q,y.q,Znn,Znn,⟨by rw[Qk];omega,by rw[Qk];omega,⋯,⋯,by rw[Qs,Qk,Qk];omega⟩,Qq (Wx (show (pl s).length<=81 by omega)<|Wx (show (pl t).length<=81 by omega) w6) b5,λo R D r S hR l lr C r1 nR=>q _ o S ?_⟩;have m:pl (s*t)=(ZeQ (pl s) (pl t) (pl s).length 0).take r:=ZhE (ZeY (by rw[Zca];exact lr) r1) (by rw[Zmp C,Znx,Y,e2]);have b:hide O o R=some (.lst D):=by rw[hide_out<|L.new nR];exact hR
  refine rep_l b<|.of (by rw[Q0,m];exact l.1) λi p u G M=>?_;obtain ⟨x,n,rfl⟩:=Zof G;rw[m] at n;exact ZcE (L.same S)<|l.2 i u x M n
inductive S_lcut:ZF
 |mk {Q:PK'} {κ:KX} {f:ZZlk κ} (q:Q (pv κ (sr f))):S_lcut [.int κ.P,Zex κ f] Q
theorem z_lcut(h:Here K mg "_law_cut" Zgt) (T:Nm mg) (a:Fn P w K mg base Z "_law_make" 1 S_lmake):Fn P w K mg base Z "_law_cut" 2 S_lcut:=by
 have o:=sc_l_cut.nd;refine Za2 h (λ_ _ F=>F.b2 λ_ _ _ _ _ _ _ _=>rfl) sc_l_cut (λr A B f ⟨q⟩=>⟨f _ q⟩) (λ_ _ ⟨_⟩=>rfl) (λ_ _ _ _ _ _ _ n =>
  (Zaf (ZgM [] (QW.t<|Zpj (Zfv ZfI lb (ZaT T.len<|qv 1) ZaA)<|ZlK<|Zfv (ZnV n) ZtU (Zcg (qv 1)<|ZcA ZbQ li (ZaT T.len<|qv 1) ZaA)<|Zak a<|qa2 (qv 0) ZaA)<|Zai<|ZaC 1 o<|QL.toE<|Zhw (qv 1) ZgJ<|Zft<|Zm9 ZaA)
  (Zai<|Zau<|qv 1))) ∅ ?_
 rintro _ Q ⟨q⟩
 rename_i c f
 refine ⟨λm l=>∃g:ZZlk c,m=g.length/\sr g=sr f/\l=[some<|.val<|.int c.P,some<|.val<|Zex c g],f.length,⟨f,rfl,rfl,rfl⟩,?_⟩;rintro m _ ⟨g,rfl,i,rfl⟩;have p:=Zcq g;have d:Trm g->Q (Zex c g):=λt=>by
  have:=q;rw[pv,ZhE t i] at this;exact this
 refine br (λz=>?_) λz=>d<|.inl (show g.length=0 by have z:¬(0:Int)<((g.map<|num c).length:Int):=z;omega);have z:(0:Int)<((g.map<|num c).length:Int):=z;refine ⟨num c<|g.getD (g.length-1) 0,by rw[show ((g.map<|num c).length:Int)-1=((g.length-1:Nat):Int) by omega];exact ZfA (show g.length-1<g.length by omega),⟨0,Zfr,EqNP.mk λb k=>?_⟩⟩
 cases b with
 |true =>
  refine ⟨g.length-1,⋯,g.take<|g.length-1,by rw[Qi];omega,?_,?_⟩
  ·rw[Zmp λj s=>?_,i]
   by_cases e:j=g.length-1
   ·rw[e];exact k.mp rfl
   ·exact ZaJ ⋯
  ·show [_,some<|Sl.val<|.lst<|ZcH (g.map<|num c) none<|some<|-1]=_;rw[ZpP]
 |false=>exact d (.inr λe=>by cases k.mpr e)
inductive S_lpo:ZF
 |mk {Q:PK'} {κ:KX} {c:Int} {most:Nat} (m3:most<=3) (q:∀s,PS κ 1 1 s->Q (pv κ s)):S_lpo [.int κ.P,.int c,.int (most:Int)] Q
theorem sc_l_poly:FnScope ["_law_prime_here","_law_cell","_law_most","_law_many"] ["_law_prime_here","_law_cell","_law_most"] (Zab Zgu):=‹2›
theorem z_lpo(h:Here K mg "_law_poly" Zgu) (T:Nm mg) (b:Fn P w K mg base Z "_law_mixed" 3 S_lmix) (e:Fn P w K mg base Z "_law_drawn" 3 S_ldr) (g:Fn P w K mg base Z "_law_cut" 3 S_lcut):Fn P w K mg base Z "_law_poly" 4 S_lpo:=by
 have C:=sc_l_poly.nd;refine Za2 h (λ_ _ F=>F.b3 λ_ _ _ _ _ _ _ _ _=>rfl) sc_l_poly (λJ A B f ⟨a,q⟩=>⟨a,λs h=>f _<|q s h⟩) (λ_ _ ⟨_,_⟩=>rfl) (λ_ _ _ _ _ _ _ L =>
  (Zaf (ZaC 3 C<|ZcA Zbb lc (Zak b<|qa2 (qv 1) ZaA)<|ZcA ZaO li (qv 2) ZaA)
  (Zai<|Zau<|Zak g<|qa2 (qv 0)<|QL.toE<|Zrc "_law_k" [(0,"_law_prime_here"),(1,"_law_cell")] (Zb9 T.range<|qv 3) (by exact λ_ _ _ _=>(Zak e<|qa2 (qv 1)<|Zak b<|qa2 (qv 2)<|qv 0))))) ∅ ?_
 rintro _ Q ⟨I,q⟩
 rename_i l c d
 refine S_lmix.mk ∅ λm=>⟨by show (0:Int)<(d:Int)+1;omega,?_⟩;have H:=Wg m (show (d:Int)+1≠0 by omega);have E:=Ws m (show (0:Int)<(d:Int)+1 by omega);show m%((d:Int)+1)<_/\_<=_/\_;generalize m%((d:Int)+1)=t at *;refine ⟨⋯,⋯,?_⟩;refine ⟨λi r=>∃f:ZZlk l,r=f.map (num l)/\∀x∈f,QN l 12 108 x,by rw[ZaE];omega,⟨[],rfl,λ_ z=>nomatch z⟩,?_,?_⟩
 ·rintro i p _ n-⟨f,rfl,j⟩;obtain ⟨G,rfl⟩:=ZaN n;refine S_lmix.mk ⋯ λm=>S_ldr.mk λx v=>⟨f++[x],by rw[Qw];rfl,λy u=>?_⟩;rcases W6.mp u with h|h
  ·exact j y h
  ·rw[Qh.mp h];exact v
 ·rintro _ o ⟨f,rfl,j⟩;rw[ZaE,Q0] at o;refine S_lcut.mk<|q _ ⟨λk=>?_,λk D=>?_⟩
  ·rw[Zfz];exact (Zoe j k).mono ∅
  ·rw[Zfz];exact ZaJ ⋯
inductive S_lip:ZF
 |mk {Q:PK'} {κ:KX} {c e:Nat} {s:Sr κ} (h:PS κ c e s) (q:Q (.bl true)):S_lip [.int κ.P,pv κ s] Q
theorem z_lip{k:Nat}{ps:List Str}(h:Has P w K mg base "_law_is_poly" k ps Zdr):Fn P w K mg base Z "_law_is_poly" k S_lip :=
 ZeN h.toX (λps A B f ⟨a,q⟩=>⟨a,f _ q⟩) λO H pv l Q E L r s=>by
  obtain ⟨g,q⟩:=s;obtain ⟨u,v,rfl,d,b⟩:=r.two;rw[Zax d];obtain ⟨a,j,rfl,c,i⟩:=rep_lst b;exact ⟨_,a,j,_,rfl,⟨Zao _ _ c,Zcr i⟩,g.pl.1.t,λe S=>q _ e S Zcz⟩
inductive S_lpp:ZF
 |mk {Q:PK'} {κ:KX} {c e:Nat} {s t:Sr κ} (hs:PS κ c e s) (ht:PS κ c e t) (c5:c<=50) (e4:e<=40) (q:Q (pv κ (s+t))):S_lpp [.int κ.P,pv κ s,pv κ t] Q
theorem sc_l_poly_plus:FnScope ["_law_prime_here","_law_f","_law_g","_law_told","_law_k"] ["_law_prime_here","_law_f","_law_g"] (Zab ZcS):=‹2›
theorem z_lpp(h:Here K mg "_law_poly_plus" ZcS) (T:Nm mg) (m:mg "max"=none) (b:Fn P w K mg base Z "_law_plus" 3 (S_lop λ_ x y=>x+y)) (d:Fn P w K mg base Z "_law_cut" 3 S_lcut):Fn P w K mg base Z "_law_poly_plus" 4 S_lpp:=by
 have u:=sc_l_poly_plus.nd;refine Za2 h (λ_ _ F=>F.b3 λ_ _ _ _ _ _ _ _ _=>rfl) sc_l_poly_plus (λps A B f ⟨v,L,J,C,q⟩=>⟨v,L,J,C,f _ q⟩) (λ_ _ ⟨_,_,_,_,_⟩=>rfl) (λ_ _ _ _ _ _ _ hr =>
  (Zaf (Zch 3 u<|Zb8 ZbB)
  (Zaf (ZbC [4] (Zb9 T.range<|ZlP m (ZaT T.len<|qv 1)<|ZaT T.len<|qv 2) (Zg6 4 u)<|Zai<|Zci (Zfv Zmx lb (qv 4)<|ZaT T.len<|qv 1) (Zai<|Zc3 3<|Zcg (qv 2)<|qv 4)<|Zai<|Zci (Zfv Zmx lb (qv 4)<|ZaT T.len<|qv 2) (Zai<|Zc3 3<|Zcg (qv 1)<|qv 4)<|Zai<|Zc3 3<|Zak b<|qa3 (qv 0) (Zcg (qv 1)<|qv 4)<|Zcg (qv 2)<|qv 4)
  (Zai<|ZbZ 3<|Zau<|Zak d<|qa2 (qv 0)<|qv 3)))) ∅ ?_
 rintro _ Q ⟨S,H,o,e4,q⟩
 rename_i a c e s t
 obtain ⟨p,N⟩:=S.pl;obtain ⟨r,U⟩:=H.pl;have W:=p.l;have l2:=r.l;have Y:=Zcq<|pl s;have m2:=Zcq<|pl t;have M:=p.b1 o;have R:=r.b1 o;have I:(if (((pl t).map<|num a).length:Int)>(((pl s).map<|num a).length:Int) then (((pl t).map<|num a).length:Int) else (((pl s).map<|num a).length:Int))=((max (pl s).length (pl t).length:Nat):Int):=by split <;> omega
 refine ⟨by show 0<=1000;decide,?_⟩;show (if (((pl t).map<|num a).length:Int)>(((pl s).map<|num a).length:Int) then (((pl t).map<|num a).length:Int) else (((pl s).map<|num a).length:Int))<_/\_;rw[I];refine ⟨⋯,⋯,?_⟩;rw[Qa];refine ⟨λk O=>k<=max (pl s).length (pl t).length/\O=[some<|.val<|.int a.P,some<|.val<|pv a s,some<|.val<|pv a t,some<|.own<|((List.range k).map λi=>(pl s).getD i 0+(pl t).getD i 0).map<|num a,none],⟨Q6 _,rfl⟩,?_,?_⟩
 ·rintro k _ _ D ⟨_,rfl⟩;obtain ⟨G,rfl⟩:=ZaN D;rw[Qo];have n:(((List.range k).map λi=>(pl s).getD i 0+(pl t).getD i 0).map<|num a).length<1000:=by rw[Q0,Zap];omega
  have g:∀x:a.F,x=(pl s).getD k 0+(pl t).getD k 0->k+1<=max (pl s).length (pl t).length/\[some<|Sl.val<|.int a.P,some<|.val<|pv a s,some<|.val<|pv a t,some<|.own<|(((List.range k).map λi=>(pl s).getD i 0+(pl t).getD i 0).map<|num a)++[num a x],none]=[some<|.val<|.int a.P,some<|.val<|pv a s,some<|.val<|pv a t,some<|.own<|((List.range<|k+1).map λi=>(pl s).getD i 0+(pl t).getD i 0).map<|num a,none]:=λx E=>⟨G,by rw[Wz,Qw,Qw,E];rfl⟩;have l:∀x:a.F,x=x+0/\x=0+x:=λx=>⟨by grind,by grind⟩;refine br (λz=>?_) λz=>?_
  ·have z:(((pl s).map<|num a).length:Int)<=(k:Int):=z;refine ⟨_,ZfA ⋯,n,g _ ?_⟩;rw[ZaJ (show (pl s).length<=k by omega)];exact (l _).2
  ·have z:¬(((pl s).map<|num a).length:Int)<=(k:Int):=z;refine br (λj=>?_) λj=>?_
   ·have j:(((pl t).map<|num a).length:Int)<=(k:Int):=j;refine ⟨_,ZfA ⋯,n,g _ ?_⟩;rw[ZaJ (show (pl t).length<=k by omega)];exact (l _).1
   ·have j:¬(((pl t).map<|num a).length:Int)<=(k:Int):=j;exact ⟨_,ZfA ⋯,_,ZfA ⋯,S_lop.mk (M _<|Qp<|ZdU (show k<(pl s).length by omega)) (R _<|Qp<|ZdU (show k<(pl t).length by omega)) ⟨n,g _ rfl⟩⟩
 ·rintro _ ⟨_,rfl⟩;rw[ZaE];refine S_lcut.mk (f:=ZpZ (pl s)<|pl t) ?_;rw[Zny,N,U];exact q
inductive zIB:List PV->PK'->Prop
 |mk {Q:PK'} {b:Bool} (q:Q (.int (if b then 1 else 0))):zIB [.bl b] Q
theorem Zom:LC Z (λxs H Q=>(∃i,xs=[.int i]/\Q (.int i) H)\/∃k,xs=[.bl k]/\Q (.int (if k then 1 else 0)) H) zIB :=
 ⟨λp A B f ⟨q⟩=>⟨f _ q⟩,λO H p x Q _ r k=>by
  obtain ⟨q⟩:=k;obtain ⟨u,rfl,a⟩:=r.one;unfold Rep at a;exact .inr ⟨_,by rw[a],q _ H ZaW Zb6⟩⟩
theorem Zmq{p b:Pos}{e:Expr}{c:ZE}(m:X.mg "int"=none) (j:QE Z X e c) (i:Gl X "int":= by rfl) (d:starEach [e] X.env=[(false,eval e X.env)]:=by rfl):QE Z X (.Call (.Name "int" p) [e] [] b) (Zit zIB<|Zdn c Zm4) :=
 have a:=Zbt j ZbB d
 ⟨λn _ _ f q=>a.mo n _ _ (λ_ k=>(Zom (Z:=Z)).1 _ _ _ f k) q,λl g=>Zbf (Zd1 Zha i m boot_int (a.ok l g) ∅ ∅ d rfl) λ_ _ _ h=>one Zom a.mo h⟩
theorem ZjC{κ:KX}{x:κ.F}(h:x≠0):pv κ (Rg.Ps.con x) = .lst [num κ x]:=by
 rw[pv,ZhE (T:=[x]) (.inr h) (Rg.Ps.ext λk=>by rw[Zfz];cases k <;> rfl)];rfl
theorem ZiN{κ:KX}:pv κ (0:Sr κ) = .lst []:=by
 rw[pv,ZhE (T:=[]) (.inl rfl) (Rg.Ps.ext λk=>by rw[Zfz,Rg.Ps.c_zero];rfl)];rfl
theorem ZjD{k:Nat}:(List.range<|k+1).drop 1=(List.range k).map (· + 1):=by rw[List.range_succ_eq_map];rfl
theorem Zrw{a:List Stmt}:QSs Z X a (λ_ _=>False):=⟨λ_ _ _ _ q=>q,λ_ _ _ _ _ _ _ _ ⟨_,_,_,q⟩=>q.elim⟩
inductive S_ldet (N:Nat):ZF
 |mk {Q:PK'} {κ:KX} {e n:Nat} {a:Nat->Nat->Sr κ} (hn:n<=N) (ha:∀i j,i<n->j<n->PS κ 1 e (a i j)) (e4:5*e<=40) (q:Q (pv κ (Rg.det n a))):S_ldet N [.int κ.P,ptb κ n n a] Q
theorem sc_l_det:FnScope ["_law_prime_here","_law_rows","_law_told","_law_j","_law_part"] ["_law_prime_here","_law_rows"] (Zab Zid):=‹2›
theorem z_ldet(h:Here K mg "_law_det" Zid) (T:Nm mg) (l:Fn P w K mg base Z "_law_make" 5 S_lmake) (b:Fn P w K mg base Z "_law_poly_times" 5 S_lpt) (d:Fn P w K mg base Z "_law_poly_plus" 5 S_lpp):∀n,n<=4->Fn P w K mg base Z "_law_det" (6+n) (S_ldet n)
 |0,_=>by
  have o:=sc_l_det.nd;refine Za2 h (λ_ _ F=>F.b2 λ_ _ _ _ _ _ _ _=>rfl) sc_l_det (λps A B f ⟨G,I,E,q⟩=>⟨G,I,E,f _ q⟩) (λ_ _ ⟨_,_,_,_⟩=>rfl) (λ_ _ _ _ _ _ _ hr =>
   (Zaf (ZaC 2 o<|QL.toE<|Zb8<|qa1<|Zak l<|qa2 (qv 0) ZaA)
   (Zaf (Zci (Zfv ZfI lb (ZaT T.len<|qv 1) ZaA) Zrw Zbo)
   (Zai<|Zau<|qv 2)))) ∅ ?_
  rintro _ Q ⟨hn,v,H,q⟩
  rename_i κ e n a
  have:n=0:=⋯;subst this;refine ⟨1,Zcy,by show 1<=1000;decide,?_⟩;rw[show Rg.det 0 a=Rg.Ps.con (1:κ.F) from rfl,ZjC λz=>Fd.zne z.symm] at q;exact q
 |N+1,hk=>by
  have o:=sc_l_det.nd;have m:=z_ldet h T l b d N ⋯;have S:=l.mono (show 5<=6+N by omega);have p:=b.mono (show 5<=6+N by omega);have y:=d.mono (show 5<=6+N by omega);refine Za2 (k:=6+N) h (λ_ _ F=>F.b2 λ_ _ _ _ _ _ _ _=>rfl) sc_l_det (λps A B f ⟨G,I,E,q⟩=>⟨G,I,E,f _ q⟩) (λ_ _ ⟨_,_,_,_⟩=>rfl) (λ_ _ _ _ _ _ _ hr =>
   (Zaf (ZaC 2 o<|QL.toE<|Zb8<|qa1<|Zak S<|qa2 (qv 0) ZaA)
   (Zaf (Zci (Zfv ZfI lb (ZaT T.len<|qv 1) ZaA) (Zaf (ZaC 2 o<|QL.toE<|Zb8 ZbB)
    (Zai<|ZbC [3,4] (Zb9 T.range<|ZaT T.len<|qv 1) (Zg6 3 o)<|Zaf (ZaC 4 o<|Zak m<|qa2 (qv 0)<|QL.toE<|Zei "_law_row" [(3,"_law_j")] (Zec<|QL.toE<|Zhw (qv 1) (Zft ZaA) ZgJ) (by exact λ_ _ _ _=>(QL.toE<|Zm7 (QL.toE<|Zhw (qv 0) ZgJ<|Zft<|qv 1)<|QL.toE<|Zhw (qv 0) (Zft<|ZcA ZaO li (qv 1) ZaA) ZgJ)))
     (Zaf (ZaC 4 o<|Zak p<|qa3 (qv 0) (Zcg (Zcg (qv 1) ZaA)<|qv 3)<|qv 4)
     (Zaf (ZaC 4 o<|Zak p<|qa3 (qv 0) (QL.toE<|Zb8<|qa1<|Zak S<|qa2 (qv 0)<|ZcA ZbQ li ZaA<|ZcA ZaH lc ZaA<|ZcA Zbb lc (qv 3) ZaA)<|qv 4)
     (Zai<|ZaC 2 o<|Zak y<|qa3 (qv 0) (qv 2)<|qv 4))))) Zbo)
   (Zai<|Zau<|qv 2)))) ∅ ?_
  rintro _ Q ⟨hn,v,H,q⟩
  rename_i κ e n a
  cases n with
  |zero =>
   refine ⟨1,Zcy,by show 1<=1000;decide,?_⟩;rw[show Rg.det 0 a=Rg.Ps.con (1:κ.F) from rfl,ZjC λz=>Fd.zne z.symm] at q;exact q
  |succ k=>?_
  have ke:k*e<=4*e:=Ql _ ⋯;have gk:gz 1 k<=20:=by rcases (show k=0\/k=1\/k=2\/k=3 by omega) with rfl|rfl|rfl|rfl <;> decide
  refine ⟨1,Zcy,by show 1<=1000;decide,?_⟩;have O:(prs κ (k+1) (k+1) a).length=k+1:=Zap;refine br (λ_=>?_) λz=>absurd (show (0:Int)<((prs κ (k+1) (k+1) a).length:Int) by rw[O];omega) z;refine ⟨by show 0<=1000;decide,?_⟩;show ((prs κ (k+1) (k+1) a).length:Int)<_/\_;rw[O];refine ⟨⋯,⋯,?_⟩;rw[Qa];have J:∀j,j<k+1->PS κ (gz 1 k) (k*e) (Rg.det k λi t=>a (i+1)<|Rg.skip j t):=λj r=>ZeL ∅ H k ⋯ λi t D p=>v _ _ ⋯<|Rg.skB p;refine ⟨λj ρ=>j<=k+1/\ρ=[some<|.val<|.int κ.P,some<|.val<|ptb κ (k+1) (k+1) a,some<|.val<|pv κ<|Rg.Sg (λj=>Rg.sgn (Sr κ) j*(a 0 j*Rg.det k λi t=>a (i+1)<|Rg.skip j t)) j,none,none],⟨Q6 _,by
   show [_,_,some<|Sl.val<|.lst [],_,_]=[_,_,some<|Sl.val<|pv κ 0,_,_];rw[ZiN]⟩,?_,?_⟩
  ·rintro j _ _ y ⟨_,rfl⟩;obtain ⟨r,rfl⟩:=ZaN y;rw[Qo];show Comp (ZcH (prs κ (k+1) (k+1) a) (some ((1:Nat):Int)) none) _ _;rw[Zcl (f:=λi=>PV.lst<|prow κ (k+1)<|a i) (List.range<|k+1) 1,ZjD,U7];refine Zbu (f:=λi => .lst<|prow κ (k+1)<|a<|i+1) (g:=λi => .lst<|prow κ k λt=>a (i+1)<|Rg.skip j t) ⋯ (λi D C kk=>?_) ?_
   ·have e1:=ZbT (f:=λt=>pv κ<|a (i+1) t) (List.range<|k+1) j;have e2:=Zcl (f:=λt=>pv κ<|a (i+1) t) (List.range<|k+1)<|j+1;show (ZcH (prow κ (k+1)<|a<|i+1) none<|some (j:Int)).length+(ZcH (prow κ (k+1)<|a<|i+1) (some<|(j:Int)+1) none).length<=1000/\C (.lst<|ZcH (prow κ (k+1)<|a<|i+1) none (some (j:Int))++ZcH (prow κ (k+1)<|a<|i+1) (some<|(j:Int)+1) none);rw[show (j:Int)+1=((j+1:Nat):Int) by omega,e1,e2,<-Qw,Zf6 ⋯,U7,Q0,Q0,Qi,Qv,Q9];exact ⟨⋯,kk⟩
   refine S_ldet.mk (e:=e) (n:=k) ⋯ (a:=λi t=>a (i+1)<|Rg.skip j t) (λi t D p=>v _ _ ⋯<|Rg.skB p) H ?_;have M:=v 0 j ⋯ r;have R:=M.mul (J j r) ⋯ ⋯;refine ⟨_,Zaq (j:=0)<|ZaZ ⋯,_,Zaq<|ZaZ r,S_lpt.mk (c:=1) (e:=e) M (J j r) ⋯ ⋯ ⋯ ?_⟩;refine ⟨by show (0:Int)<2;decide,ZpW ∅ (by show ((j:Int)%2).natAbs<=_;omega),?_⟩;have U:NumV κ (1-2*((j:Int)%2)) (sgK κ j):=by
    have:=ZdW (κ:=κ) j;rw[show (if j%2=0 then 1 else -1:Int)=1-2*((j:Int)%2) by split <;> omega] at this;exact this
   have sn:sgK κ j≠0:=λz=>by
    have e:=ZeA (κ:=κ) j;rw[z,Zog] at e;have W:=Rg.sgn_sq (α:=Sr κ) j;rw[<-e] at W;have:(0:Sr κ)=1:=by rw[<-W];grind
    have x:=congrArg (λs:Sr κ=>s.c 0) this;have x:(0:κ.F)=1:=x;exact Fd.zne x
   have L:PS κ 0 0 (Rg.Ps.con<|sgK κ j):=PS.con U ⋯;refine ⟨sgK κ j,U,by show 1<=1000;decide,?_⟩;show S_lpt [.int κ.P,.lst [num κ<|sgK κ j],pv κ<|a 0 j*Rg.det k λi t=>a (i+1)<|Rg.skip j t] _;rw[<-ZjC sn];refine S_lpt.mk L R ⋯ ⋯ ⋯ ?_;have Y:=L.mul R ⋯ ⋯;refine S_lpp.mk (c:=0+(1+gz 1 k+1)+1+j) (e:=0+(e+k*e)) (PS.sum j λi D=>?_) (Y.up ⋯<|Q2 _) ⋯ ⋯ ⟨r,?_⟩
   ·rw[<-ZeA];refine PS.up (PS.mul (c:=0) (e:=0) ?_ ((v 0 i ⋯ ⋯).mul (J i ⋯) ⋯ ⋯) ⋯ ⋯) ⋯<|Q2 _;exact PS.con (ZdW i) (by split <;> decide)
   ·rw[ZeA];rfl
  ·rintro _ ⟨_,rfl⟩;rw[ZaE];have ed:Rg.Sg (λj=>Rg.sgn (Sr κ) j*(a 0 j*Rg.det k λi t=>a (i+1)<|Rg.skip j t)) (k+1)=Rg.det (k+1) a:=Rg.Sg_congr λj _=>by
    generalize (Rg.det k λi t=>a (i+1)<|Rg.skip j t)=u;grind
   show Q (pv κ _);rw[ed];exact q
theorem Zeg{κ:KX}{p m:Nat}{a:Nat->Nat->Sr κ}:prs κ (p+1) m a=prs κ p m a++[.lst<|prow κ m<|a p]:=by
 show (List.range<|p+1).map _=_;rw[Wz,Qw];rfl
inductive S_lsum:ZF
 |mk {Q:PK'} {κ:KX} {c e n:Nat} {a b:Nat->Nat->Sr κ} (n4:n<=4) (ha:∀i j,i<n->j<n->PS κ c e (a i j)) (hb:∀i j,i<n->j<n->PS κ c e (b i j)) (c5:c<=50) (e4:e<=40) (q:Q (ptb κ n n λi j=>a i j+b i j)):S_lsum [.int κ.P,ptb κ n n a,ptb κ n n b] Q
theorem sc_l_sum:FnScope ["_law_prime_here","_law_one","_law_other","_law_told","_law_i"] ["_law_prime_here","_law_one","_law_other"] (Zab Zie):=‹2›
theorem z_lsum(h:Here K mg "_law_sum" Zie) (T:Nm mg) (d:Fn P w K mg base Z "_law_poly_plus" 5 S_lpp):Fn P w K mg base Z "_law_sum" 6 S_lsum:=by
 have r:=sc_l_sum.nd;refine Za2 h (λ_ _ F=>F.b3 λ_ _ _ _ _ _ _ _ _=>rfl) sc_l_sum (λJ A B f ⟨t,E,z,u,y,q⟩=>⟨t,E,z,u,y,f _ q⟩) (λ_ _ ⟨_,_,_,_,_,_⟩=>rfl) (λ_ _ _ _ _ _ _ L =>
  (Zaf (Zch 3 r<|Zb8 ZbB)
  (Zaf (ZbC [4] (Zb9 T.range<|ZaT T.len<|qv 1) (Zg6 4 r)<|Zai<|Zc3 3<|QL.toE<|Zei "_law_j" [(0,"_law_prime_here"),(1,"_law_one"),(2,"_law_other"),(4,"_law_i")] (Zb9 T.range<|ZaT T.len<|qv 1) (by exact λ_ _ _ _=>(Zak d<|qa3 (qv 1) (Zcg (Zcg (qv 2)<|qv 4)<|qv 0)<|Zcg (Zcg (qv 3)<|qv 4)<|qv 0)))
  (Zai<|ZbZ 3<|Zau<|qv 3)))) ∅ ?_
 rintro _ Q ⟨I,x,D,s,H,q⟩
 rename_i l c e n a b
 have p:(prs l n n a).length=n:=Zap;refine ⟨by show 0<=1000;decide,?_⟩;show ((prs l n n a).length:Int)<_/\_;rw[p];refine ⟨⋯,⋯,?_⟩;rw[Qa];refine ⟨λi G=>i<=n/\G=[some<|.val<|.int l.P,some<|.val<|ptb l n n a,some<|.val<|ptb l n n b,some<|.own<|prs l i n λi j=>a i j+b i j,none],⟨Q6 _,rfl⟩,?_,?_⟩
 ·rintro i _ _ v ⟨_,rfl⟩;obtain ⟨m,rfl⟩:=ZaN v;rw[Qo];show ((prs l n n a).length:Int)<_/\_;rw[p];refine ⟨⋯,⋯,?_⟩;rw[Qa];refine ZcY (g:=λj=>pv l<|a i j+b i j) ⋯ (λj o C k=>?_) ?_
  ·exact ⟨_,Zaq<|ZaZ m,_,Zaq<|ZaZ o,_,Zaq<|ZaZ m,_,Zaq<|ZaZ o,S_lpp.mk (x i j m o) (D i j m o) s H k⟩
  ·refine ⟨by rw[Zap];omega,m,?_⟩;rw[Zeg]
 ·rintro _ ⟨_,rfl⟩;rw[ZaE];exact q
inductive S_lprod:ZF
 |mk {Q:PK'} {κ:KX} {c d e e' n:Nat} {a b:Nat->Nat->Sr κ} (n4:n<=4) (ha:∀i j,i<n->j<n->PS κ c e (a i j)) (hb:∀i j,i<n->j<n->PS κ d e' (b i j)) (c5:c+d<=40) (e4:e+e'<=40) (q:Q (ptb κ n n λi j=>Rg.Sg (λk=>a i k*b k j) n)):S_lprod [.int κ.P,ptb κ n n a,ptb κ n n b] Q
theorem sc_l_product:FnScope ["_law_prime_here","_law_one","_law_other","_law_told","_law_i","_law_row","_law_j","_law_f","_law_k"] ["_law_prime_here","_law_one","_law_other"] (Zab ZdQ):=‹2›
theorem z_lprod(h:Here K mg "_law_product" ZdQ) (T:Nm mg) (m:Fn P w K mg base Z "_law_poly_plus" 5 S_lpp) (g:Fn P w K mg base Z "_law_poly_times" 5 S_lpt):Fn P w K mg base Z "_law_product" 6 S_lprod:=by
 have s:=sc_l_product.nd;refine Za2 h (λ_ _ F=>F.b3 λ_ _ _ _ _ _ _ _ _=>rfl) sc_l_product (λR A B f ⟨D,J,I,E,G,q⟩=>⟨D,J,I,E,G,f _ q⟩) (λ_ _ ⟨_,_,_,_,_,_⟩=>rfl) (λ_ _ _ _ _ _ _ U =>
  (Zaf (Zch 3 s<|Zb8 ZbB)
  (Zaf (ZbC [4,5,6,7,8] (Zb9 T.range<|ZaT T.len<|qv 1) (Zg6 4 s)<|Zaf (Zch 5 s<|Zb8 ZbB)
   (Zaf (ZbC [6,7,8] (Zb9 T.range<|ZaT T.len<|qv 1) (Zg6 6 s)<|Zaf (ZaC 7 s<|QL.toE<|Zb8 ZbB)
    (Zaf (ZbC [8] (Zb9 T.range<|ZaT T.len<|qv 1) (Zg6 8 s)<|Zai<|ZaC 7 s<|Zak m<|qa3 (qv 0) (qv 7)<|Zak g<|qa3 (qv 0) (Zcg (Zcg (qv 1)<|qv 4)<|qv 8)<|Zcg (Zcg (qv 2)<|qv 8)<|qv 6)
    (Zai<|Zc3 5<|qv 7)))
   (Zai<|ZbZ 5<|Zc3 3<|qv 5)))
  (Zai<|ZbZ 3<|Zau<|qv 3)))) ∅ ?_
 rintro _ Q ⟨N,y,C,L,S,q⟩
 rename_i o c d e O n a b
 have z:(prs o n n a).length=n:=Zap;refine ⟨by show 0<=1000;decide,?_⟩;show ((prs o n n a).length:Int)<_/\_;rw[z];refine ⟨⋯,⋯,?_⟩;rw[Qa];refine ⟨λi x=>i<=n/\x=[some<|.val<|.int o.P,some<|.val<|ptb o n n a,some<|.val<|ptb o n n b,some<|.own<|prs o i n λi j=>Rg.Sg (λk=>a i k*b k j) n,none,none,none,none,none],⟨Q6 _,rfl⟩,?_,?_⟩
 ·rintro i _ _ t ⟨_,rfl⟩;obtain ⟨v,rfl⟩:=ZaN t;rw[Qo];refine ⟨by show 0<=1000;decide,?_⟩;show ((prs o n n a).length:Int)<_/\_;rw[z];refine ⟨⋯,⋯,?_⟩;rw[Qa];refine ⟨λj x=>j<=n/\x=[some<|.val<|.int o.P,some<|.val<|ptb o n n a,some<|.val<|ptb o n n b,some<|.own<|prs o i n λi j=>Rg.Sg (λk=>a i k*b k j) n,some<|.val<|.int (i:Int),some<|.own<|prow o j λj=>Rg.Sg (λk=>a i k*b k j) n,none,none,none],⟨Q6 _,rfl⟩,?_,?_⟩
  ·rintro j _ _ t ⟨_,rfl⟩;obtain ⟨u,rfl⟩:=ZaN t;rw[Qo];refine ⟨by show 0<=1000;decide,?_⟩;show ((prs o n n a).length:Int)<_/\_;rw[z];refine ⟨⋯,⋯,?_⟩;rw[Qa];refine ⟨λk x=>k<=n/\x=[some<|.val<|.int o.P,some<|.val<|ptb o n n a,some<|.val<|ptb o n n b,some<|.own<|prs o i n λi j=>Rg.Sg (λk=>a i k*b k j) n,some<|.val<|.int (i:Int),some<|.own<|prow o j λj=>Rg.Sg (λk=>a i k*b k j) n,some<|.val<|.int (j:Int),some<|.val<|pv o<|Rg.Sg (λk=>a i k*b k j) k,none],⟨Q6 _,by
    show [_,_,_,_,_,_,_,some<|Sl.val<|.lst [],_]=[_,_,_,_,_,_,_,some<|Sl.val<|pv o 0,_];rw[ZiN]⟩,?_,?_⟩
   ·rintro k _ _ t ⟨_,rfl⟩;obtain ⟨r,rfl⟩:=ZaN t;rw[Qo];have H:=(y i k v r).mul (C k j r u) ⋯ ⋯;refine ⟨_,Zaq<|ZaZ v,_,Zaq<|ZaZ r,_,Zaq<|ZaZ r,_,Zaq<|ZaZ u,S_lpt.mk (y i k v r) (C k j r u) ⋯ ⋯ ⋯ ?_⟩;exact S_lpp.mk (PS.sum k λl M=>(y i l v ⋯).mul (C l j ⋯ u) ⋯ ⋯) (H.up ⋯<|Q2 _) ⋯ ⋯ ⟨r,rfl⟩
   ·rintro _ ⟨_,rfl⟩;rw[ZaE];refine ⟨by rw[Zap];omega,u,?_⟩;rw[Zef (p:=j)]
  ·rintro _ ⟨_,rfl⟩;rw[ZaE];refine ⟨by rw[Zap];omega,v,?_⟩;rw[Zeg]
 ·rintro _ ⟨_,rfl⟩;rw[ZaE];exact q
inductive S_lsame:ZF
 |mk {Q:PK'} {κ:KX} {c e n m:Nat} {a:Nat->Nat->Sr κ} (ha:∀i j,i<n->j<m->PS κ c e (a i j)) (q:Q (.bl true)):S_lsame [.int κ.P,ptb κ n m a,ptb κ n m a] Q
theorem sc_l_same:FnScope ["_law_prime_here","_law_found","_law_due","_law_row","_law_f"] ["_law_prime_here","_law_found","_law_due"] (Zab Zgv):=‹2›
theorem z_lsame(h:Here K mg "_law_same" Zgv) (T:Nm mg) (b:Fn P w K mg base Z "_law_is_poly" 5 S_lip):Fn P w K mg base Z "_law_same" 6 S_lsame:=by
 have l:=sc_l_same.nd;refine Za2 h (λ_ _ F=>F.b3 λ_ _ _ _ _ _ _ _ _=>rfl) sc_l_same (λu A B f ⟨o,q⟩=>⟨o,f _ q⟩) (λ_ _ ⟨_,_⟩=>rfl) (λ_ _ _ _ _ _ _ t =>
  (Zaf (Zci (QW.t<|Zm8 (Zc7<|ZgK<|Zrv T.isinstance T.list<|qv 1)<|ZgL<|Zfv Zda lne (ZaT T.len<|qv 1)<|ZaT T.len<|qv 2) (Zai<|Zau ZhQ) Zbo)
  (Zaf (ZbC [3,4] (Zec<|qv 1) (Zg6 3 l)<|Zaf (Zci (Zc7<|ZgK<|Zrv T.isinstance T.list<|qv 3) (Zai<|Zau ZhQ) Zbo)
   (Zai<|ZbC [4] (Zec<|qv 3) (Zg6 4 l)<|Zai<|Zci (Zc7<|ZgK<|Zak b<|qa2 (qv 0)<|qv 4) (Zai<|Zau ZhQ) Zbo))
  (Zai<|Zau<|Zhy (ZnS t) ZsI (qv 1)<|qv 2)))) ∅ ?_
 rintro _ Q ⟨p,q⟩
 rename_i d c e n m a
 refine brn (λz=>absurd rfl z) λ_=>?_;refine ⟨λi k=>k=[some<|.val<|.int d.P,some<|.val<|ptb d n m a,some<|.val<|ptb d n m a,none,none],rfl,?_,?_⟩
 ·rintro i _ _ g rfl;obtain ⟨s,rfl⟩:=rget g;refine ⟨λj k=>k=[some<|.val<|.int d.P,some<|.val<|ptb d n m a,some<|.val<|ptb d n m a,some<|.val<|.lst<|prow d m<|a i,none],rfl,?_,?_⟩
  ·rintro j _ _ g rfl;obtain ⟨r,rfl⟩:=rget g;exact S_lip.mk (p i j s r) rfl
  ·rintro _ rfl
   rfl
 ·rintro _ rfl;exact EqPP.mk q
inductive S_ldiag:ZF
 |mk {Q:PK'} {κ:KX} {c e n:Nat} {s:Sr κ} (n4:n<=4) (hs:PS κ c e s) (e4:e<=40) (q:Q (ptb κ n n λi j=>if i=j then s else 0)):S_ldiag [.int κ.P,.int (n:Int),pv κ s] Q
theorem sc_l_diagonal:FnScope ["_law_prime_here","_law_size","_law_f","_law_told","_law_i"] ["_law_prime_here","_law_size","_law_f"] (Zab Zdl):=‹2›
theorem z_ldiag(h:Here K mg "_law_diagonal" Zdl) (T:Nm mg) (v:mg "int"=none):Fn P w K mg base Z "_law_diagonal" 1 S_ldiag:=by
 have d:=sc_l_diagonal.nd;refine Za2 h (λ_ _ F=>F.b3 λ_ _ _ _ _ _ _ _ _=>rfl) sc_l_diagonal (λE A B f ⟨l,r,p,q⟩=>⟨l,r,p,f _ q⟩) (λ_ _ ⟨_,_,_,_⟩=>rfl) (λ_ _ _ _ _ _ _ H =>
  (Zaf (Zch 3 d<|Zb8 ZbB)
  (Zaf (ZbC [4] (Zb9 T.range<|qv 1) (Zg6 4 d)<|Zai<|Zc3 3<|QL.toE<|Zei "_law_j" [(2,"_law_f"),(4,"_law_i")] (Zb9 T.range<|qv 1) (by exact λ_ _ _ _=>(QL.toE<|Zjm T.list<|QL.toE<|Zhw (qv 1) ZgJ<|Zft<|ZcA ZaH lc (ZaT T.len<|qv 1)<|Zmq v<|Zhy Za6 leq (qv 2)<|qv 0)))
  (Zai<|ZbZ 3<|Zau<|qv 3)))) ∅ ?_
 rintro _ Q ⟨D,u,G,q⟩
 rename_i a c e n s
 have x:=u.pl.1.l;have b:=Zcq<|pl s;refine ⟨by show 0<=1000;decide,⋯,⋯,?_⟩;rw[Qa];refine ⟨λi t=>i<=n/\t=[some<|.val<|.int a.P,some<|.val<|.int n,some<|.val<|pv a s,some<|.own (prs a i n λi j=>if i=j then s else 0),none],⟨Q6 _,rfl⟩,?_,?_⟩
 ·rintro i _ _ m ⟨_,rfl⟩;obtain ⟨o,rfl⟩:=ZaN m;rw[Qo];refine ⟨⋯,⋯,?_⟩;rw[Qa];refine ZcY (g:=λj=>pv a (if i=j then s else 0)) ⋯ (λj y C k=>?_) ?_
  ·refine zIB.mk ⟨ZpW (by rw[Qk,b];omega) (by split <;> decide),?_⟩;show C (.lst<|ZcH ((pl s).map<|num a) none<|some<|(((pl s).map<|num a).length:Int)*(if decide ((i:Int)=(j:Int))=true then 1 else 0))
   by_cases z:i=j
   ·rw[if_pos z] at k;rw[if_pos<|decide_eq_true ⋯,Wo,b,ZbT,List.take_length];exact k
   ·rw[if_neg z,ZiN] at k;rw[if_neg (by rw[decide_eq_false ⋯];decide),Int.mul_zero,show (0:Int)=((0:Nat):Int) from rfl,ZbT,List.take_zero];exact k
  ·refine ⟨by rw[Zap];omega,o,?_⟩;rw[Zeg]
 ·rintro _ ⟨_,rfl⟩;rw[ZaE];exact q
section
variable{x:Str}{pos p p2:Pos}{a b c e:Expr}{rest:List Expr}{ta tb tc te:ZE}
abbrev ZsK(ta tb:ZE):ZE:=λd Q=>zTs ta d λc=>Br c (tb d Q)<|Q<|.bl false
abbrev ZtY(ta tb:ZE):ZE:=λd Q=>zTs ta d λc=>Br c (Q<|.bl true)<|tb d Q
abbrev ZsL(ta:ZE):ZE:=λd Q=>zTs ta d λc=>Q<|.bl<|!c
theorem Znz{op}(h:QE Z X a ta):QE Z X (.BoolOp op [a] pos) ta:=⟨h.mo,λd f=>ZdX<|h.ok d f⟩
theorem Zmr(h:QE Z X a ta)(i:QE Z X (.BoolOp .And (b::rest) pos) tb):QE Z X (.BoolOp .And (a::b::rest) pos) (ZsK ta tb) :=
 ⟨λd _ _ f q=>Zhx h.mo d _ _ (λ_ k=>k.mo (i.mo d _ _ f)<|f _) q,λl j=>Zbf (ZeD (h.ok l j)<|i.ok l j) λr H Q ⟨O,d,s,q⟩=>⟨O,d,s,h.mo d _ _ (λp k v o g n=>by
  obtain ⟨c,rfl,k⟩:=Zew k;refine ⟨c,Zc2 n,?_⟩
  cases c with
  |true=>rw[if_pos rfl];exact ⟨O,d,s.same g,i.mo d _ _ (λb k v m S2=>k v m<|Zat g S2) k⟩
  |false=>rw[if_neg ∅];exact k _ o g Zcz) q⟩⟩
theorem ZsM(h:QE Z X a ta)(i:QE Z X (.BoolOp .Or (b::rest) pos) tb):QE Z X (.BoolOp .Or (a::b::rest) pos) (ZtY ta tb) :=
 ⟨λd _ _ f q=>Zhx h.mo d _ _ (λ_ k=>k.mo (f _)<|i.mo d _ _ f) q,λl j=>Zbf (Zp6 (h.ok l j)<|i.ok l j) λr H Q ⟨O,d,s,q⟩=>⟨O,d,s,h.mo d _ _ (λp k v o g n=>by
  obtain ⟨c,rfl,k⟩:=Zew k;refine ⟨c,Zc2 n,?_⟩
  cases c with
  |true=>rw[if_pos rfl];exact k _ o g Zcz
  |false=>rw[if_neg ∅];exact ⟨O,d,s.same g,i.mo d _ _ (λb k v m S2=>k v m<|Zat g S2) k⟩) q⟩⟩
theorem Zrx(g:QE Z X a ta):QE Z X (.UnaryOp .Not a pos) (ZsL ta) :=
 ⟨λd _ _ f q=>Zhx g.mo d _ _ (λ_ k=>f _ k) q,λm j=>Zbf (Zkt<|g.ok m j) λn H Q ⟨O,d,s,q⟩=>⟨O,d,s,g.mo d _ _ (λp k v l h i=>by
  obtain ⟨c,rfl,k⟩:=Zew k;exact ⟨c,Zc2 i,k _ l h Zcz⟩) q⟩⟩
inductive All (p:PV) (Q:PK'):Prop
 |mk (bs:List Bool) (hp:p = .lst (bs.map .bl)) (q:Q (.bl (bs.all id))):All p Q
theorem All.mo{p:PV}{A B:PK'}(f:∀p,A p->B p)(h:All p A):All p B:=let ⟨bs,e,q⟩:=h;⟨bs,e,f _ q⟩
abbrev ZtZ(te:ZE):ZE:=λd Q=>te d λp=>All p Q
theorem ZnA(y:X.mg "all"=none) (h:QE Z X e te) (n:Gl X "all":= by rfl) (F:X.calm=true:=by rfl) (j:starEach [e] X.env=[(false,eval e X.env)]:=by rfl):QE Z X (.Call (.Name "all" p) [e] [] pos) (ZtZ te) :=
 ⟨λd _ _ f q=>h.mo d _ _ (λ_ k=>k.mo f) q,λE B=>Zbf (Zan (ZmQ F) n y PyProof.Rows.Boot.all (Zaa (h.ok E B) Zae j) ∅ ∅ j rfl) λI H Q ⟨O,d,s,q⟩=>⟨O,d,s,h.mo d _ _ (λp k v D o A=>by
  obtain ⟨g,rfl,k⟩:=k;obtain ⟨a,G,rfl,t,r⟩:=rep_lst A;have m:G=g.map V.bl:=by
   refine Uj λi=>?_;have l:=r.len;rw[Q0] at l
   by_cases hi:i<g.length
   ·obtain ⟨u,C,z⟩:=r.get (i:=i) (p:=.bl g[i]) (by rw[Q4,Q7 hi];rfl);rw[C,Zc2 z,Q4,Q7 hi];rfl
   ·rw[Qz ⋯,Qz (by rw[Q0];omega)]
  exact ⟨a,g,rfl,.of (by rw[<-m];exact Zao _ _ t),k _ D o Zcz⟩) q⟩⟩
abbrev Zry(z f:R2')(ta tb tc:ZE):ZE:=λd Q=>ta d λp=>tb d λq=>z p q λw=>match w with
 | .bl k=>Br k (tc d λr=>f q r Q)<|Q<|.bl false
 |_=>False
theorem ZpQ{A g:CmpOp}{r E:R2}{z C:R2'}(I:OpR X (compareOp A) r)(l:LR Z r z)(u:OpR X (compareOp g) E)(n:LR Z E C)(j:QE Z X a ta)(t:QE Z X b tb)(B:QE Z X c tc)(U:lastMarks [A,g] [b,c]=false:=by with_unfolding_all rfl):QE Z X (.Compare a [A,g] [b,c] pos) (Zry z C ta tb tc) :=
 ⟨λd _ _ f q=>j.mo d _ _ (λp k=>t.mo d _ _ (λq k=>l.1 _ _ _ _ (λw k=>by
  split at k
  ·exact k.mo (B.mo d _ _ λr k=>n.1 _ _ _ _ f k) (f _)
  ·exact k) k) k) q,λo m=>Zbf (Zga I u (j.ok o m) (t.ok o m) (B.ok o m) U) λσ H Q ⟨O,d,s,q⟩=>⟨O,d,s,j.mo d _ _ (λp k v H1 h r1=>⟨O,d,s.same h,t.mo d _ _ (λp' k F J S2 G=>l.2 O J p p' v F _ (s.ls.same<|Zat h S2) (r1.h S2) G<|l.1 _ _ _ _ (λw k v3 N i S=>by
   split at k
   ·rename_i D
    refine ⟨D,Zc2 S,?_⟩
    cases D with
    |true =>
     rw[if_pos rfl];exact ⟨O,d,s.same<|Zat h<|Zat S2 i,B.mo d _ _ (λr k W L y R=>n.2 O L _ _ F W _ (s.ls.same<|Zat h<|Zat S2<|Zat i y) (G.h<|Zat i y) R<|n.1 _ _ _ _ (λw k M Y T=>k M Y<|Zat h<|Zat S2<|Zat i<|Zat y T) k) k⟩
    |false=>rw[if_neg ∅];exact k _ N (Zat h<|Zat S2 i) Zcz
   ·exact k.elim) k) k⟩) q⟩⟩
theorem Zt0{i:Int}{u:Value}(d:X.mg x=some u)(r:RelV (.int i) u)(g:Gl X x:=by rfl)(f:(x==("__debug__":Str))=false:=by decide):QE Z X (.Name x pos) (zC<|.int i):=qc (Zct g d r f) λ_=>by unfold Rep;rfl
abbrev ZsN(te:ZE):ZE:=λd Q=>te d λp=>match p with
 | .lst _=>Q<|.bl true
 | .tup _=>Q<|.bl false
 | .int _=>Q<|.bl false
 |_=>False
theorem Zon(K:ZZfg){t T:String}(f:((Value.type t)==(Value.type T))=false)(d:PySem.W.kitMeta T=true)(h:(PySem.fastBuiltinMro t).map (·.contains (Value.type T))=some false):PySem.W.kitOne K (.type t) (.type T)=some false:=Zi4 K f d h
theorem Zoo(t:X.mg "isinstance"=none) (r:X.mg "list"=none) (h:QE Z X e te) (o:Gl X "isinstance":= by rfl) (l:Gl X "list":= by rfl) (n:starEach [e,.Name "list" p2] X.env=(false,eval e X.env)::starEach [.Name "list" p2] X.env:=by rfl):QE Z X (.Call (.Name "isinstance" p) [e,.Name "list" p2] [] pos) (ZsN te) :=
 ⟨λg _ _ f q=>h.mo g _ _ (λp k=>by
  split at k
  ·exact f _ k
  ·exact f _ k
  ·exact f _ k
  ·exact k.elim) q,λy u=>Zbf (Zan ZbE o t boot_isinstance (Zaa (h.ok y u) (Zaa (ZfK l r boot_list) Zae) n) ∅ ∅ n rfl) λA H Q ⟨O,g,s,q⟩=>⟨O,g,s,h.mo g _ _ (λp k v m i d=>by
  split at k
  ·unfold Rep at d;obtain ⟨a,z,rfl,j,_⟩:=d;exact ⟨_,_,_,true,rfl,.lst<|Zao _ _ j,ZcJ _ _,k _ m i Zcz⟩
  ·unfold Rep at d;obtain ⟨a,z,rfl,j,_⟩:=d;exact ⟨_,_,_,false,rfl,.tup<|Zao _ _ j,Zon _ ‹4› ‹4› ‹4›,k _ m i Zcz⟩
  ·rw[Zax d];exact ⟨_,_,_,false,rfl,.int _,Zon _ ‹4› ‹4› ‹4›,k _ m i Zcz⟩
  ·exact k.elim) q⟩⟩
end
section
variable{x y:Str}{pos p2:Pos}{elt it cnd:Expr}{te:ZE}{tc:ZT}{ti:ZA}{scope:Scope}{caps:List (Nat×Str)}
theorem ZsO(x:Str)(caps:List (Nat×Str))(h:QI Z X (.Name x p2) it ti)(o:∀c b a C,QE Z (Zbk X x scope (x::caps.map (·.2)) b a C c) elt te)(g:CapsOk X scope caps:=by repeat (first | exact trivial | refine And.intro ⟨rfl,rfl,by first | exact .inl rfl | exact .inr rfl⟩ ?_))(u:X.calm=true:=by rfl)
    (O:OneCell scope x:=by exact ⟨‹4›,rfl,λ_ _=>rfl,λ_=>rfl⟩) (j:(x::caps.map (·.2)).Nodup:=by decide +kernel)
    (m:(scope.names.all λy=>!(y.2==NameKind.free)||(X.env.cells.lookup y.1).isSome)=true:=by rfl)
    (e:scope.kind = .function:=by rfl)
    (d:∀y∈scope.names,y.2 = .local->scope.names.lookup y.1=some .local:=by decide +kernel) (t:∀x,foldedSetIterable it X.env x=pure x:=by intro _; rfl)
    (n:∀c b a C,Loc (Zbk X x scope (x::caps.map (·.2)) b a C c).env.scope x/\(Zbk X x scope (x::caps.map (·.2)) b a C c).fn x=true:=by exact λ_ _ _ _=>⟨by first | exact .inl rfl | exact .inr rfl,rfl⟩) :
    QL Z X (.ListComp elt [⟨.Name x p2,it,[],0⟩] scope pos) (zCo caps ti te):=by
  have v:Mo te:=(o [] X.s₀ X.H₀ 0).mo;exact ⟨λs A B f q=>h.mo s _ _ (λl k=>k.mo (λ_ _ z=>z) f) q,λr p=>Zbf (ZmP x [x] caps u (h.ok r p) (λc b a C=>ZaL (i:=0) j rfl (n c b a C).1<|.inl (n c b a C).2) (λc b a C=>(o c b a C).ok r p) g O m e d t)<|Zjn h.mo v⟩
theorem ZnB(i:Nat)(x:Str)(caps:List (Nat×Str)){h p4:Pos}(S:X.N.Nodup)(p:QI Z X (.Name x p2) it ti)(F:∀d c b C,QE Z (Zbk X x scope (x::caps.map (·.2)) c b C d) elt te)(L:X.N[i]?=some y:=by rfl)(u:X.env.scope.names.lookup y=some .local:=by rfl)(o:CapsOk X scope caps:=by repeat (first | exact trivial | refine And.intro ⟨rfl,rfl,by first | exact .inl rfl | exact .inr rfl⟩ ?_))(hc:X.calm=true:=by rfl)
    (O:OneCell scope x:=by exact ⟨‹4›,rfl,λ_ _=>rfl,λ_=>rfl⟩) (v:(x::caps.map (·.2)).Nodup:=by decide +kernel)
    (t:(scope.names.all λy=>!(y.2==NameKind.free)||(X.env.cells.lookup y.1).isSome)=true:=by rfl)
    (r:swapsWith (.ListComp elt [⟨.Name x p2,it,[],0⟩] scope pos) (some<|.Name y p4) h.line X.env=pure true:=by rfl)
    (j:scope.kind = .function:=by rfl)
    (e:∀y∈scope.names,y.2 = .local->scope.names.lookup y.1=some .local:=by decide +kernel) (W:∀x,foldedSetIterable it X.env x=pure x:=by intro _; rfl)
    (E:∀d c b C,Loc (Zbk X x scope (x::caps.map (·.2)) c b C d).env.scope x/\(Zbk X x scope (x::caps.map (·.2)) c b C d).fn x=true:=by exact λ_ _ _ _=>⟨by first | exact .inl rfl | exact .inr rfl,rfl⟩) :
    QS Z X (.Assign [.Name y p4] (.ListComp elt [⟨.Name x p2,it,[],0⟩] scope pos) h) (Zq0 i<|ZqT<|zCo caps ti te):=by
  have Q:Mo te:=(F [] X.s₀ X.H₀ 0).mo;have M:Mo (zCo caps ti te):=λm A B f q=>p.mo m _ _ (λl k=>k.mo (λ_ _ z=>z) f) q;refine ZlW M ⟨λD D' m l q=>p.mo m _ _ (λls k=>k.mo (λ_ _ z=>z) λ_=>l.nx _) q,λI G=>Zdo (Zh8 x [x] caps S L u hc (p.ok I G) (λd c b C=>ZaL (i:=0) v rfl (E d c b C).1<|.inl (E d c b C).2) (λd c b C=>(F d c b C).ok I G) o O t r j e W) λD Y H ⟨O,m,s,q⟩=>Zjn p.mo Q Y H _ ⟨O,m,s,p.mo m _ _ (λls k=>k.mo (λ_ _ z=>z) λl k a us N T n g U=>?_) q⟩⟩;obtain ⟨J,R⟩:=s.own T (i:=i) n g U;exact k _ _ N J R
inductive CompT (l:List PV) (c:PV->(Bool->Prop)->Prop) (f:PV->PK'->Prop) (Q:List PV->Prop):Prop
 |mk (Pv:Nat->List PV->Prop) (hz:l.length<=1000) (h0:Pv 0 []) (hs:∀(i:Nat) p r,l[i]?=some p->Pv i r->c p λb=>Br b (f p λv=>Pv (i+1) (r++[v])) (Pv (i+1) r)) (q:∀r,Pv l.length r->Q r):CompT l c f Q
theorem CompT.mo{l:List PV}{c:PV->(Bool->Prop)->Prop}{f:PV->PK'->Prop}{A B:List PV->Prop}(k:∀r,A r->B r)(h:CompT l c f A):CompT l c f B:=let ⟨Pv,h1,h2,h3,h4⟩:=h;⟨Pv,h1,h2,h3,λr a=>k _<|h4 r a⟩
abbrev Zs9(caps:List (Nat×Str))(ti:ZA)(tc:ZT)(te:ZE):ZA:=λa Q=>ti a λl=>CompT l (λp=>tc (some (.val p)::cap caps a)) (λp=>te (some (.val p)::cap caps a)) Q
theorem ZpR{t:Hp}{o:ZZla}(N:Mo ti)(mc:Mo tc)(W:Mo te)(I:L2.St)(H:Hp)(Q:VK)(h:liL Z t o (Zs9 caps ti tc te) I H Q):ZnW 1 caps (liI Z t o ti) (Zcm 0) (liT Z t o tc) (liE Z t o te) I H Q:=by
 obtain ⟨O,F,s,q⟩:=h;refine ⟨O,F,s,N F _ _ (λl c J z C R=>?_) q⟩;obtain ⟨B,hz,Y,hs,q⟩:=c;refine ⟨λi m f n=>m=l.length-i/\i<=l.length/\f.length<=i/\Same z n/\∃r,B i r/\Reps Z (hide O n) r f,⟨_,rfl,Q6 _,Q2 _,ZaW,[],Y,.nil⟩,?_⟩;rintro i m f n ⟨rfl,hi,ly,d,r,pv,A⟩;have l1:=ZaR hz;obtain ⟨T,S⟩:=R O n (Zaz d) ((s.ls.same C).same d) i;refine ⟨⋯,?_⟩
 by_cases e:i=l.length
 ·refine .inl ⟨T e,nw (Zat C d) (q r (by rw[<-e];exact pv)) A⟩
 ·have j:i<l.length:=⋯;obtain ⟨L,U⟩:=S l[i]<|Q7 j;refine .inr ⟨L,⋯,λv a=>Same z a/\∃r,B (i+1) r/\Reps Z (hide O a) r (f++[v]),λa=>Same z a/\∃r,B (i+1) r/\Reps Z (hide O a) r f,λv a ⟨D,u⟩=>⟨l.length-(i+1),⋯,rfl,j,by rw[Qc,List.length_singleton];omega,D,u⟩,λa ⟨D,u⟩=>⟨l.length-(i+1),⋯,rfl,j,⋯,D,u⟩,λx M yx=>?_⟩;obtain ⟨S2,r2⟩:=U x M yx;have G:=s.cap (Zat C<|Zat d S2) caps (vs:=[x]) (ps:=[l[i]])<|.cons r2 .nil;refine ⟨ZkX,O,_,G,mc _ _ _ (λb k a g=>?_)<|hs i _ r (Q7 j) pv⟩
  cases b with
  |true=>exact ⟨O,_,G.same g,W _ _ _ (λp k v H5 E r5=>⟨Zat d<|Zat S2<|Zat g E,r++[p],k,(A.h<|Zat S2<|Zat g E).append<|.cons r5 .nil⟩) k⟩
  |false=>exact ⟨Zat d<|Zat S2 g,r,k,A.h<|Zat S2 g⟩
theorem Zrz(x:Str)(caps:List (Nat×Str))(j:QI Z X (.Name x p2) it ti)(s:∀c b a C,QT Z (ZaD X scope (x::caps.map (·.2)) b a C c) cnd tc)(t:∀c b a C,QE Z (ZaD X scope (x::caps.map (·.2)) b a C c) elt te)(h:CapsOk X scope caps:=by repeat (first | exact trivial | refine And.intro ⟨rfl,rfl,by first | exact .inl rfl | exact .inr rfl⟩ ?_))(z:X.calm=true:=by rfl)
    (n:(x::caps.map (·.2)).Nodup:=by decide +kernel)
    (p:(scope.names.all λy=>!(y.2==NameKind.free)||(X.env.cells.lookup y.1).isSome)=true:=by rfl)
    (e:scope.kind = .function:=by rfl) (g:∀y∈scope.names,y.2 ≠ .cell:=by decide +kernel)
    (d:∀y∈scope.names,y.2 = .local->scope.names.lookup y.1=some .local:=by decide +kernel) (v:∀x,foldedSetIterable it X.env x=pure x:=by intro _; rfl)
    (r:∀c b a C,Loc (ZaD X scope (x::caps.map (·.2)) b a C c).env.scope x/\(ZaD X scope (x::caps.map (·.2)) b a C c).env.scope.names.lookup x=some .local:=by exact λ_ _ _ _=>⟨.inl rfl,rfl⟩) :
    QL Z X (.ListComp elt [⟨.Name x p2,it,[cnd],0⟩] scope pos) (Zs9 caps ti tc te) :=
  ⟨λu A B f q=>j.mo u _ _ (λl k=>k.mo f) q,λo m=>Zbf (ZmT [x] caps z (j.ok o m) (λc b a C=>ZaL (i:=0) n rfl (r c b a C).1<|.inr (r c b a C).2) (λc b a C=>(s c b a C).ok o m) (λc b a C=>(t c b a C).ok o m) h p e g d v)<|ZpR j.mo (s [] X.s₀ X.H₀ 0).mo (t [] X.s₀ X.H₀ 0).mo⟩
end
end Zp
namespace My
open PySem L2 PyProof.Rows
section
variable{P:Program}{w:World}{K:ZZfg}{mg:ZZmg}{base:Heap}{CF CR:Addr}
inductive ZiO (vs:List V) (H:Hp) (Q:VK) (zE:XK):Prop
 |mk (s:Addr) (v:V) (x:KX.q.F) (_:vs=[.ref s,v]) (_:NR .q H v x) (_:Q (.bl true) H):ZiO vs H Q zE
theorem Zc8:FnScope ["self","thing"] ["self","thing"] (Zab Zbd):=‹2›
theorem ZpS(h:HereM K CF "is_number" "Fractions.is_number" Zbd) (T:Nm mg) (b:Has P w K mg base "is_whole" 1 ["thing"] ZcT) (c:Has P w K mg base "divisor" 1 ["one","other"] ZaX):HasM P w K mg base CF "is_number" 2 ["self","thing"] [] ZiO:=by
 refine h.hasM (λ_ _ F=>F.b2 λ_ _ _ _ _ _ _ _=>rfl) λf n F=>F.ok Zc8 (λj H Q E h=>?_)<|λl A d s H j Q E e h=>?_
 ·obtain ⟨_,_,_,rfl,_⟩:=h
  rfl
 obtain ⟨m,v,x,rfl,⟨a,rfl,q⟩,k⟩:=h;refine ⟨_,(Zad (Za1 (ZdD (ZcB<|Zbv<|Zan ZaK (by rfl) T.isinstance boot_isinstance<|Zaa (pv 1)<|Zaa (ZfK (by rfl) T.tuple boot_tuple) Zae)<|ZdF<|Zav Zda (Zan Zas (by rfl) T.len boot_len<|Zaa (pv 1) Zae) Zac<|Zay _).pt (Zag<|Zar Zc5) ZaB)
  (Zad (Za1 (ZdD (ZcB<|Zbv<|ZaI b e (by rfl)<|Zaa (ZaF Zaw (pv 1) Zac<|λ_ _=>rfl) Zae)<|ZdF<|ZcB<|Zbv<|ZaI b e (by rfl)<|Zaa (ZaF Zaw (pv 1) Zac<|λ_ _=>rfl) Zae).pt (Zag<|Zar Zc5) ZaB)
  (Zag<|Zar<|ZeD (ZbD Zmx (ZaF Zaw (pv 1) Zac<|λ_ _=>rfl) Zac<|Zay _)<|ZdX<|ZbD Za6 (ZaI c e (by rfl)<|Zaa (ZaF Zaw (pv 1) Zac<|λ_ _=>rfl)<|Zaa (ZaF Zaw (pv 1) Zac<|λ_ _=>rfl) Zae) Zac<|Zay _))),?_⟩
 have g:=Zbj x;refine ⟨_,rfl,_,_,_,_,rfl,.of<|.tup q,.ty<|ZcJ K _,_,rfl,ZeT ?_⟩;refine ⟨_,rfl,a,_,rfl,.inr<|SqT.of q,rfl,_,rfl,ZeG (λz=>absurd rfl z) λ_=>?_⟩;refine ⟨_,rfl,a,_,0,_,rfl,rfl,SqT.of q,rfl,_,rfl,_,rfl,ZeT ?_⟩;refine ⟨_,rfl,a,_,1,_,rfl,rfl,SqT.of q,rfl,_,rfl,_,rfl,ZeT ?_⟩;refine ⟨_,rfl,a,_,1,_,rfl,rfl,SqT.of q,rfl,_,_,rfl,rfl,_,rfl,?_⟩;refine ZbR (λi=>?_)<|λi=>absurd (show 1<=((Rat.den x:Nat):Int) by have:=g.pos;omega) i;refine ⟨_,rfl,a,_,0,_,rfl,rfl,SqT.of q,rfl,_,rfl,a,_,1,_,rfl,rfl,SqT.of q,rfl,_,_,rfl,rfl,?_⟩;rw[Zge,decide_eq_true (show (Int.gcd _ _:Int)=1 by rw[g.cop];rfl)];exact k
inductive ZiP (CR:Addr) (vs:List V) (H:Hp) (Q:VK) (zE:XK):Prop
 |mk (s:Addr) (p:Nat) (i:Int) (_:vs=[.ref s,.int i]) (_:ReA CR (p:Int) H s) (_:0<=i) (_:i<p) (_:Q (.bl true) H):ZiP CR vs H Q zE
theorem Zeh:FnScope ["self","thing"] ["self","thing"] (Zab ZbJ):=‹2›
theorem ZpT(h:HereM K CR "is_number" "Rests.is_number" ZbJ) (o:Cls K CR) (d:NoAttr K CR "prime") (a:Has P w K mg base "is_whole" 1 ["thing"] ZcT):HasM P w K mg base CR "is_number" 2 ["self","thing"] [] (ZiP CR):=by
 refine h.hasM (λ_ _ F=>F.b2 λ_ _ _ _ _ _ _ _=>rfl) λf r F=>F.ok Zeh (λg H Q E h=>?_)<|λm A b s H g Q E q h=>?_
 ·obtain ⟨_,_,_,rfl,_⟩:=h
  rfl
 obtain ⟨sr,p,i,rfl,⟨j,l⟩,n,e,k⟩:=h;refine ⟨_,(Zag<|Zar<|ZeD (ZaI a q (by rfl)<|Zaa (pv 1) Zae)<|ZdX<|Zga ZjK Zg9 Zac (pv 1)<|Zd0 (pv 0) rfl),?_⟩;refine ⟨_,rfl,_,rfl,_,rfl,ZkW ⟨_,rfl,_,_,rfl,rfl,_,rfl,?_⟩⟩;refine ZbR (λc=>?_)<|λc=>absurd n c;refine ⟨_,rfl,sr,CR,j,_,_,rfl,l,o,d,ZbS p,_,_,rfl,rfl,?_⟩;rw[decide_eq_true e];exact k
end
end My
namespace Zp
open My
open PySem L2 PyProof.Rows
variable{Z:Zc}{X:Cx}{P:Program}{w:World}{K:ZZfg}{mg:ZZmg}{base:Heap}{cF:Addr}
inductive S_isN:ZF
 |mk {Q:PK'} {κ:KX} {x:κ.F} (q:Q (.bl true)):S_isN [.kd κ,num κ x] Q
theorem mt_isN(k:Kd K mg Z.f Z.r)(i:HasM P w K mg base Z.f "is_number" 2 ["self","thing"] [] ZiO) (m:HasM P w K mg base Z.r "is_number" 2 ["self","thing"] [] (ZiP Z.r)):Mt P w K mg base Z zKd "is_number" 2 S_isN :=
 ZpC k i.toX m.toX (λo A B f ⟨q⟩=>⟨f _ q⟩) (λH O a c j Q d g L r s=>by
  generalize e:PV.kd .q::c=l at s;obtain ⟨q⟩:=s
  cases e
  obtain ⟨u,rfl,b⟩:=r.one;exact ⟨a,u,_,rfl,Zc4 b,q _ H ZaW Zcz⟩) (λp h H O a c j Q d g L r s=>by
  generalize e:PV.kd (.r p h)::c=l at s;obtain ⟨q⟩:=s
  rename_i x
  cases e
  obtain ⟨u,rfl,b⟩:=r.one;have b:u = .int x.val:=Zc4 b;subst b;have n:=x.isLt;exact ⟨a,p,_,rfl,d,⋯,⋯,q _ H ZaW Zcz⟩)
inductive Isp (κ:KX):PV->Bool->Prop
 |good {f:ZZlk κ} {b:Bool} (l:f.length<=100) (h:b=true↔Trm f):Isp κ (Zex κ f) b
 |bad (x:κ.F):Isp κ (num κ x) false
inductive S_Pis:ZF
 |mk {Q:PK'} {κ:KX} {p:PV} {b:Bool} (h:Isp κ p b) (q:Q (.bl b)):S_Pis [.kp κ,p] Q
theorem ZnC{n:Nat}{bs:List Bool}(h:∀b∈bs,b=true):bs.all id=true:=Ul.mpr λb m=>h b m
theorem ZrA{κ:KX}(x:κ.F):(∃l,num κ x = .tup l)\/∃i,num κ x = .int i:=by
 cases κ with
 |q=>exact .inl ⟨_,by unfold num;rfl⟩
 |r p a=>exact .inr ⟨_,by unfold num;rfl⟩
theorem ZrB:FnScope ["self","thing"] ["self","thing"] (Zab ZbK):=‹2›
theorem z_Pis(h:HereM K Z.p "is_number" "Polys.is_number" ZbK) (T:Nm mg) (t:mg "all" = none) (j:Pc K mg Z.p) (c:Mt P w K mg base Z zKd "is_number" 3 S_isN) (d:Mt P w K mg base Z zKd "is_nought" 3 Snz):Mt P w K mg base Z zKp "is_number" 4 S_Pis:=by
  refine Ziz j.cl (λv A B f ⟨a,q⟩=>⟨a,f _ q⟩)<|Zf4 h (λ_ _ F=>F.b2 λ_ _ _ _ _ _ _ _=>rfl) ZrB (λ_ _ ⟨_,_⟩=>rfl) (λ_ _ _ _ _ _ _ y =>
    (Zaf (Zci (QW.t<|Zm8 (Zc7<|ZgK<|Zoo T.isinstance T.list<|qv 1)<|ZgL<|Zc7<|ZgK<|ZnA t<|QL.toE<|Zei "each" [(0, "self")] (Zec<|qv 1) (by exact λ_ _ _ _=>(q_m c (ZlV j.nU j.cl<|qv 1)<|qa1<|qv 0))) (Zai<|Zau ZhQ) Zbo)
    (Zai<|Zau<|ZsM (Zhy Za6 leq (ZaT T.len<|qv 1) ZaA)<|Znz<|Zrx<|q_m d (ZlV j.nU j.cl<|qv 0)<|qa1<|Zcg (qv 1)<|Zm9 ZaA))) ∅ ?_
  rintro _ Q ⟨i,q⟩
  rename_i o p b
  cases i with
  | bad x =>
    rcases ZrA x with ⟨l,e⟩ | ⟨i,e⟩ <;> rw[e] <;> exact q
  | @good f b l ht =>
    have g:=Zcq f;refine ⟨(f.map λ_=>true).map .bl,by rw[Q0,Q0,g],by rw[g]; omega,λi p s=>?_,⟨f.map λ_=>true,rfl,?_⟩⟩
    · obtain ⟨x,k,rfl⟩:=Zof s
      refine S_isN.mk ?_;rw[Q4,Q4,k]; rfl
    · refine brF (by rw[ZnC (n:=0) (λb m=>by obtain ⟨_,_,rfl⟩:=Wy.mp m; rfl)]; rfl) ?_
      show Br (decide<|((f.map<|num o).length:Int)=0) _ _;rw[g];refine br (λz=>?_) λz=>?_
      · have:b=true:=ht.mpr<|.inl ⋯
        rw[this] at q; exact q
      · have u:f.length-1<f.length:=⋯
        have k:f[f.length-1]?=some (f.getD (f.length-1) 0):=by rw[Q3,Q7 u]; rfl
        refine ⟨num o<|f.getD (f.length-1) 0,?_,Snz.mk λr e=>?_⟩
        · unfold atI
          rw[Znd (by rw[g]; omega),g];show (f.map<|num o)[f.length-1]?=_;rw[Q4,k]; rfl
        · have:b=!r:=by
            cases r with
            | true =>
              cases b with
              | true=>exact absurd (e.mp rfl)<|(ht.mp rfl).resolve_left ⋯
              | false=>rfl
            | false=>exact ht.mpr (.inr λz=>by cases e.mpr z)
          rw[this] at q; exact q
inductive S_sl:ZF
 |mk {Q:PK'} {l:List PV} (l1:1<=l.length) (l7:l.length<=7) (q:Q (.bl true)):S_sl [.lst l] Q
theorem ZeR:FnScope ["thing"] ["thing"] (Zab Zce):=‹2›
theorem z_sl(h:Here K mg "is_short_list" Zce) (T:Nm mg) (c:∃t,mg "MOST"=some (.int 7 t)):Fn P w K mg base Z "is_short_list" 1 S_sl:=by
 obtain ⟨d,c⟩:=c;refine Za2 h (λ_ _ F=>F.b1 λ_ _ _ _ _ _ _=>rfl) ZeR (λg A B f ⟨a,b,q⟩=>⟨a,b,f _ q⟩) (λ_ _ ⟨_,_,_⟩=>rfl) (λ_ _ _ _ _ _ _ k =>
  (Zai<|Zau<|Zmr (Zoo T.isinstance T.list<|qv 0)<|Znz<|ZpQ ZjK lb ZjK lb ZaA (ZaT T.len<|qv 0)<|Zt0 c (i:=7) ⟨_,rfl⟩)) ∅ ?_
 rintro _ Q ⟨e,j,q⟩;refine brT (decide_eq_true ⋯) ?_;show Q (.bl<|decide _);rw[decide_eq_true ⋯];exact q
inductive S_row:ZF
 |mk {Q:PK'} {κ:KX} {m:Nat} {p:Nat->PV} {ib:Nat->Bool} {b:Bool} (m1:1<=m) (m7:m<=7) (h:∀j,j<m->Isp κ (p j) (ib j)) (hb:b=true↔∀j,j<m->ib j=true) (q:Q (.bl b)):S_row [.kp κ,.lst ((List.range m).map p)] Q
theorem all_iff{n:Nat}{f:Nat->Bool}:((List.range n).map f).all id=true↔∀i,i<n->f i=true:=by
 rw[Ul];refine ⟨λk i a=>k _<|Wy.mpr ⟨i,W3.mpr a,rfl⟩,λk c m=>?_⟩;obtain ⟨i,a,rfl⟩:=Wy.mp m;exact k i<|W3.mp a
theorem ZrC{n:Nat}{f:Nat->Bool}{b:Bool}(h:b=true↔∀i,i<n->f i=true):((List.range n).map f).all id=b:=by rw[U8,all_iff,h]
theorem all_mk{n:Nat}{f:Nat->Bool}{b:Bool}{Q:PK'}(h:b=true↔∀i,i<n->f i=true)(q:Q (.bl b)):All (.lst<|(List.range n).map λi => .bl<|f i) Q :=
 ⟨(List.range n).map f,by rw[U7];rfl,by rw[ZrC h];exact q⟩
theorem Zms:FnScope ["kind","thing"] ["kind","thing"] (Zab Zgm):=‹2›
theorem z_row(h:Here K mg "is_row" Zgm) (l:mg "all"=none) (i:Fn P w K mg base Z "is_short_list" 4 S_sl) (e:Mt P w K mg base Z zKp "is_number" 4 S_Pis):Fn P w K mg base Z "is_row" 5 S_row:=by
 refine Za2 h (λ_ _ F=>F.b2 λ_ _ _ _ _ _ _ _=>rfl) Zms (λu A B f ⟨a,b,c,d,q⟩=>⟨a,b,c,d,f _ q⟩) (λ_ _ ⟨_,_,_,_,_⟩=>rfl) (λ_ _ _ _ _ _ _ x =>
  (Zai<|Zau<|Zmr (Zak i<|qa1<|qv 1)<|Znz<|ZnA l<|QL.toE<|Zei "each" [(0,"kind")] (Zec<|qv 1) (by exact λ_ _ _ _=>(q_m e (qv 1)<|qa1<|qv 0)))) ∅ ?_
 rintro _ Q ⟨r,o,h,t,q⟩
 rename_i v m p s b
 refine S_sl.mk (by rw[Zap];exact r) (by rw[Zap];exact o) ?_;exact Zbu (g:=λj => .bl<|s j) ⋯ (λj n C k=>S_Pis.mk (h j n) k)<|all_mk t q
abbrev gtb(n m:Nat)(p:Nat->Nat->PV):PV:=.lst<|(List.range n).map λi => .lst<|(List.range m).map<|p i
inductive S_tbl:ZF
 |mk {Q:PK'} {κ:KX} {n m:Nat} {p:Nat->Nat->PV} {ib:Nat->Nat->Bool} {b:Bool} (n1:1<=n) (n7:n<=7) (m1:1<=m) (m7:m<=7) (h:∀i j,i<n->j<m->Isp κ (p i j) (ib i j)) (hb:b=true↔∀i,i<n->∀j,j<m->ib i j=true) (q:Q (.bl b)):S_tbl [.kp κ,gtb n m p] Q
theorem ZiQ:FnScope ["kind","thing"] ["kind","thing"] (Zab Zek):=‹2›
theorem z_tbl(h:Here K mg "is_table" Zek) (T:Nm mg) (r:mg "all"=none) (l:Fn P w K mg base Z "is_short_list" 5 S_sl) (o:Fn P w K mg base Z "is_row" 5 S_row):Fn P w K mg base Z "is_table" 6 S_tbl:=by
 refine Za2 h (λ_ _ F=>F.b2 λ_ _ _ _ _ _ _ _=>rfl) ZiQ (λE A B f ⟨a,b,c,d,e,g,q⟩=>⟨a,b,c,d,e,g,f _ q⟩) (λ_ _ ⟨_,_,_,_,_,_,_⟩=>rfl) (λ_ _ _ _ _ _ _ H =>
  (Zaf (Zci (QW.t<|Zm8 (Zc7<|ZgK<|Zak l<|qa1<|qv 1)<|ZgL<|Zc7<|ZgK<|ZnA r<|QL.toE<|Zei "row" [(0,"kind")] (Zec<|qv 1) (by exact λ_ _ _ _=>(Zak o<|qa2 (qv 1)<|qv 0))) (Zai<|Zau ZhQ) Zbo)
  (Zai<|Zau<|ZnA r<|QL.toE<|Zei "row" [(1,"thing")] (Zec<|qv 1) (by exact λ_ _ _ _=>(Zhy Za6 leq (ZaT T.len<|qv 0)<|ZaT T.len<|Zcg (qv 1) ZaA))))) ∅ ?_
 rintro _ Q ⟨x,y,v,u,h,D,q⟩
 rename_i G n m p z b
 refine S_sl.mk (by rw[Zap];exact x) (by rw[Zap];exact y) ?_;refine Zbu (g:=λi => .bl<|((List.range m).map<|z i).all id) ⋯ (λi s C k=>S_row.mk v u (λj t=>h i j s t) all_iff k)<|all_mk (b:=b) (by rw[D];exact forall_congr' λi=>forall_congr' λ_=>all_iff.symm) ?_
 cases b with
 |false=>exact q
 |true =>
  refine Zbu (g:=λ_ => .bl true) ⋯ (λi s C k=>?_)<|all_mk (b:=true) ⟨λ_ _ _=>rfl,λ_=>rfl⟩ q;refine ⟨_,Zaq (j:=0)<|ZaZ (show 0<n by omega),?_⟩;show C (.bl<|decide _);rw[Zap,Zap,decide_eq_true rfl];exact k
theorem Reps.four{H:Hp}{p q r s:PV}{us:List V}(h:Reps Z H [p,q,r,s] us):∃u v t x,us=[u,v,t,x]/\Rep Z H p u/\Rep Z H q v/\Rep Z H r t/\Rep Z H s x:=by
 unfold Reps at h;obtain ⟨u,r,e,f,t⟩:=h;obtain ⟨v,t,x,d,a,c,b⟩:=t.three;exact ⟨u,v,t,x,by rw[e,d],f,a,c,b⟩
structure Bd (Z:Zc) (O:ZZla) (H:Hp) (n:Nat) (W:ZZla) (bd:Addr) (Hb:Hp) (p:Nat->Nat->PV):Prop where
 S:Same H Hb
 h:Hb bd=some (.lst (W.map .ref))
 l:W.length=n
 nd:W.Nodup
 o:bd∉W
 n0:H bd=none
 nw:∀b∈W,H b=none
 r:∀k b,W[k]?=some b->∃vs,Hb b=some (.lst vs)/\Reps Z (hide (W++O) Hb) ((List.range n).map (p k)) vs
section
variable{O W:ZZla}{H Hb Hc:Hp}{n:Nat}{bd:Addr}{p:Nat->Nat->PV}
theorem Bd.same(h:Bd Z O H n W bd Hb p)(S:Same Hb Hc):Bd Z O H n W bd Hc p:=⟨Zat h.S S,S _ _ h.h,h.l,h.nd,h.o,h.n0,h.nw,λk b e=>let ⟨vs,a,r⟩:=h.r k b e;⟨vs,S _ _ a,r.h S⟩⟩
theorem Bd.ls(h:Bd Z O H n W bd Hb p)(L:Ls O H):Ls (W++O) Hb:=λa m=>by
 rcases W6.mp m with m|m
 ·obtain ⟨k,e⟩:=List.getElem?_of_mem m;obtain ⟨b,q,_⟩:=h.r k a e;exact ⟨b,q⟩
 ·exact L.same h.S a m
theorem Bd.rep(h:Bd Z O H n W bd Hb p)(L:Ls O H):Rep Z (hide O Hb) (gtb n n p) (.ref bd):=by
 refine rep_l (by rw[hide_out<|L.new h.n0];exact h.h)<|.of (by rw[Q0,Zap,h.l]) λk q u f e=>?_;obtain ⟨g,rfl⟩:=rget f;obtain ⟨b,d,rfl⟩:=Zof e;obtain ⟨i,a,r⟩:=h.r k b d;exact rep_l (by rw[hide_out<|L.new<|h.nw b<|Qp d];exact a)<|r.same<|Zeb λc m=>Qb _ m
theorem Bd.put{I J:Nat}{b:Addr}{vs:List V}{q:PV}{u:V}(h:Bd Z O H n W bd Hb p)(f:W[I]?=some b)(x:Hb b=some (.lst vs))(r:Rep Z (hide (W++O) Hb) q u)(l:J<n):Bd Z O H n W bd (upd Hb b<|.lst<|vs.set J u) λi j=>if i=I/\j=J then q else p i j:=by
  have d:=Qp f;have m:bd≠b:=λz=>h.o<|z ▸ d;have s:hide (W++O) (upd Hb b<|.lst<|vs.set J u)=hide (W++O) Hb:=Zjk<|Wn _ d;refine ⟨λc o e=>?_,by rw[Zaj m]; exact h.h,h.l,h.nd,h.o,h.n0,h.nw,λk c e=>?_⟩
  · rw[Zaj λz=>by rw[z,h.nw b d] at e; cases e]; exact h.S c o e
  obtain ⟨t,a,g⟩:=h.r k c e;rw[s]
  by_cases z:k=I
  · subst z
    rw[f] at e; cases e;rw[x] at a; cases a;refine ⟨_,Zah,?_⟩;have v:((List.range n).map λj=>if k=k/\j=J then q else p k j)=((List.range n).map<|p k).set J q:=by
      refine Uj λj=>?_;rw[Ur,Zap,Q4,Q4]
      by_cases hj:j<n
      · rw[Qj hj]
        by_cases y:J=j
        · rw[if_pos y,if_pos l]
          exact congrArg some<|if_pos ⟨rfl,y.symm⟩
        · rw[if_neg y]
          exact congrArg some<|if_neg λw=>y w.2.symm
      · rw[Qz (by rw[Q9]; omega),if_neg λy=>hj ⋯]; rfl
    show Reps Z _ ((List.range n).map λj=>if k=k/\j=J then q else p k j) _;rw[v]; exact g.set J r
  · have nc:c≠b:=λy=>z (by
      subst y;exact (List.getElem?_inj (by rw[h.l]; have:=(Qn.mp e).1; have:=h.l; omega) h.nd).mp<|e.trans f.symm)
    refine ⟨t,by rw[Zaj nc]; exact a,?_⟩;have A:((List.range n).map λj=>if k=I/\j=J then q else p k j)=(List.range n).map (p k):=U4 λj _=>if_neg λy=>z y.1;show Reps Z _ ((List.range n).map λj=>if k=I/\j=J then q else p k j) _;rw[A]; exact g
theorem SR.vals{d:Hp}{f:L2.St}{ρ:PSt}(L:Ls O H)(S:Same H d)(l:f.length=ρ.length)(r:∀i s,sget ρ i=some s->∃p v,s = .val p/\f[i]?=some (some v)/\Rep Z (hide O d) p v):SR Z H O O d f ρ :=
 ⟨S,λ_ m=>m,λ_ m => .inl m,L.same S,l,λi s e=>let ⟨p,v,a,b,c⟩:=r i s e;⟨v,b,by rw[a];exact .val c⟩,λi j l m _ e=>(by
  obtain ⟨p,v,a,_⟩:=r i _ e
  cases a),λi l a e=>(by
  obtain ⟨p,v,a,_⟩:=r i _ e
  cases a)⟩
end
theorem ZjE{κ:KX}{c e:Nat}{s:Sr κ}(h:PS κ c e s)(e4:e<=40):Isp κ (pv κ s) true:=.good (by have:=h.pl.1.l;omega) ⟨λ_=>h.pl.1.t,λ_=>rfl⟩
theorem ZnD{κ:KX}{f:ZZlk κ}(l:f.length<=90):Isp κ (Zex κ<|f++[0]) false:=.good (by rw[Qc];show _+1<=100;omega) ⟨λz=>(nomatch z),λz=>by
 rcases z with z|z
 ·rw[Qc] at z;exact absurd z<|Nat.succ_ne_zero _
 ·refine absurd ?_ z;rw[Q3,Qc];show ((f++[0])[f.length]?).getD 0=0;rw[Wa<|Q2 _,Nat.sub_self];rfl⟩
end Zp
namespace L2
open PySem PySem.Spec PyProof.Rows
section
variable{X:Cx}
theorem Ze1:OpR X (compareOp .IsNot) (λx y H Q=>∃b c:Bool,x = .bl b/\y = .bl c/\Q (.bl<|!(b==c)) H):=by
 intro a s f H x y v u Q I d e h;obtain ⟨b,c,rfl,rfl,q⟩:=h
 cases d
 cases e
 exact isnot_bool<|ZaU I q rfl
end
end L2
namespace Zp
open My
open PySem L2 PyProof.Rows
variable{Z:Zc}{X:Cx}{P:Program}{w:World}{K:ZZfg}{mg:ZZmg}{base:Heap}{cF:Addr}
inductive S_lask:ZF
 |mk {Q:PK'} {κ:KX} {n:Nat} {a:Nat->Nat->Sr κ} {c:Int} (n1:1<=n) (n3:n<=3) (ha:∀i j,i<n->j<n->PS κ 1 1 (a i j)) (q:Q (.bl true)):S_lask [.kp κ,.int κ.P,ptb κ n n a,.int c] Q
theorem sc_l_asked:FnScope ["_law_polys","_law_prime_here","_law_table","_law_cell","_law_size","_law_i","_law_j","_law_bad","_law_across","_law_one"] ["_law_polys","_law_prime_here","_law_table","_law_cell"] (Zab Zfl):=‹2›
theorem z_lask(h:Here K mg "_law_asked" Zfl) (T:Nm mg) (G:Has P w K mg base "_law_make" 9 ["_law_prime_here","_law_number"] ZbN) (a7:Fn P w K mg base Z "_law_make" 9 S_lmake) (d:Fn P w K mg base Z "is_table" 9 S_tbl) (N:Fn P w K mg base Z "is_square" 9 S_qsq) (U:Fn P w K mg base Z "turned" 9 S_qtu) (a6:Fn P w K mg base Z "unit" 9 S_qu) (M:Fn P w K mg base Z "_law_same" 9 S_lsame) (D:Fn P w K mg base Z "_law_diagonal" 9 S_ldiag):Fn P w K mg base Z "_law_asked" 10 S_lask:=by
 have nd:=sc_l_asked.nd;obtain ⟨pT,hT⟩:=d.has;obtain ⟨pS,hS⟩:=N.has;refine ⟨λps A B f ⟨a1,a2,a3,q⟩=>⟨a1,a2,a3,f _ q⟩,_,h.hasX (λ_ _ F=>F.b4 λ_ _ _ _ _ _ _ _ _ _=>rfl) λf fd F=>F.okx sc_l_asked (λR H Q E h=>?_)<|λb8 A b6 s H R Q E hr h=>?_⟩
 ·obtain ⟨O,pv,l,r,q⟩:=h;rw[r.len];obtain ⟨_,_,_,_⟩:=q
  rfl
 obtain ⟨O,pv,L,r,q⟩:=h;obtain ⟨n1,n3,ha,q⟩:=q
 rename_i κ n a c
 obtain ⟨v0,v1,v2,v3,rfl,r0,r1,r2,r3⟩:=r.four;rw[Zax r1,Zax r3];clear r r1 r3;obtain ⟨ta,us,rfl,b4,rr⟩:=rep_lst r2;have ln:us.length=n:=by rw[rr.len,Zap]
 have a8:=Zao _ _ b4;refine ⟨_,(Zad (ZaG (i:=4) nd rfl (Or.inl rfl)<|Zan Zas (by rfl) T.len boot_len<|Zaa (L2.pv 2) Zae)
  (Zad (ZaG (i:=5) nd rfl (Or.inl rfl)<|Zam Zbb (Zam Zcu (L2.pv 3) Zac)<|L2.pv 4)
  (Zad (ZaG (i:=6) nd rfl (Or.inl rfl)<|Zam Zbb (Zam Zcu (L2.pv 3) Zac)<|L2.pv 4)
  (Zad (ZcD (i:=7) ["_law_row"] [] nd rfl rfl rfl (Zf8<|L2.pv 2) (by exact λ_ _ _ _=>(ZaL (i:=0) (show (["_law_row"]:List Str).Nodup by decide +kernel) rfl<|Or.inl rfl)) (by exact λ_ _ _ _=>(Zd1 (Zgi K rfl) (by rfl) T.list boot_list<|Zaa (L2.pv 0) Zae)) trivial)
  (Zad (Zkv (Zam ZnQ (ZaF Za9 (ZaF Za9 (L2.pv 7) (L2.pv 5)<|λ_ _=>rfl) (L2.pv 6)<|λ_ _=>rfl)<|Zhc<|Zaa (ZaI G hr (by rfl)<|Zaa (L2.pv 1)<|Zaa Zac Zae) Zae)<|Zku (ZaF Za9 (L2.pv 7) (L2.pv 5)<|λ_ _=>rfl) (L2.pv 6) Zgb)
  (Zad (Za1 (ZdD (Zav Ze1 (Zbs hT Zgh hr (by rfl)<|Zaa (L2.pv 0)<|Zaa (L2.pv 2) Zae) Zc5<|Zay _)<|ZdD (Zav Ze1 (Zbs hT Zgh hr (by rfl)<|Zaa (L2.pv 0)<|Zaa (L2.pv 7) Zae) Zc5<|Zay _)<|ZdF<|Zav Ze1 (Zbs hS Zgh hr (by rfl)<|Zaa (L2.pv 2) Zae) Zc5<|Zay _).pt (Zag<|Zar Zc5) ZaB)
  (Zad (Zkv (ZaI G hr (by rfl)<|Zaa (L2.pv 1)<|Zaa Zac Zae)<|Zku (ZaF Za9 (L2.pv 7) (L2.pv 5)<|λ_ _=>rfl) (L2.pv 6) Zgb)
  (Zad (Za1 (Zav Ze1 (Zbs hT Zgh hr (by rfl)<|Zaa (L2.pv 0)<|Zaa (L2.pv 7) Zae) Zc5<|Zay _) (Zag<|Zar Zc5) ZaB)
  (QSs.ok (Z:=Z) (Zaf (ZnB 8 "_law_k" [(2,"_law_table")] nd (Zb9 T.range<|qv 4) (by exact λ_ _ _ _=>(QL.toE<|Zei "_law_row" [(0,"_law_k")] (Zec<|qv 1) (by exact λ_ _ _ _=>(Zcg (qv 0)<|qv 1)))))
   (Zaf (Zci (Zc7<|ZgK<|Zak M<|qa3 (qv 1) (Zak U<|qa1<|qv 2)<|qv 8) (Zai<|Zau ZhQ) Zbo)
   (Zaf (ZaC 9 nd<|QL.toE<|Zb8<|qa1<|Zak a7<|qa2 (qv 1) ZaA)
   (Zai<|Zau<|Zak M<|qa3 (qv 1) (Zak a6<|qa2 (qv 0)<|qv 4)<|Zak D<|qa3 (qv 1) (qv 4)<|qv 9)))) H O))))))))),?_⟩
 refine ⟨_,rfl,ta,_,rfl,.inl<|SqL.of a8,?_⟩;rw[ln];have md:∀z:Int,∃I:Nat,z%(n:Int)=(I:Int)/\I<n:=λz=>⟨(z%(n:Int)).toNat,by
  have:=Wg z (show (n:Int)≠0 by omega);omega,by
  have:=Wg z (show (n:Int)≠0 by omega);have:=Ws z (show (0:Int)<n by omega);omega⟩
 obtain ⟨I,eI,hI⟩:=md<|c/3;obtain ⟨J,eJ,hJ⟩:=md<|c/9;refine ⟨_,rfl,_,_,rfl,rfl,⟨∅,∅⟩,_,rfl,_,_,rfl,rfl,⋯,?_⟩;show Zcm 5 (.int<|c/3%(n:Int)) _ _ _;rw[eI];refine ⟨_,rfl,_,_,rfl,rfl,⟨∅,∅⟩,_,rfl,_,_,rfl,rfl,⋯,?_⟩;show Zcm 6 (.int<|c/9%(n:Int)) _ _ _;rw[eJ];have b2:∀k,k<n->∃(b:Addr) (xs:List V),us[k]?=some (.ref b)/\H b=some (.lst xs)/\Reps Z (hide O H) (prow κ n<|a k) xs:=λk hk=>by
  obtain ⟨u,hu,ru⟩:=rr.get<|ZaZ (f:=λi=>PV.lst<|prow κ n<|a i) hk;obtain ⟨b,xs,rfl,hb,rx⟩:=rep_lst ru;exact ⟨b,xs,hu,Zao _ _ hb,rx⟩
 refine ⟨_,rfl,ta,rfl,⟨_,SqL.of a8⟩,?_⟩;refine ZkY (K:=K) (a:=ta) (xs:=us) (λt ys Y=>Same H Y/\∃W:ZZla,ys=W.map V.ref/\W.length=t/\W.Nodup/\(∀b∈W,H b=none/\Y b≠none)/\∀k b,W[k]?=some b->∃R,Y b=some (.lst R)/\Reps Z (hide O H) (prow κ n<|a k) R) ⋯ ⟨ZaW,[],rfl,rfl,.nil,λ_ m=>(nomatch m),λ_ _ m=>(nomatch m)⟩ (λt ys Y _ q=>SqL.of<|q.1 _ _ a8) ?_ ?_
 ·rintro t x ys Y hx hl ⟨S9,W,rfl,lW,a5,fW,rW⟩;have ht:t<n:=by have:=(Qn.mp hx).1;omega
  obtain ⟨b,xs,hb,b5,rx⟩:=b2 t ht;rw[hx] at hb;cases hb;refine ⟨_,rfl,b,xs,rfl,.inl<|SqL.of<|S9 _ _ b5,λm nm=>?_⟩;have Sn:=Zal nm<|.lst xs;refine ⟨Zat S9 Sn,W++[m],by rw[Qw];rfl,by rw[Qc,lW];rfl,?_,?_,?_⟩
  ·refine List.nodup_append.mpr ⟨a5,by simp,λy hy z hz e=>?_⟩;rw[Qh.mp hz] at e;exact (fW y hy).2 (by rw[e];exact nm)
  ·intro y hy;rcases W6.mp hy with hy|hy
   ·refine ⟨(fW y hy).1,?_⟩
    cases e:Y y with
    |none=>exact absurd e (fW y hy).2
    |some o=>rw[Sn _ _ e];exact λz=>nomatch z
   ·rw[Qh.mp hy];exact ⟨S9.free nm,by rw[Zah];exact λz=>nomatch z⟩
  ·intro k y hy
   by_cases hk:k<W.length
   ·rw[Wd hk] at hy;obtain ⟨R,q1,q2⟩:=rW k y hy;exact ⟨R,Sn _ _ q1,q2⟩
   ·rw[Wa ⋯] at hy;have e:k=t:=by
     have:=(Qn.mp hy).1;rw[List.length_singleton] at this;omega
    subst e;rw[lW,Nat.sub_self] at hy
    cases hy
    exact ⟨xs,Zah,rx⟩
 rintro ys Y _ ⟨S9,W,rfl,lW,a5,fW,rW⟩ bd a4;have Sb:=Zal a4<|.lst<|W.map V.ref;have B:Bd Z O H n W bd (upd Y bd<|.lst<|W.map V.ref) λi j=>pv κ (a i j):=by
  have S0:=Zat S9 Sb;refine ⟨S0,Zah,⋯,a5,λm=>(fW bd m).2 a4,S9.free a4,λb m=>(fW b m).1,λk b e=>?_⟩;obtain ⟨R,q1,q2⟩:=rW k b e;refine ⟨R,Sb _ _ q1,q2.same λx o hx=>?_⟩;obtain ⟨no,hx⟩:=hide_eq hx;rw[hide_out λm=>by
   rcases W6.mp m with m|m
   ·rw[(fW x m).1] at hx;cases hx
   ·exact no m]
  exact S0 _ _ hx
 generalize upd Y bd (.lst<|W.map V.ref)=H1 at *;clear rW fW a5 Sb S9 a4;obtain ⟨bI,hbI⟩:∃b,W[I]?=some b:=⟨_,Q7 ⋯⟩;have a9:(W.map V.ref)[I]?=some (.ref bI):=by rw[Q4,hbI];rfl
 obtain ⟨R,hv,rv⟩:=B.r I bI hbI;have lv:R.length=n:=by rw[rv.len,Zap]
 obtain ⟨u,hu,ru⟩:=rv.get<|ZaZ (f:=λj=>pv κ<|a I j) hJ;obtain ⟨e0,fs,rfl,b1,rf⟩:=rep_lst ru;have lf:fs.length=(pl<|a I J).length:=by rw[rf.len,Q0]
 have lp:=(ha I J hI hJ).pl.1.l;refine ⟨_,rfl,_,rfl,bd,_,_,_,rfl,rfl,SqL.of B.h,Zaq a9,_,rfl,bI,R,_,_,rfl,rfl,SqL.of hv,Zaq hu,_,rfl,κ,0,0,rfl,Zfr,λH2 z S2 nz=>⟨(by show 1<=sizeLine;decide),λp hp=>?_⟩⟩;have Sp:=Zal hp<|.lst [z];have qp:=Zah (H:=H2) (a:=p) (o:=.lst [z]);generalize upd H2 p (.lst [z])=H3 at *;have S3:=Zat S2 Sp;refine ⟨e0,p,fs,[z],rfl,rfl,S3 _ _<|Zao _ _ b1,qp,(by show fs.length+1<=sizeLine;have:=ZaR (show fs.length+1<=1000 by omega);omega),λm hm=>?_⟩;have B3:=B.same S3;have nm:m∉W++O:=(B3.ls L).new hm;have Sm:=Zal hm<|.lst<|fs++[z];have qm:=Zah (H:=H3) (a:=m) (o:=.lst<|fs++[z]);generalize upd H3 m (.lst<|fs++[z])=H4 at *;have B4:=B3.same Sm;have S4:=Zat S3 Sm;have rm:Rep Z (hide (W++O) H4) (Zex κ<|pl (a I J)++[0]) (.ref m):=rep_l (by rw[hide_out nm];exact qm) (by
  rw[Qw];exact (rf.h S4).append<|.cons (ZcE (B4.ls L)<|nz.same<|Zat Sp Sm) .nil)
 have ix:ixN R.length ((J:Nat):Int)=some J:=by rw[lv];exact Zlt hJ
 refine ⟨_,rfl,_,rfl,bd,_,_,_,rfl,rfl,SqL.of B4.h,Zaq a9,_,rfl,bI,R,_,_,rfl,rfl,S4 _ _ hv,ix,?_⟩;have B5:=B4.put hbI (S4 _ _ hv) rm hJ;have b7:=Zah (H:=H4) (a:=bI) (o:=.lst<|R.set J<|.ref m);generalize upd H4 bI (.lst<|R.set J<|.ref m)=H5 at *;have tT:∀ {H':Hp},Same H H'->∀ {Q':PK'},Q' (.bl true)->∃ps,Reps Z (hide O H') ps [v0,.ref ta]/\S_tbl ps Q':=λS Q' k=>⟨[.kp κ,gtb n n λi j=>pv κ<|a i j],.cons (r0.h S)<|.cons (r2.h S) .nil,S_tbl.mk n1 ⋯ n1 ⋯ (ib:=λ_ _=>true) (λi j hi hj=>ZjE (ha i j hi hj) ∅) ⟨λ_ _ _ _ _=>rfl,λ_=>rfl⟩ k⟩;have tF:∀ {H':Hp} {p:PV},Bd Z O H n W bd H' (λi j=>if i=I/\j=J then p else pv κ (a i j))->Isp κ p false->∀ {Q':PK'},Q' (.bl false)->∃ps,Reps Z (hide O H') ps [v0,.ref bd]/\S_tbl ps Q':=fun {_ p} B ip Q' k=>⟨[.kp κ,_],.cons (r0.h B.S)<|.cons (B.rep L) .nil,S_tbl.mk (b:=false) n1 ⋯ n1 ⋯ (ib:=λi j=>!decide (i=I/\j=J)) (λi j hi hj=>by
  by_cases z:i=I/\j=J
  ·show Isp κ (if i=I/\j=J then p else pv κ (a i j)) (!decide _);rw[if_pos z,decide_eq_true z];exact ip
  ·show Isp κ (if i=I/\j=J then p else pv κ (a i j)) (!decide _);rw[if_neg z,decide_eq_false z];exact ZjE (ha i j hi hj) ∅) ⟨λz=>(nomatch z),λz=>by
  have:=z I hI J hJ;rw[decide_eq_true ⟨rfl,rfl⟩] at this;exact this⟩ k⟩
 obtain ⟨a0,g1,g2⟩:=tT B5.S (Q':=λp=>p = .bl true) rfl;refine ⟨_,rfl,_,rfl,⟨O,a0,L.same B5.S,g1,d.mo _ _ _ (λp e v H6 S6 r6=>?_) g2⟩⟩;subst e;rw[Zc2 r6];have B6:=B5.same S6;refine ⟨_,_,rfl,rfl,_,rfl,ZeT ?_⟩;obtain ⟨a0,g1,g2⟩:=tF B6 (ZnD ⋯) (Q':=λp=>p = .bl false) rfl;refine ⟨_,rfl,_,rfl,⟨O,a0,L.same B6.S,g1,d.mo _ _ _ (λp e v H7 S7 r7=>?_) g2⟩⟩;subst e;rw[Zc2 r7];have B7:=B6.same S7;refine ⟨_,_,rfl,rfl,_,rfl,ZeT ?_⟩;refine ⟨_,rfl,⟨O,[ptb κ n n a],L.same B7.S,.cons (r2.h B7.S) .nil,S_qsq.mk n1 λv H8 S8 r8=>?_⟩⟩;rw[Zc2 r8];have B8:=B7.same S8;refine ⟨_,_,rfl,rfl,_,rfl,?_⟩;refine ZeT ?_;have b0:=Zat S6 (Zat S7 S8) _ _ b7;refine ⟨_,rfl,κ,1,1,rfl,Zcy,λY z1 S9 n9=>?_⟩;have B9:=B8.same S9;have b3:ixN (R.set J<|V.ref m).length ((J:Nat):Int)=some J:=by rw[We];exact ix
 refine ⟨_,rfl,_,rfl,bd,_,_,_,rfl,rfl,SqL.of B9.h,Zaq a9,_,rfl,bI,_,_,_,rfl,rfl,S9 _ _ b0,b3,?_⟩;have Ba:=B9.put hbI (S9 _ _ b0) (ZcE (B9.ls L) n9) hJ;generalize upd Y bI (.lst<|(R.set J<|V.ref m).set J z1)=Ha at *;rw[show (λi j=>if i=I/\j=J then num κ 1 else if i=I/\j=J then Zex κ (pl (a I J)++[0]) else pv κ (a i j))=λi j=>if i=I/\j=J then num κ 1 else pv κ (a i j) from funext λi=>funext λj=>by
  by_cases z:i=I/\j=J
  ·rw[if_pos z,if_pos z]
  ·rw[if_neg z,if_neg z,if_neg z]] at Ba
 obtain ⟨a0,g1,g2⟩:=tF Ba (.bad 1) (Q':=λp=>p = .bl false) rfl;refine ⟨_,rfl,_,rfl,⟨O,a0,L.same Ba.S,g1,d.mo _ _ _ (λp e v Hc Sc rc=>?_) g2⟩⟩;subst e;rw[Zc2 rc];have Sz:=Zat Ba.S Sc;refine ⟨_,_,rfl,rfl,_,rfl,ZeT ?_⟩;refine ⟨O,[some<|.val<|.kp κ,some<|.val<|.int κ.P,some<|.val<|ptb κ n n a,none,some<|.val<|.int (n:Int),none,none,none,none,none],SR.vals L Sz rfl ?_,?_⟩
 ·intro i s e
  match i,e with
  |0,e=>cases e;exact ⟨_,_,rfl,rfl,r0.h Sz⟩
  |1,e=>cases e;exact ⟨_,_,rfl,rfl,Zb6⟩
  |2,e=>cases e;exact ⟨_,_,rfl,rfl,r2.h Sz⟩
  |4,e=>cases e;exact ⟨_,_,rfl,rfl,Zb6⟩
  |5,e=>cases e
  |6,e=>cases e
  |7,e=>cases e
  |8,e=>cases e
  |9,e=>cases e
  |i+10,e=>cases e
 refine ⟨⋯,⋯,?_⟩;rw[Qa];refine ZcY (g:=λj => .lst<|prow κ n λi=>a i j) ⋯ (λj hj C k=>?_) ?_
 ·exact Zbu (g:=λi=>pv κ<|a i j) ⋯ (λi hi C k=>⟨_,Zaq<|ZaZ hj,k⟩) k
 refine S_qtu.mk n1 ⋯ ⋯<|S_lsame.mk (λi j hi hj=>ha j i hj hi) ?_;refine S_lmake.mk (κ:=κ) 1 Zcy ⟨by show 1<=1000;decide,?_⟩;have e1:PV.lst [num κ 1]=pv κ (1:Sr κ):=(ZjC (κ:=κ) (x:=1) λz=>Fd.zne z.symm).symm;show S_qu [.kp κ,.int (n:Int)] λp=>S_ldiag [.int κ.P,.int (n:Int),.lst [num κ 1]] λp'=>S_lsame [.int κ.P,p,p'] _;rw[e1];refine S_qu.mk ⋯<|S_ldiag.mk ⋯ ZjA ∅ ?_;rw[show u1 κ=λi j=>if i=j then 1 else 0 from funext λi=>funext λj=>by
  show (if j=i then _ else _)=_
  by_cases z:i=j
  ·rw[if_pos z,if_pos z.symm]
  ·rw[if_neg z,if_neg<|Ne.symm z]]
 refine S_lsame.mk (c:=0) (e:=0) (λi j hi hj=>?_) q
 split
 ·exact ZjA
 ·exact PS.zero
inductive S_lsums:ZF
 |mk {Q:PK'} {κ:KX} {n:Nat} {a b:Nat->Nat->Sr κ} (n1:1<=n) (n3:n<=3) (ha:∀i j,i<n->j<n->PS κ 1 1 (a i j)) (hb:∀i j,i<n->j<n->PS κ 1 1 (b i j)) (q:Q (.bl true)):S_lsums [.kp κ,.int κ.P,ptb κ n n a,ptb κ n n b] Q
theorem sc_l_sums:FnScope ["_law_polys","_law_prime_here","_law_table","_law_other","_law_f","_law_due","_law_row"] ["_law_polys","_law_prime_here","_law_table","_law_other"] (Zab Zgw):=‹2›
theorem z_lsums(h:Here K mg "_law_sums" Zgw) (d:Fn P w K mg base Z "_law_same" 9 S_lsame) (o:Fn P w K mg base Z "plus_table" 9 S_qpt) (s:Fn P w K mg base Z "_law_sum" 9 S_lsum) (m:Fn P w K mg base Z "times_table" 9 S_qtt) (p:Fn P w K mg base Z "_law_product" 9 S_lprod) (l:Fn P w K mg base Z "_law_poly_times" 9 S_lpt) (r:Fn P w K mg base Z "scaled" 9 S_qsc):Fn P w K mg base Z "_law_sums" 10 S_lsums:=by
 have E:=sc_l_sums.nd;refine Za2 h (λ_ _ F=>F.b4 λ_ _ _ _ _ _ _ _ _ _=>rfl) sc_l_sums (λR A B f ⟨H,M,L,I,q⟩=>⟨H,M,L,I,f _ q⟩) (λ_ _ ⟨_,_,_,_,_⟩=>rfl) (λ_ _ _ _ _ _ _ S =>
  (Zaf (Zci (Zc7<|ZgK<|Zak d<|qa3 (qv 1) (Zak o<|qa3 (qv 0) (qv 2)<|qv 3)<|Zak s<|qa3 (qv 1) (qv 2)<|qv 3) (Zai<|Zau ZhQ) Zbo)
  (Zaf (Zci (Zc7<|ZgK<|Zak d<|qa3 (qv 1) (Zak m<|qa3 (qv 0) (qv 2)<|qv 3)<|Zak p<|qa3 (qv 1) (qv 2)<|qv 3) (Zai<|Zau ZhQ) Zbo)
  (Zaf (ZaC 4 E<|Zcg (Zcg (qv 2) ZaA) ZaA)
  (Zaf (Zch 5 E<|Zb8 ZbB)
  (Zaf (ZbC [6] (Zec<|qv 2) (Zg6 6 E)<|Zai<|Zc3 5<|QL.toE<|Zei "_law_one" [(1,"_law_prime_here"),(4,"_law_f")] (Zec<|qv 6) (by exact λ_ _ _ _=>(Zak l<|qa3 (qv 1) (qv 2)<|qv 0)))
  (Zai<|ZbZ 5<|Zau<|Zak d<|qa3 (qv 1) (Zak r<|qa3 (qv 0) (qv 4)<|qv 2)<|qv 5))))))) ∅ ?_
 rintro _ Q ⟨D,O,t,y,q⟩
 rename_i x n a b
 refine S_qpt.mk D ⋯ ⋯ t y ∅ ∅<|S_lsum.mk ⋯ t y ∅ ∅ ?_;refine S_lsame.mk (λi j u v=>(t i j u v).add<|y i j u v) ?_;refine S_qtt.mk D ⋯ D ⋯ ⋯ t y ∅ ∅<|S_lprod.mk ⋯ t y ∅ ∅ ?_;rw[show (λi j=>Rg.Sg (λk=>b k j*a i k) n)=λi j=>Rg.Sg (λk=>a i k*b k j) n from funext λi=>funext λj=>congrArg (Rg.Sg · n) (funext λk=>by grind)];refine S_lsame.mk (c:=3+n) (e:=2) (λi j u v=>PS.sum n λk G=>((t i k u G).mul (y k j G v) ∅ ∅).up ⋯ ⋯) ?_;refine ⟨_,Zaq (j:=0)<|ZaZ (show 0<n by omega),_,Zaq (j:=0)<|ZaZ (show 0<n by omega),by show 0<=1000;decide,?_⟩;have z:=t 0 0 ⋯ ⋯;refine ⟨λi N=>i<=n/\N=[some<|.val<|.kp x,some<|.val<|.int x.P,some<|.val<|ptb x n n a,some<|.val<|ptb x n n b,some<|.val<|pv x<|a 0 0,some<|.own<|prs x i n λi j=>a 0 0*a i j,none],⟨Q6 _,rfl⟩,?_,?_⟩
 ·rintro i _ _ J ⟨_,rfl⟩;obtain ⟨u,rfl⟩:=rget J;refine Zbu (g:=λj=>pv x<|a 0 0*a i j) ⋯ (λj v C k=>S_lpt.mk z (t i j u v) ∅ ∅ ∅ k) ?_;refine ⟨by rw[Zap];omega,u,?_⟩;rw[Zeg]
 ·rintro _ ⟨_,rfl⟩;rw[Zap];refine S_qsc.mk ⋯ ⋯ z t ∅ ∅ ∅ ∅ ?_;exact S_lsame.mk (λi j u v=>z.mul (t i j u v) ∅ ∅) q
theorem Zmt{n:Nat}{f:Nat->Bool}{c:PV->(Bool->Prop)->Prop}{z:PV->PK'->Prop}{A:List PV->Prop}(g:n<=1000)(h:∀i:Nat,i<n->∀C:Bool->Prop,C (f i)->c (.int (i:Int)) C)(j:∀i:Nat,i<n->∀C:PK',C (.int (i:Int))->z (.int (i:Int)) C)(q:A (iL<|(List.range n).filter f)):CompT (ZhR 0 n) c z A :=
 ⟨λi r=>r=iL ((List.range i).filter f),by rw[ZaE];exact g,rfl,λi p r d a=>by
  obtain ⟨b,rfl⟩:=ZaN d;rw[Qo];subst a;refine h i b _ ?_;have e:(List.range<|i+1).filter f=(List.range i).filter f++[i].filter f:=by rw[Wz,List.filter_append]
  cases ef:f i with
  |true =>
   refine j i b _ ?_;rw[e,List.filter_cons_of_pos ef,List.filter_nil];exact (Qw (f:=λx:Nat=>PV.int (x:Int)) (l₁:=(List.range i).filter f) (l₂:=[i])).symm
  |false =>
   show _=_;rw[e,List.filter_cons_of_neg (by rw[ef];decide),List.filter_nil,Wq],λr a=>by
  rw[ZaE] at a;subst a;exact q⟩
theorem Zop{n:Nat}{f:Nat->Bool}(j:Nat)(h:j<((List.range n).filter f).length):((List.range n).filter f).getD j 0<n:=by
 rw[Q3,Q7 h];exact W3.mp (Wm.mp<|Wl h).1
theorem Zg1{n:Nat}{f:Nat->Bool}(h:∀k,k<n->f k=true):((List.range n).filter f).length=n:=by
 rw[List.filter_eq_self.mpr λk m=>h k<|W3.mp m,Q9]
theorem ZiR{r:Int}{f:Nat->Bool}(a:∀k:Nat,f k=!decide ((k:Int)=r)):∀ {n:Nat},0<=r->r<n->((List.range n).filter f).length=n-1
 |0,_,h=>absurd h ⋯
 |n+1,h0,h=>by
  rw[Wz,List.filter_append,Qc]
  by_cases z:(n:Int)=r
  ·rw[Zg1 λk b=>by rw[a,decide_eq_false ⋯];rfl,List.filter_cons_of_neg (by rw[a,decide_eq_true z];decide)];rfl
  ·rw[ZiR a h0 ⋯,List.filter_cons_of_pos (by rw[a,decide_eq_false z];rfl)];show n-1+1=_;omega
theorem ZhL{κ:KX}{n m:Nat}{a b:Nat->Nat->Sr κ}(h:∀i j,i<n->j<m->a i j=b i j):ptb κ n m a=ptb κ n m b :=
 congrArg PV.lst (U4 λi c=>congrArg PV.lst (U4 λj d=>by rw[h i j (W3.mp c)<|W3.mp d]))
theorem Zoq{κ:KX}{n:Nat}{a:Nat->Nat->Sr κ}(n2:n<=2)(g:∀i j,i<n+1->j<n+1->PS κ 1 1 (a i j)){i j:Nat}:PS κ 10 2 (Rg.cofN n a i j):=by
 unfold Rg.cofN;rw[<-ZeA];have d:PS κ (gz 1 n) (n*1) (Rg.mnr n a j i):=ZeL ∅ ∅ n ⋯ λp q f b=>g _ _ (Rg.skB f)<|Rg.skB b;refine PS.up (PS.mul (c:=0) (e:=0) (PS.con (ZdW<|i+j) (by split <;> decide)) d ⋯ ⋯) ?_ ⋯;rcases (show n=0\/n=1\/n=2 by omega) with rfl|rfl|rfl <;> decide
inductive S_ldets:ZF
 |mk {Q:PK'} {κ:KX} {m:Nat} {a:Nat->Nat->Sr κ} {c:Int} (m2:m<=2) (ha:∀i j,i<m+1->j<m+1->PS κ 1 1 (a i j)) (q:Q (.bl true)):S_ldets [.kp κ,.int κ.P,ptb κ (m+1) (m+1) a,.int c] Q
theorem sc_l_dets:FnScope ["_law_polys","_law_prime_here","_law_table","_law_cell","_law_size","_law_due","_law_found","_law_other","_law_rows","_law_columns"] ["_law_polys","_law_prime_here","_law_table","_law_cell"] (Zab Zgx):=‹2›
theorem z_ldets(h:Here K mg "_law_dets" Zgx) (T:Nm mg) (t:Fn P w K mg base Z "_law_det" 12 (S_ldet 4)) (s:Fn P w K mg base Z "by_minors" 12 S_bm) (u:Fn P w K mg base Z "without" 12 S_wo) (l:Fn P w K mg base Z "_law_is_poly" 12 S_lip) (r:Fn P w K mg base Z "cofactors" 12 S_cf) (o:Fn P w K mg base Z "_law_same" 12 S_lsame) (d:Fn P w K mg base Z "_law_product" 12 S_lprod) (b:Fn P w K mg base Z "_law_diagonal" 12 S_ldiag) (G:Fn P w K mg base Z "minor" 12 S_mi):Fn P w K mg base Z "_law_dets" 13 S_ldets:=by
 have H:=sc_l_dets.nd;refine Za2 h (λ_ _ F=>F.b4 λ_ _ _ _ _ _ _ _ _ _=>rfl) sc_l_dets (λps A B f ⟨a1,a2,q⟩=>⟨a1,a2,f _ q⟩) (λ_ _ ⟨_,_,_⟩=>rfl) (λ_ _ _ _ _ _ _ Y =>
  (Zaf (ZaC 4 H<|ZaT T.len<|qv 2)
  (Zaf (ZaC 5 H<|Zak t<|qa2 (qv 1)<|qv 2)
  (Zaf (ZbC [6] (Zec<|QL.toE<|Zb8<|qa2 (Zak s<|qa2 (qv 0)<|qv 2)<|Zak u<|qa2 (qv 0)<|qv 2) (Zg6 6 H)<|Zai<|Zci (QW.t<|Zm8 (Zc7<|ZgK<|Zak l<|qa2 (qv 1)<|qv 6)<|ZgL<|Zfv (ZnT Y) ZtW (qv 6)<|qv 5) (Zai<|Zau ZhQ) Zbo)
  (Zaf (ZaC 7 H<|Zak r<|qa2 (qv 0)<|qv 2)
  (Zaf (Zci (Zc7<|ZgK<|Zak o<|qa3 (qv 1) (Zak d<|qa3 (qv 1) (qv 2)<|qv 7)<|Zak b<|qa3 (qv 1) (qv 4)<|qv 5) (Zai<|Zau ZhQ) Zbo)
  (Zaf (Zci (Zc7<|ZgK<|Zak o<|qa3 (qv 1) (Zak d<|qa3 (qv 1) (qv 7)<|qv 2)<|Zak b<|qa3 (qv 1) (qv 4)<|qv 5) (Zai<|Zau ZhQ) Zbo)
  (Zaf (ZaC 8 H<|QL.toE<|Zrz "_law_k" [(3,"_law_cell"),(4,"_law_size")] (Zb9 T.range<|qv 4) (by exact λ_ _ _ _=>(QW.t<|Zm8 (Zfv Za6 leq (qv 2) ZaA)<|ZgL<|Zfv Zda lne (qv 0)<|ZcA Zbb lc (ZcA Zcu lc (qv 1) ZaA)<|ZcA ZaO li (qv 2) ZaA)) (by exact λ_ _ _ _=>(qv 0)))
  (Zaf (ZaC 9 H<|QL.toE<|Zrz "_law_k" [(3,"_law_cell"),(4,"_law_size"),(8,"_law_rows")] (Zb9 T.range<|qv 4) (by exact λ_ _ _ _=>(QW.t<|Zm8 (Zfv Za6 leq (ZaT T.len<|qv 3)<|qv 2)<|ZgL<|Zfv Zda lne (qv 0)<|ZcA Zbb lc (ZcA Zcu lc (qv 1) ZaA)<|qv 2)) (by exact λ_ _ _ _=>(qv 0)))
  (Zaf (ZaC 6 H<|Zak G<|qa4 (qv 0) (qv 2) (QL.toE<|Zjm T.list<|qv 8)<|QL.toE<|Zjm T.list<|qv 9)
  (Zaf (ZaC 5 H<|Zak t<|qa2 (qv 1)<|QL.toE<|ZsO "_law_i" [(2,"_law_table"),(9,"_law_columns")] (Zec<|qv 8) (by exact λ_ _ _ _=>(QL.toE<|Zei "_law_j" [(0,"_law_i"),(1,"_law_table")] (Zec<|qv 2) (by exact λ_ _ _ _=>(Zcg (Zcg (qv 2)<|qv 1)<|qv 0)))))
  (Zai<|Zau<|Zmr (Zak l<|qa2 (qv 1)<|qv 6)<|Znz<|Zhy (ZnS Y) ZtV (qv 6)<|qv 5)))))))))))) ∅ ?_
 rintro _ Q ⟨W,D,q⟩
 rename_i x m a c
 have ln:(prs x (m+1) (m+1) a).length=m+1:=Zap;have gk:∀k,k<=3->gz 1 k<=20:=λk L=>by rcases (show k=0\/k=1\/k=2\/k=3 by omega) with rfl|rfl|rfl|rfl <;> decide
 have N:PS x (gz 1<|m+1) ((m+1)*1) (Rg.det (m+1) a):=ZeL ∅ ∅ (m+1) ⋯ D;have g1:=gk (m+1) ⋯;refine S_ldet.mk (e:=1) ⋯ D ∅ ?_;refine S_bm.mk (e:=1) ⋯ ⋯ D ∅<|S_wo.mk (e:=1) ⋯ ⋯ D ∅ ⟨by show 2<=1000;decide,?_⟩;refine ⟨λi ρ=>ρ=[some<|.val<|.kp x,some<|.val<|.int x.P,some<|.val<|ptb x (m+1) (m+1) a,some<|.val<|.int c,some<|.val<|.int ((m+1:Nat):Int),some<|.val<|pv x<|Rg.det (m+1) a,none,none,none,none],by
  show [_,_,_,_,some<|Sl.val<|.int ((prs x (m+1) (m+1) a).length:Int),_,_,_,_,_]=_;rw[ln],?_,?_⟩
 ·rintro i p _ R rfl;have:p=pv x (Rg.det (m+1) a):=by
   rcases i with _|_|i
   ·cases R;rfl
   ·cases R;rfl
   ·cases R
  subst this;exact S_lip.mk N<|EqTP.mk rfl
 ·rintro _ rfl;refine S_cf.mk (e:=1) ⋯ D ∅ ?_;refine S_lprod.mk (c:=1) (e:=1) ⋯ D (λi j _ _=>Zoq W D) ∅ ∅ ?_;refine S_ldiag.mk ⋯ N ⋯ ?_;rw[ZhL λi j M J=>Rg.cof_right (a:=a) (show i<=m by omega) (show j<=m by omega)];have ds:∀i j:Nat,PS x (gz 1<|m+1) ((m+1)*1) (if i=j then Rg.det (m+1) a else 0):=λi j=>by
   split
   ·exact N
   ·exact PS.zero
  refine S_lsame.mk (λi j _ _=>ds i j) ?_;refine S_lprod.mk (c:=10) (e:=2) ⋯ (λi j _ _=>Zoq W D) D ∅ ∅ ?_;refine S_ldiag.mk ⋯ N ⋯ ?_;rw[ZhL λi j M J=>Rg.cof_left (a:=a) (show i<=m by omega) (show j<=m by omega)];refine S_lsame.mk (λi j _ _=>ds i j) ?_;refine ⟨⋯,⋯,?_⟩;rw[Qa];refine Zmt (f:=λk=>decide (((m+1:Nat):Int)=1)||!decide ((k:Int)=c/27%(((m+1:Nat):Int)+1))) ⋯ (λk L C v=>?_) (λk L C v=>v) ?_
  ·refine br (λz=>?_) λz=>?_
   ·rw[decide_eq_true z,Us] at v;exact v
   ·rw[decide_eq_false z,Ut] at v;exact ⟨⟨∅,∅⟩,by show (0:Int)<_;omega,v⟩
  have f1:∀k:Nat,¬((m+1:Nat):Int)=1->(λk:Nat=>decide (((m+1:Nat):Int)=1)||!decide ((k:Int)=c/27%(((m+1:Nat):Int)+1))) k=!decide ((k:Int)=c/27%(((m+1:Nat):Int)+1)):=λk z=>by
   show (decide _||_)=_;rw[decide_eq_false z,Ut]
  have f0:((m+1:Nat):Int)=1->∀k:Nat,(λk:Nat=>decide (((m+1:Nat):Int)=1)||!decide ((k:Int)=c/27%(((m+1:Nat):Int)+1))) k=true:=λz k=>by
   show (decide _||_)=_;rw[decide_eq_true z,Us]
  generalize (λk:Nat=>decide (((m+1:Nat):Int)=1)||!decide ((k:Int)=c/27%(((m+1:Nat):Int)+1)))=f at *;have lr:((List.range<|m+1).filter f).length=m+1\/(2<=m+1/\((List.range<|m+1).filter f).length=m):=by
   by_cases z:((m+1:Nat):Int)=1
   ·exact .inl (Zg1 λk _=>f0 z k)
   ·have O:=Wg (c/27) (show ((m+1:Nat):Int)+1≠0 by omega);have r1:=Ws (c/27) (show (0:Int)<((m+1:Nat):Int)+1 by omega)
    by_cases y:c/27%(((m+1:Nat):Int)+1)=((m+1:Nat):Int)
    ·exact .inl (Zg1 λk L=>by rw[f1 k z,decide_eq_false ⋯];rfl)
    ·exact .inr ⟨⋯,by rw[ZiR (λk=>f1 k z) O ⋯];rfl⟩
  have S:=Zop (n:=m+1) (f:=f);generalize (List.range<|m+1).filter f=E at *;refine ⟨⋯,⋯,?_⟩;rw[Qa];have li:(iL E).length=E.length:=Q0 _;refine Zmt (f:=λk=>decide (((iL E).length:Int)=((m+1:Nat):Int))||!decide ((k:Int)=c/108%((m+1:Nat):Int))) ⋯ (λk L C v=>?_) (λk L C v=>v) ?_
  ·refine br (λz=>?_) λz=>?_
   ·rw[decide_eq_true z,Us] at v;exact v
   ·rw[decide_eq_false z,Ut] at v;exact ⟨⟨∅,∅⟩,by show (0:Int)<_;omega,v⟩
  have lc:((List.range<|m+1).filter λk:Nat=>decide (((iL E).length:Int)=((m+1:Nat):Int))||!decide ((k:Int)=c/108%((m+1:Nat):Int))).length=E.length:=by
   by_cases z:((iL E).length:Int)=((m+1:Nat):Int)
   ·rw[Zg1 λk _=>by rw[decide_eq_true z,Us]];omega
   ·have O:=Wg (c/108) (show ((m+1:Nat):Int)≠0 by omega);have r1:=Ws (c/108) (show (0:Int)<((m+1:Nat):Int) by omega);rw[ZiR (λk=>by rw[decide_eq_false z,Ut]) O r1];omega
  have U:=Zop (n:=m+1) (f:=λk:Nat=>decide (((iL E).length:Int)=((m+1:Nat):Int))||!decide ((k:Int)=c/108%((m+1:Nat):Int)));generalize ((List.range<|m+1).filter λk:Nat=>decide (((iL E).length:Int)=((m+1:Nat):Int))||!decide ((k:Int)=c/108%((m+1:Nat):Int)))=I at *;refine S_mi.mk (e:=1) ⋯ ⋯ ⋯ lc.symm (λj J=>S j ⋯) U D ∅ ?_;have db:∀i j,i<I.length->j<I.length->PS x 1 1 (a (E.getD i 0)<|I.getD j 0):=λi j M J=>D _ _ (S i ⋯)<|U j J;refine ZgX (g:=λi => .lst<|prow x I.length λj=>a (E.getD i 0)<|I.getD j 0) ⋯ (λi M C k=>?_) ?_
  ·exact ZgX (g:=λj=>pv x<|a (E.getD i 0)<|I.getD j 0) ⋯ (λj J C k=>⟨_,Zaq<|ZaZ<|S i M,_,Zaq<|ZaZ<|U j J,k⟩) k
  rw[<-lc];refine S_ldet.mk (e:=1) ⋯ db ∅ ?_;exact S_lip.mk (ZeL ∅ ∅ I.length ⋯ db)<|EqTP.mk q
end Zp
namespace My
open PySem L2 PyProof.Rows
section
variable{P:Program}{w:World}{K:ZZfg}{mg:ZZmg}{base:Heap}{CE cK cN cF cT cI cX cM cR:Addr}
theorem ZfF{X:Cx}{a:List Stmt}:PSs X a λ_ _ _=>False:=by
 intro _ _ _ _ _ _ h;exact h.elim
def ZrM(H:Hp)(v:V):Prop:=∃(a b:Addr) (d c:List V),v = .ref a/\H a=some (.lst (.ref b::d))/\H b=some (.lst c)/\d.length+1≠c.length
theorem Zg2(h:Here K mg "is_square" Zcf) (T:Nm mg):Has P w K mg base "is_square" 1 ["table"] λvs H Q _=>∃v,vs=[v]/\ZrM H v/\Q (.bl false) H:=by
 refine h.has (λ_ _ F=>F.b1 λ_ _ _ _ _ _ _=>rfl) λf l F=>F.ok Zp.sc_is_square (λvs H Q E h=>?_)<|λg A c s H vs Q E m h=>?_
 ·obtain ⟨_,rfl,_⟩:=h
  rfl
 obtain ⟨_,rfl,⟨a,b,e,i,rfl,d,j,n⟩,k⟩:=h;refine ⟨_,(Zag<|Zar<|ZbD Za6 (Zan Zas (by rfl) T.len boot_len<|Zaa (pv 0) Zae) (Zan Zas (by rfl) T.len boot_len<|Zaa (ZaF Za9 (pv 0) Zac<|λ_ _=>rfl) Zae)<|Zay _),?_⟩;refine ⟨_,rfl,a,_,rfl,.inl<|SqL.of d,_,rfl,a,_,0,_,rfl,rfl,SqL.of d,(by unfold atI ixN;rw[if_pos ∅,if_pos (by rw[W7];omega)];rfl),b,_,rfl,.inl<|SqL.of j,rfl,?_⟩;show Q (V.bl<|decide<|V.int ((e.length+1:Nat):Int)=V.int (i.length:Int)) H;rw[decide_eq_false λz=>n (by injection z;omega)];exact k
def ZjF(cF:Addr):Sp:=λa H _ E=>∃v,a=[v]/\ZrM H v/\E (.ref cF) none H
def Zf7(cF:Addr):Sp:=λa H _ E=>∃u v,a=[u,v]/\ZrM H v/\E (.ref cF) none H
theorem ZfG(h:Here K mg "need_square" Zb3) (T:Nm mg) (b:ExcC K mg "NoFit" cF) (c:Here K mg "is_square" Zcf):HasX P w K mg base "need_square" 2 ["table"] (ZjF cF):=by
 have a:=Zg2 (P:=P) (w:=w) (base:=base) c T;refine h.hasX (λ_ _ F=>F.b1 λ_ _ _ _ _ _ _=>rfl) λf j F=>F.okx Zp.sc_need_square (λe H Q E h=>?_)<|λg A d s H e Q E i h=>?_
 ·obtain ⟨_,rfl,_⟩:=h
  rfl
 obtain ⟨v,rfl,n,k⟩:=h;exact ⟨_,(Zag<|Za1 (ZcB<|Zbv<|ZaI a i (by rfl)<|Zaa (pv 0) Zae) (Zag<|Zdy b ZfY rfl (by rfl)<|Zaa ZcZ Zae) ZaB),_,rfl,v,rfl,n,_,rfl,ZkW ⟨(by show 1<=1000;decide),k⟩⟩
theorem Zg3(h:Here K mg "by_minors" ZcL) (a:HasX P w K mg base "need_square" 2 ["table"] (ZjF cF)):HasX P w K mg base "by_minors" 3 ["kind","table"] (Zf7 cF):=by
 refine h.hasX (λ_ _ F=>F.b2 λ_ _ _ _ _ _ _ _=>rfl) λf g F=>F.okx Zp.sc_by_minors (λc H Q E h=>?_)<|λd A b s H c Q E e h=>?_
 ·obtain ⟨_,_,rfl,_⟩:=h
  rfl
 obtain ⟨u,v,rfl,n,k⟩:=h;exact ⟨_,Zad (Zcc<|Zbs a ZoQ e (by rfl)<|Zaa (pv 1) Zae) ZfF,_,rfl,_,rfl,n,k⟩
theorem ZiS(h:Here K mg "without" Zd5) (a:HasX P w K mg base "need_square" 2 ["table"] (ZjF cF)):HasX P w K mg base "without" 3 ["kind","table"] (Zf7 cF):=by
 refine h.hasX (λ_ _ F=>F.b2 λ_ _ _ _ _ _ _ _=>rfl) λf g F=>F.okx Zp.sc_without (λc H Q E h=>?_)<|λd A b s H c Q E e h=>?_
 ·obtain ⟨_,_,rfl,_⟩:=h
  rfl
 obtain ⟨u,v,rfl,n,k⟩:=h;exact ⟨_,Zad (Zcc<|Zbs a ZoQ e (by rfl)<|Zaa (pv 1) Zae) ZfF,_,rfl,_,rfl,n,k⟩
theorem Zg4(h:Here K mg "cofactors" ZcM) (a:HasX P w K mg base "need_square" 2 ["table"] (ZjF cF)):HasX P w K mg base "cofactors" 3 ["kind","table"] (Zf7 cF):=by
 refine h.hasX (λ_ _ F=>F.b2 λ_ _ _ _ _ _ _ _=>rfl) λf g F=>F.okx Zp.sc_cofactors (λc H Q E h=>?_)<|λd A b s H c Q E e h=>?_
 ·obtain ⟨_,_,rfl,_⟩:=h
  rfl
 obtain ⟨u,v,rfl,n,k⟩:=h;exact ⟨_,Zad (Zcc<|Zbs a ZoQ e (by rfl)<|Zaa (pv 1) Zae) ZfF,_,rfl,_,rfl,n,k⟩
theorem ZrD{G A:Prop}(f:G->A)(g:G):A:=f g
structure NoF (H:Hp) (u v:V):Prop where
 ex:∃(a b c d:Addr) (as bs xs ys:List V),u = .ref a/\H a=some (.lst (.ref b::as))/\H b=some (.lst xs)/\v = .ref c/\H c=some (.lst (.ref d::bs))/\H d=some (.lst ys)/\as.length+1≠xs.length/\as.length≠bs.length/\as.length+1≠ys.length
theorem NoF.sq{H:Hp}{u v:V}(h:NoF H u v):ZrM H u:=let ⟨a,b,c,d,as,bs,xs,ys,e1,e2,e3,e4,e5,e6,n,_⟩:=h.ex;⟨a,b,as,xs,e1,e2,e3,n⟩
def Zor(cF:Addr):Sp:=λa H _ E=>∃p u v,a=[p,u,v]/\NoF H u v/\E (.ref cF) none H
def Zos(cF:Addr):Sp:=λa H _ E=>∃p u v,a=[p,v,u]/\NoF H u v/\E (.ref cF) none H
theorem ZfR(h:Here K mg "plus_table" Zcp) (T:Nm mg) (e:ExcC K mg "NoFit" cF):HasX P w K mg base "plus_table" 3 ["kind","A","B"] (Zor cF):=by
 refine h.hasX (λ_ _ F=>F.b3 λ_ _ _ _ _ _ _ _ _=>rfl) λf D F=>F.okx Zp.sc_plus_table (λj H Q E h=>?_)<|λl A g s H j Q E G h=>?_
 ·obtain ⟨_,_,_,rfl,_⟩:=h
  rfl
 obtain ⟨p,u,v,rfl,⟨a,b,c,d,i,n,x,q,rfl,o,t,rfl,m,C,B,r,y⟩,k⟩:=h;refine ⟨_,Zad (Za1 (ZdD (Zav Zda (Zan Zas (by rfl) T.len boot_len<|Zaa (pv 1) Zae) (Zan Zas (by rfl) T.len boot_len<|Zaa (pv 2) Zae)<|Zay _)<|ZdF<|Zav Zda (Zan Zas (by rfl) T.len boot_len<|Zaa (ZaF Za9 (pv 1) Zac<|λ_ _=>rfl) Zae) (Zan Zas (by rfl) T.len boot_len<|Zaa (ZaF Za9 (pv 2) Zac<|λ_ _=>rfl) Zae)<|Zay _).pt (Zag<|Zdy e ZfY rfl (by rfl)<|Zaa ZcZ Zae) ZaB) ZfF,?_⟩;refine ⟨_,rfl,a,_,rfl,.inl<|SqL.of o,_,rfl,c,_,rfl,.inl<|SqL.of m,rfl,_,rfl,ZeG (λ_=>ZkW ⟨(by show 1<=1000;decide),k⟩) λz=>absurd z ?_⟩;show ¬((i.length+1:Nat):Int)=((n.length+1:Nat):Int);omega
theorem ZfH(h:Here K mg "times_table" Zb4) (T:Nm mg) (e:ExcC K mg "NoFit" cF):HasX P w K mg base "times_table" 3 ["kind","A","B"] (Zos cF):=by
 refine h.hasX (λ_ _ F=>F.b3 λ_ _ _ _ _ _ _ _ _=>rfl) λf C F=>F.okx Zp.sc_times_table (λl H Q E h=>?_)<|λm A g s H l Q E G h=>?_
 ·obtain ⟨_,_,_,rfl,_⟩:=h
  rfl
 obtain ⟨p,u,v,rfl,⟨a,b,c,d,i,D,x,j,rfl,q,t,rfl,o,n,B,r,y⟩,k⟩:=h;refine ⟨_,Zad (Za1 (Zav Zda (Zan Zas (by rfl) T.len boot_len<|Zaa (ZaF Za9 (pv 1) Zac<|λ_ _=>rfl) Zae) (Zan Zas (by rfl) T.len boot_len<|Zaa (pv 2) Zae)<|Zay _) (Zag<|Zdy e ZfY rfl (by rfl)<|Zaa ZcZ Zae) ZaB) ZfF,?_⟩;refine ⟨_,rfl,c,_,0,_,rfl,rfl,SqL.of o,(by unfold atI ixN;rw[if_pos ∅,if_pos (by rw[W7];omega)];rfl),d,_,rfl,.inl<|SqL.of n,_,rfl,a,_,rfl,.inl<|SqL.of q,rfl,_,rfl,ZeG (λ_=>⟨(by show 1<=1000;decide),k⟩) λz=>absurd z ?_⟩;show ¬(j.length:Int)=((i.length+1:Nat):Int);omega
inductive Zg5 (vs:List V) (H:Hp) (Q:VK) (zE:XK):Prop
 |mk (x:Str) (p u v:V) (_:vs=[.str x,p,u,v]) (_:(x ="minors" \/ x ="without" \/ x ="cofactors" \/ x ="plus" \/ x ="times")) (_:NoF H u v) (_:∀H',Same H H'->Q (.bl true) H'):Zg5 vs H Q zE
theorem sc_l_refused:FnScope ["_law_word","_law_polys","_law_one","_law_other","_law_got","e"] ["_law_word","_law_polys","_law_one","_law_other"] (Zab ZdR):=‹2›
theorem ZfS(h:Here K mg "_law_refused" ZdR) (T:Nm mg) (R:Rf K mg CE cK cN cF cT cI cX cM cR) (Z:Rz K mg "NoFit" CE cF [cK,cN,cT,cI,cX,cM,cR]) (g:HasX P w K mg base "by_minors" 3 ["kind","table"] (Zf7 cF)) (j:HasX P w K mg base "without" 3 ["kind","table"] (Zf7 cF)) (d:HasX P w K mg base "cofactors" 3 ["kind","table"] (Zf7 cF)) (c:HasX P w K mg base "plus_table" 3 ["kind","A","B"] (Zor cF)) (b:HasX P w K mg base "times_table" 3 ["kind","A","B"] (Zos cF)):Has P w K mg base "_law_refused" 4 ["_law_word","_law_polys","_law_one","_law_other"] Zg5:=by
 refine h.has (λ_ _ F=>F.b4 λ_ _ _ _ _ _ _ _ _ _=>rfl) λf fd F=>F.ok sc_l_refused (λvs H Q E h=>?_)<|λa0 A t s H vs Q E r h=>?_
 ·obtain ⟨_,_,_,_,rfl,_⟩:=h
  rfl
 obtain ⟨x,p,u,v,rfl,l,n,k⟩:=h;have B:=sc_l_refused.nd;refine ⟨_,(Zad (ZaG (i:=4) B rfl (Or.inl rfl) Zp5)
  (Zad (Zqs R.cat B (i:=5) rfl rfl (by rfl) (by exact λE pn Y q=>(Zad (Za1 (Zav Za6 (pv 0) ZcZ<|Zay _) (Zag<|Zcc<|Zbs g q r (by rfl)<|Zaa (pv 1)<|Zaa (pv 2) Zae) ZaB)
   (Zad (Za1 (Zav Za6 (pv 0) ZcZ<|Zay _) (Zag<|Zcc<|Zbs j q r (by rfl)<|Zaa (pv 1)<|Zaa (pv 2) Zae) ZaB)
   (Zad (Za1 (Zav Za6 (pv 0) ZcZ<|Zay _) (Zag<|Zcc<|Zbs d q r (by rfl)<|Zaa (pv 1)<|Zaa (pv 2) Zae) ZaB)
   (Zad (Za1 (Zav Za6 (pv 0) ZcZ<|Zay _) (Zag<|Zcc<|Zbs c q r (by rfl)<|Zaa (pv 1)<|Zaa (pv 2)<|Zaa (pv 3) Zae) ZaB)
   (Zag<|Za1 (Zav Za6 (pv 0) ZcZ<|Zay _) (Zag<|Zcc<|Zbs b q r (by rfl)<|Zaa (pv 1)<|Zaa (pv 3)<|Zaa (pv 2) Zae) ZaB)))))) (by exact λe=>(Zag<|ZaG (i:=4) B rfl (Or.inl rfl)<|pv 5)))
  (Zad (Za1 (ZdD (Zbv<|Zan ZaK (by rfl) T.isinstance boot_isinstance<|Zaa (pv 4)<|Zaa (Zct (v:=.ref cK) (by rfl) R.k.m rfl) Zae)<|ZdD (Zbv<|Zan ZaK (by rfl) T.isinstance boot_isinstance<|Zaa (pv 4)<|Zaa (Zct (v:=.ref cN) (by rfl) R.n.m rfl) Zae)<|ZdD (Zbv<|Zan ZaK (by rfl) T.isinstance boot_isinstance<|Zaa (pv 4)<|Zaa (Zct (v:=.ref cT) (by rfl) R.t.m rfl) Zae)<|ZdF<|Zbv<|Zan ZaK (by rfl) T.isinstance boot_isinstance<|Zaa (pv 4)<|Zaa (Zct (v:=.ref cI) (by rfl) R.i.m rfl) Zae).pt (Zag<|Zar Zc5) ZaB)
  (Zad (Za1 (ZdD (Zbv<|Zan ZaK (by rfl) T.isinstance boot_isinstance<|Zaa (pv 4)<|Zaa (Zct (v:=.ref cX) (by rfl) R.x.m rfl) Zae)<|ZdD (Zbv<|Zan ZaK (by rfl) T.isinstance boot_isinstance<|Zaa (pv 4)<|Zaa (Zct (v:=.ref cM) (by rfl) R.m.m rfl) Zae)<|ZdF<|Zbv<|Zan ZaK (by rfl) T.isinstance boot_isinstance<|Zaa (pv 4)<|Zaa (Zct (v:=.ref cR) (by rfl) R.r.m rfl) Zae).pt (Zag<|Zar Zc5) ZaB)
  (Zag<|Zar<|ZeD (Zan ZaK (by rfl) T.isinstance boot_isinstance<|Zaa (pv 4)<|Zaa (Zct (v:=.ref cF) (by rfl) R.f.m rfl) Zae)<|ZdX<|Zan ZaK (by rfl) T.isinstance boot_isinstance<|Zaa (pv 4)<|Zaa (ZfK (by rfl) R.ve PyProof.Rows.Boot.«ValueError») Zae))))),?_⟩
 obtain ⟨L,W,J,D,N,oM,U,_⟩:=Z.o;intro pn Y
 apply ZrD
 case f =>
  intro m;refine ⟨_,rfl,rfl,_,rfl,ZbR (λz=>⟨_,rfl,_,rfl,_,_,rfl,n.sq,m⟩) λC=>?_⟩;refine ⟨_,rfl,rfl,_,rfl,ZbR (λz=>⟨_,rfl,_,rfl,_,_,rfl,n.sq,m⟩) λM=>?_⟩;refine ⟨_,rfl,rfl,_,rfl,ZbR (λz=>⟨_,rfl,_,rfl,_,_,rfl,n.sq,m⟩) λz3=>?_⟩;refine ⟨_,rfl,rfl,_,rfl,ZbR (λz=>⟨_,rfl,_,rfl,_,rfl,_,_,_,rfl,n,m⟩) λS=>?_⟩;refine ⟨_,rfl,rfl,_,rfl,ZbR (λz=>⟨_,rfl,_,rfl,_,rfl,_,_,_,rfl,n,m⟩) λI=>?_⟩;rcases l with e|e|e|e|e
  ·exact absurd (congrArg V.str e) C
  ·exact absurd (congrArg V.str e) M
  ·exact absurd (congrArg V.str e) z3
  ·exact absurd (congrArg V.str e) S
  ·exact absurd (congrArg V.str e) I
 refine ⟨cF,rfl,Z.e,λe G=>?_⟩;refine ⟨_,rfl,?_⟩;have y:=Zah (H:=H) (a:=e) (o:=ZoR e cF none);have X:=Zal G<|ZoR e cF none;generalize upd H e (ZoR e cF none)=O at *;have l:TyX K O (.ref e) (.ref cF):=.exc y Z.c.cls;refine ⟨_,rfl,_,_,_,_,rfl,l,.ref<|R.k.no L,_,rfl,ZeT ?_⟩;refine ⟨_,rfl,_,_,_,_,rfl,l,.ref<|R.n.no W,_,rfl,ZeT ?_⟩;refine ⟨_,rfl,_,_,_,_,rfl,l,.ref<|R.t.no J,_,rfl,ZeT ?_⟩;refine ⟨_,rfl,_,_,_,_,rfl,l,.ref<|R.i.no D,_,rfl,ZeT ?_⟩;refine ⟨_,rfl,_,_,_,_,rfl,l,.ref<|R.x.no N,_,rfl,ZeT ?_⟩;refine ⟨_,rfl,_,_,_,_,rfl,l,.ref<|R.m.no oM,_,rfl,ZeT ?_⟩;refine ⟨_,rfl,_,_,_,_,rfl,l,.ref<|R.r.no U,_,rfl,ZeT ?_⟩;refine ⟨_,rfl,_,_,_,_,rfl,l,.ref ZmK,_,rfl,ZkW ?_⟩;exact ⟨_,rfl,_,_,_,_,rfl,l,.ty<|Zr4 K Z.v,k _ X⟩
end
inductive Zcs (K:ZZfg) (vs:List V) (H:Hp) (Q:VK) (zE:XK):Prop
 |mk (a:Addr) (cs:List Int) (i:Int) (_:vs=[.ref a,.int i]) (_:SqL K H a (cs.map V.int)) (_:0<=i) (_:∀c:Int,Q (.int c) H):Zcs K vs H Q zE
section
variable{P:Program}{w:World}{K:ZZfg}{mg:ZZmg}{base:Heap}
theorem ZhM:FnScope ["_law_cells","_law_k"] ["_law_cells","_law_k"] (Zab ZdP):=‹2›
theorem ZhN(h:Here K mg "_law_cell_at" ZdP) (T:Nm mg):Has P w K mg base "_law_cell_at" 1 ["_law_cells","_law_k"] (Zcs K):=by
 refine h.has (λ_ _ F=>F.b2 λ_ _ _ _ _ _ _ _=>rfl) λf l F=>F.ok ZhM (λg H Q E h=>?_)<|λj A b s H g Q E n h=>?_
 ·obtain ⟨_,_,_,rfl,_⟩:=h
  rfl
 obtain ⟨a,d,i,rfl,c,m,k⟩:=h;refine ⟨_,(Zad (Za1 (Zav Zg9 (pv 1) (Zan Zas (by rfl) T.len boot_len<|Zaa (pv 0) Zae)<|Zay _) (Zag<|Zar<|ZaF Za9 (pv 0) (pv 1)<|λ_ _=>rfl) ZaB)
  (Zag<|Zar Zac)),?_⟩
 refine ⟨_,rfl,_,rfl,a,_,rfl,.inl c,_,_,rfl,rfl,_,rfl,?_⟩;rw[Q0];refine ZbR (λz=>?_)<|λz=>k 0;have z:i<(d.length:Int):=z;have e:i=((i.toNat:Nat):Int):=⋯;exact ⟨_,rfl,_,rfl,a,_,_,_,rfl,rfl,c,(by rw[e];exact ZqJ (i:=i.toNat) ⋯),k _⟩
end
end My
namespace Zp
open My
open PySem L2 PyProof.Rows
variable{Z:Zc}{X:Cx}{P:Program}{w:World}{K:ZZfg}{mg:ZZmg}{base:Heap}{cF:Addr}
abbrev iZ(c:List Int):PV:=.lst<|c.map .int
inductive S_lca:ZF
 |mk {Q:PK'} {cs:List Int} {i:Int} (i0:0<=i) (q:∀c:Int,Q (.int c)):S_lca [iZ cs,.int i] Q
theorem ZrE{O:ZZla}{H:Hp}{b:List Int}{v:V}(r:Rep Z (hide O H) (iZ b) v):∃a,v = .ref a/\H a=some (.lst<|b.map V.int):=by
 obtain ⟨a,f,rfl,d,r⟩:=rep_lst r;refine ⟨a,rfl,?_⟩;rw[Zao _ _ d,show f=b.map V.int from Uj λi=>by
  have l:=r.len;rw[Q0] at l
  by_cases hi:i<b.length
  ·obtain ⟨u,c,e⟩:=r.get (i:=i) (p:=.int b[i]) (by rw[Q4,Q7 hi];rfl);rw[c,Zax e,Q4,Q7 hi];rfl
  ·rw[Qz ⋯,Qz (by rw[Q0];omega)]]
theorem ZrF{H:Hp}{c:List Int}{a:Addr}(h:H a=some (.lst<|c.map V.int)):Rep Z H (iZ c) (.ref a):=rep_l h (.of (by rw[Q0,Q0]) λi p u d b=>by
 obtain ⟨x,e,rfl⟩:=Zof d;rw[Q4,e] at b
 cases b
 exact Zb6)
theorem ZsP{k:Nat}{ps:List Str}(h:Has P w K mg base "_law_cell_at" k ps (Zcs K)):Fn P w K mg base Z "_law_cell_at" k S_lca :=
 ZeN h.toX (λps A B f ⟨a,q⟩=>⟨a,λc=>f _<|q c⟩) λO H pv i Q E L r s=>by
  obtain ⟨g,q⟩:=s;obtain ⟨u,v,rfl,e,b⟩:=r.two;obtain ⟨a,rfl,d⟩:=ZrE e;rw[Zax b];exact ⟨a,_,_,rfl,SqL.of d,g,λc=>q c _ H ZaW Zb6⟩
inductive S_lrf:ZF
 |mk {Q:PK'} {κ:KX} {x:Str} {n:Nat} {a b:Nat->Nat->Sr κ} (hx:x ="minors" \/ x ="without" \/ x ="cofactors" \/ x ="plus" \/ x ="times") (n1:1<=n) (q:Q (.bl true)):S_lrf [.str x,.kp κ,ptb κ n (n+1) a,ptb κ (n+1) (n+1) b] Q
theorem z_lrf{k:Nat}{ps:List Str}(h:Has P w K mg base "_law_refused" k ps Zg5):Fn P w K mg base Z "_law_refused" k S_lrf :=
 ZeN h.toX (λps A B f ⟨a,b,q⟩=>⟨a,b,f _ q⟩) λO H pv vs Q E L r s=>by
  obtain ⟨M,n1,q⟩:=s
  rename_i j x n a b
  obtain ⟨u,v,t,y,rfl,D,rv,Y,ry⟩:=r.four;unfold Rep at D;subst D;have F:∀ {m:Nat} {a:Nat->Nat->Sr j} {v:V},Rep Z (hide O H) (ptb j (m+1) (n+1) a) v->∃(p q:Addr) (c d:List V),v = .ref p/\H p=some (.lst (.ref q::c))/\H q=some (.lst d)/\c.length=m/\d.length=n+1:=fun {m a v} r=>by
   obtain ⟨p,W,rfl,e,C⟩:=rep_lst r;have l:=C.len;rw[Zap] at l;obtain ⟨w,g,o⟩:=C.get<|ZaZ (f:=λi=>PV.lst<|prow j (n+1)<|a i) (show 0<m+1 by omega);obtain ⟨q,d,rfl,hq,J⟩:=rep_lst o
   match W,l,g,e with
   |z::c,l,g,e =>
    cases g
    exact ⟨p,q,c,d,rfl,Zao _ _ e,Zao _ _ hq,by rw[W7] at l;omega,by rw[J.len,Zap]⟩
  obtain ⟨m,rfl⟩:∃m,n=m+1:=⟨n-1,⋯⟩;obtain ⟨G,q1,c,d,rfl,h1,N,l1,l2⟩:=F Y;obtain ⟨U,T,bs,I,rfl,h3,h4,l3,l4⟩:=F ry;exact ⟨x,v,_,_,rfl,M,⟨G,q1,U,T,c,bs,d,I,rfl,h1,N,rfl,h3,h4,⋯,⋯,⋯⟩,λR S=>q _ R S Zcz⟩
def Zl(CF CR CP:Addr):Zc:=⟨CF,CR,CP,λ_=>False,λ_ _=>False,λb k m a H d=>DicP b k m a H d,λ_ _ _ _ _ _ _ S h=>h.same S⟩
theorem zdc_l{CF CR CP:Addr}:Zdc (Zl CF CR CP):=λ_ _ _ _ _ _=>Iff.rfl
theorem brJ{D:ZD}{c:Bool}{a b:PSt}(p:PSt->Prop)(e:c=true->p a)(d:c=false->p b)(h:∀ρ,p ρ->D.nx ρ):Br c (D.nx a) (D.nx b):=by
 cases c with
 |true=>exact h _<|e rfl
 |false=>exact h _<|d rfl
def Rw1(κ:KX)(i:Nat)(r:List PV):Prop:=∃f:Nat->Sr κ,(∀j,j<i->PS κ 1 1 (f j))/\r=prow κ i f
theorem Rw1.snoc{κ:KX}{i:Nat}{r:List PV}{s:Sr κ}(h:Rw1 κ i r)(b:PS κ 1 1 s):Rw1 κ (i+1) (r++[pv κ s]):=by
 obtain ⟨f,c,rfl⟩:=h;refine ⟨λj=>if j<i then f j else s,λj a=>?_,?_⟩
 ·show PS κ 1 1 (if j<i then f j else s)
  split
  ·exact c j (by assumption)
  ·exact b
 ·rw[Zef];refine congr (congrArg _<|U4 λj a=>?_) ?_
  ·show pv κ (f j)=pv κ (if j<i then f j else s);rw[if_pos<|W3.mp a]
  ·show [pv κ s]=[pv κ (if i<i then f i else s)];rw[if_neg<|Qf _]
def Tb1(κ:KX)(i n:Nat)(r:List PV):Prop:=∃a:Nat->Nat->Sr κ,(∀k j,k<i->j<n->PS κ 1 1 (a k j))/\r=prs κ i n a
theorem Tb1.snoc{κ:KX}{i n:Nat}{r l:List PV}(h:Tb1 κ i n r)(d:Rw1 κ n l):Tb1 κ (i+1) n (r++[.lst l]):=by
 obtain ⟨a,e,rfl⟩:=h;obtain ⟨f,g,rfl⟩:=d;refine ⟨λk=>if k<i then a k else f,λk j c b=>?_,?_⟩
 ·show PS κ 1 1 ((if k<i then a k else f) j)
  split
  ·exact e k j (by assumption) b
  ·exact g j b
 ·rw[Zeg];refine congr (congrArg _<|U4 λk c=>?_) ?_
  ·show PV.lst (prow κ n<|a k) = .lst (prow κ n (if k<i then a k else f));rw[if_pos<|W3.mp c]
  ·show [PV.lst<|prow κ n f]=[.lst<|prow κ n (if i<i then a i else f)];rw[if_neg<|Qf _]
end Zp
namespace My
open PySem L2 PyProof.Rows
inductive sp_law (K:ZZfg) (vs:List V) (H:Hp) (Q:VK) (zE:XK):Prop
 |mk (a:Addr) (ns:List Int) (_:vs=[.ref a]) (_:SqL K H a (ns.map V.int)) (_:ns.length<=63) (_:∀H',Q (.bl true) H'):sp_law K vs H Q zE
theorem ZnE(b:List Int)(lo c:Option Int):∃a:List Int,Zko (b.map V.int) lo c=a.map V.int/\a.length<=b.length:=by
 unfold Zko;rw[<-List.map_drop,<-List.map_take];exact ⟨_,rfl,by rw[Qi,Qv];omega⟩
theorem ZjG{K:ZZfg}{H b:Hp}{a:Addr}{xs:List V}(h:SqL K H a xs)(S:Same H b):SqL K b a xs:=by
 rcases h with h|h
 ·rcases h with h|⟨o,h⟩
  ·exact .inl (.inl<|S _ _ h)
  ·exact .inl (.inr ⟨o,S _ _ h⟩)
 ·exact .inr h
theorem ZsQ{C G X:Prop}(h:(C->G)->X)(a:C->G):X:=h a
theorem ZrG(x y:Int)(b:Bool):∃m:Int,atI [V.int x,V.int y] (if b=true then 1 else 0)=some (.int m)/\(m=x\/m=y):=by
 cases b
 ·exact ⟨x,rfl,.inl rfl⟩
 ·exact ⟨y,rfl,.inr rfl⟩
theorem Zot(x y:Int)(b:Bool):∃m:Int,atI [Zp.PV.int x,Zp.PV.int y] (if b=true then 1 else 0)=some (.int m)/\(m=x\/m=y):=by
 cases b
 ·exact ⟨x,rfl,.inl rfl⟩
 ·exact ⟨y,rfl,.inr rfl⟩
end My
namespace Zp
open My
open PySem L2 PyProof.Rows
section
variable{P:Program}{w:World}{K:ZZfg}{mg:ZZmg}{base:Heap}{CF CR CP:Addr}
theorem sc_law49:FnScope ["_law_script","_law_prime_here","_law_polys","_law_cells","_law_at","_law_last","_law_cell","_law_size","_law_table","_law_i","_law_places","_law_handed","_law_word"] ["_law_script"] (Zab Zpa):=‹2›
theorem ok_law{f:Addr}{fd:FuncData}(F:Fun K "law" "law" Zpa f fd) (T:Nm mg) (pc:Pc K mg CP) (hI:HasI P w K mg base CP 1 ["self","under"] (ZgS CP)) (u:Has P w K mg base "_law_prime_by" 14 ["_law_cell"] ZcX) (S:Has P w K mg base "_law_kind" 14 ["_law_prime_here"] (ZfD CF CR)) (q:Has P w K mg base "_law_cell_at" 14 ["_law_cells","_law_k"] (Zcs K)) (R:Fn P w K mg base (Zl CF CR CP) "_law_poly" 14 S_lpo) (I:Fn P w K mg base (Zl CF CR CP) "_law_asked" 14 S_lask) (M:Fn P w K mg base (Zl CF CR CP) "_law_sums" 14 S_lsums) (O:Fn P w K mg base (Zl CF CR CP) "_law_dets" 14 S_ldets) (B:Fn P w K mg base (Zl CF CR CP) "_law_refused" 14 S_lrf):FnOk P w K mg base CX0 15 f fd ["_law_script"] (sp_law K):=by
 have J:=ZsP (Z:=Zl CF CR CP) q;refine F.ok sc_law49 (λvs H Q E h=>?_)<|λb0 A a4 s H vs Q E hr h=>?_
 ·obtain ⟨_,_,rfl,_⟩:=h
  rfl
 obtain ⟨a,ns,rfl,hS,hl,k⟩:=h;have D:=sc_law49.nd;refine ⟨_,(Zad (ZaG (i:=1) D rfl (Or.inr rfl)<|ZaI u hr (by rfl)<|Zaa (ZaI q hr (by rfl)<|Zaa (L2.pv 0)<|Zaa Zac Zae) Zae)
  (Zad (ZaG (i:=2) D rfl (Or.inl rfl)<|Zi6 hI (hr.mono ∅) (by rfl) pc.m<|Zaa (ZaI S hr (by rfl)<|Zaa (L2.pv 1) Zae) Zae)
  (Zad (ZaG (i:=3) D rfl (Or.inr rfl)<|ZeS ZhX (L2.pv 0) ZhV<|ZhW<|ZaF Za9 (Zhc<|Zaa Zac<|Zaa Zac Zae) (Zd1 Zha (by rfl) T.int boot_int<|Zaa (ZbD Za6 (L2.pv 1) Zac<|Zay _) Zae)<|λ_ _=>rfl)
  (QSs.ok (Z:=Zl CF CR CP) (Zaf (ZaC 4 D ZaA)
  (Zaf (ZaC 5 D<|QL.toE<|Zb8 ZbB)
  (Zaf (ZgM [6,7,8,9,10,11,12] (QW.t<|Zm8 (Zfv Za6 leq (qv 4) ZaA)<|ZgL<|Zfv Zg9 lb (qv 4)<|ZaT T.len<|qv 3) (Zaf (ZaC 6 D<|Zak J<|qa2 (qv 3)<|qv 4)
   (Zaf (ZaC 7 D<|Zcg (QL.toE<|Zb8<|qa2 (ZcA ZaO li ZaA<|ZcA Zbb lc (qv 6) ZaA)<|ZcA ZaO li ZaA<|ZcA Zbb lc (qv 6) ZaA)<|Zmq T.int<|Zhy Za6 leq (qv 1) ZaA)
   (Zaf (Zch 8 D<|Zb8 ZbB)
   (Zaf (ZbC [9,10] (Zb9 T.range<|qv 7) (Zg6 9 D) (Zaf (ZgR 10 "_law_j" [(4,"_law_at"),(7,"_law_size"),(9,"_law_i")] D (Zb9 T.range<|qv 7) (by exact λ_ _ _ _=>(ZcA ZaO li (ZcA ZaO li (ZcA ZaO li (qv 1) ZaA)<|ZcA ZaH lc (qv 2)<|qv 3)<|qv 0)))
    (Zai<|Zc3 8<|QL.toE<|Zrc "_law_k" [(1,"_law_prime_here"),(3,"_law_cells")] (Zec<|qv 10) (by exact λ_ _ _ _=>(Zak R<|qa3 (qv 1) (Zak J<|qa2 (qv 2)<|qv 0)<|Zcg (QL.toE<|Zb8<|qa2 ZaA ZaA)<|Zmq T.int<|Zhy Za6 leq (qv 1) ZaA)))) (hp:=PassesOwn.never))
   (Zaf (ZaC 4 D<|ZcA ZaO li (ZcA ZaO li (qv 4) ZaA)<|ZcA ZaH lc (qv 7)<|qv 7)
   (Zaf (ZbZ 8<|Zci (Zfv Zda lne (ZaT T.len<|qv 5)<|qv 7) (Zai<|ZaC 5 D<|qv 8) Zbo)
   (Zaf (ZgR 11 "_law_row" [] D (Zec<|qv 8) (by exact λ_ _ _ _=>(QL.toE<|Zei "_law_f" [] (Zec<|qv 0) (by exact λ_ _ _ _=>(QL.toE<|Zjm T.list<|qv 0)))))
   (Zaf (Zci (QW.t<|Zm8 (Zc7<|ZgK<|Zak I<|qa4 (qv 2) (qv 1) (qv 11)<|qv 6)<|ZgL<|Zc7<|ZgK<|Zak M<|qa4 (qv 2) (qv 1) (qv 11)<|qv 5) (Zai<|Zau ZhQ) Zbo)
   (Zaf (Zci (Zc7<|ZgK<|Zak O<|qa4 (qv 2) (qv 1) (qv 11)<|qv 6) (Zai<|Zau ZhQ) Zbo)
   (Zaf (ZbC [12] (Zec<|QL.toE<|Zb8<|Zbt ZlH<|Zbt ZlH<|Zbt ZlH<|Zbt ZlH<|Zbt ZlH ZbB) (Zg6 12 D) (Zai<|Zci (QW.t<|Zpj (Zfv ZfI lb (qv 7) ZaA)<|ZlK<|Zc7<|ZgK<|Zak B<|qa4 (qv 12) (qv 2) (QL.toE<|Zhw (qv 11) (Zft ZaA) ZgJ)<|qv 11) (Zai<|Zau ZhQ) Zbo) (hp:=PassesOwn.never))
   (Zaf (Zci (Zfv (ZnT hr) ZsJ (qv 11)<|qv 8) (Zai<|Zau ZhQ) Zbo)
   (Zai<|ZaC 5 D<|qv 8)))))))))))) (hp:=PassesOwn.never))
  (Zai<|Zau ZhQ)))) H [])))),?_⟩
 refine ⟨_,rfl,a,ns,0,rfl,hS,Int.le_refl _,λc0=>?_⟩;refine ⟨c0,rfl,λH1 pr S1 pk=>?_⟩;refine ⟨_,rfl,pr,rfl,pk,λH2 U S2 a2=>?_⟩;obtain ⟨d,rfl,a1⟩:=ZqK a2;intro x Y nx a0 ne;have a5:upd H2 Y (.own x) x=none:=by rw[Zaj<|Ne.symm ne];exact nx
 refine ⟨x,Y,U,rfl,Zah,rfl,?_⟩;rw[Zou];have S3:=Zat (Zal a0<|.own x)<|Zal a5<|.ins CP Y [("under", .ref U)];have qx:=Zah (H:=upd H2 Y<|.own x) (a:=x) (o:=.ins CP Y [("under", .ref U)]);generalize upd (upd H2 Y<|.own x) x (.ins CP Y [("under", .ref U)])=H3 at *;have a3:=ZjG hS<|Zat S1<|Zat S2 S3;refine ⟨_,rfl,(by show 2<=sizeLine;decide),λl nl=>?_⟩;have Sl:=Zal nl<|.lst [.int 40,.int 14];have ql:=Zah (H:=H3) (a:=l) (o:=.lst [.int 40,.int 14]);generalize upd H3 l (.lst [.int 40,.int 14])=H4 at *;obtain ⟨m,em,_⟩:=ZrG 40 14<|decide<|V.int d.P=V.int 0;refine ⟨_,rfl,rfl,.inr ⟨_,rfl,l,_,_,_,rfl,rfl,SqL.of ql,em,m,rfl,a,_,rfl,ZjG a3 Sl,λca a6=>?_⟩⟩;obtain ⟨W,es,a9⟩:=ZnE ns none<|some m;rw[es];have Sc:=Zal a6<|.lst<|W.map V.int;have qc:=Zah (H:=H4) (a:=ca) (o:=.lst<|W.map V.int);generalize upd H4 ca (.lst<|W.map V.int)=H5 at *;have L:Ls [] H:=λ_ m=>nomatch m;have S5:=Zat Sl Sc;refine ⟨[],[none,some<|.val<|.int d.P,some<|.val<|.kp d,some<|.val<|iZ W,none,none,none,none,none,none,none,none,none],SR.vals L (Zat S1<|Zat S2<|Zat S3 S5) rfl ?_,?_⟩
 ·intro i s e;rw[ZgW]
  match i,e with
  |1,e=>cases e;exact ⟨_,_,rfl,rfl,Zb6⟩
  |2,e =>
   cases e
   refine ⟨_,_,rfl,rfl,?_⟩;unfold Rep;exact ⟨x,Y,U,rfl,S5 _ _ qx,(a1.same S3).same S5,λ_ z=>z.elim,λ_ _ z=>z.elim⟩
  |3,e=>cases e;exact ⟨_,_,rfl,rfl,ZrF qc⟩
  |4,e=>cases e
  |5,e=>cases e
  |6,e=>cases e
  |7,e=>cases e
  |8,e=>cases e
  |9,e=>cases e
  |10,e=>cases e
  |11,e=>cases e
  |12,e=>cases e
  |i+13,e=>cases e
 have kT:∀v H',Same H H'->Rep (Zl CF CR CP) (hide [] H') (.bl true) v->Q v H':=λv H' _ r=>by rw[Zc2 r];exact k H'
 refine ⟨by show 0<=1000;decide,?_⟩;refine ⟨λmm ρ=>∃(t:Int) (G:Nat) (b:Nat->Nat->Sr d),mm=(200-t).toNat/\1<=t/\G<=3/\(∀i j,i<G->j<G->PS d 1 1 (b i j))/\ρ=[none,some<|.val<|.int d.P,some<|.val<|.kp d,some<|.val<|iZ W,some<|.val<|.int t,some<|.val<|ptb d G G b,none,none,none,none,none,none,none],_,⟨1,0,λ_ _=>0,rfl,∅,∅,λi j h=>absurd h<|Nat.not_lt_zero _,rfl⟩,?_⟩;rintro mm _ ⟨t,G,b,rfl,t1,a8,hb,rfl⟩;have lm:(W.map PV.int).length=W.length:=Q0 _;refine' ZsQ (C:=t<=63) (λkb=>?cond) ?body
 case cond =>
  refine br (λz=>kb ⋯) λz=>br (λz=>kb ?_) λ_=>kT;have z:t<((W.map PV.int).length:Int):=z;omega
 case body =>
 intro a7;refine S_lca.mk ⋯ λc=>?_;obtain ⟨m',en,b1⟩:=Zot (1+c%3) (1+c%2)<|decide<|d.P=0;obtain ⟨n,rfl⟩:∃n:Nat,m'=(n:Int):=⟨m'.toNat,⋯⟩;have n1:1<=n:=⋯;have n3:n<=3:=⋯;refine ⟨by show (0:Int)<3;decide,by show (0:Int)<2;decide,by show 2<=1000;decide,zIB.mk ⟨_,en,?_⟩⟩;refine ⟨by show 0<=1000;decide,⋯,⋯,?_⟩;rw[Qa];have nm:∀i:Nat,i<=3->n*i<=9:=λi hi=>Wx n3 hi;refine ⟨λi ρ=>i<=n/\∃r,Tb1 d i n r/\ρ=[none,some<|.val<|.int d.P,some<|.val<|.kp d,some<|.val<|iZ W,some<|.val<|.int t,some<|.val<|ptb d G G b,some<|.val<|.int c,some<|.val<|.int (n:Int),some<|.own r,none,none,none,none],⟨Q6 _,[],⟨λ_ _=>0,λ_ _ h=>absurd h<|Nat.not_lt_zero _,rfl⟩,rfl⟩,?_,?_⟩
 ·rintro i _ _ hp ⟨_,r,tr,rfl⟩;obtain ⟨hi,rfl⟩:=ZaN hp;rw[Qo];refine ⟨⋯,⋯,?_⟩;rw[Qa];have ni:=nm i ⋯;refine ZcY (g:=λj => .int<|t+1+((n*i:Nat):Int)+(j:Int)) ⋯ (λj hj C U=>⟨ZpW ⋯ ⋯,?_⟩) ?_
  ·show C (.int<|t+1+(n:Int)*(i:Int)+(j:Int));rw[<-Wt];exact U
  refine ⟨λi r=>Rw1 d i r,by rw[Zap];omega,⟨λ_=>0,λ_ h=>absurd h<|Nat.not_lt_zero _,rfl⟩,?_,?_⟩
  ·rintro j _ r' hp _ pr;obtain ⟨hj,rfl⟩:=rget hp;obtain ⟨m2,e2,h2⟩:=Zot 3 2<|decide<|d.P=0;obtain ⟨mo,rfl⟩:∃mo:Nat,m2=(mo:Int):=⟨m2.toNat,⋯⟩;exact S_lca.mk ⋯ λc'=>⟨by show 2<=1000;decide,zIB.mk ⟨_,e2,S_lpo.mk ⋯ λs hs=>pr.snoc hs⟩⟩
  ·intro r' _ pr;rw[Zap] at pr;have lr:r.length=i:=by
    obtain ⟨_,_,rfl⟩:=tr;exact Zap
   exact ⟨⋯,hi,_,tr.snoc pr,rfl⟩
 rintro _ ⟨_,r,tr,rfl⟩;rw[ZaE] at tr;obtain ⟨N,ha,rfl⟩:=tr;have nn:=nm n n3;refine ⟨ZpW ⋯ ⋯,?_⟩;have l0:(prs d G G b).length=G:=Zap;refine brJ (λρ=>∃b':Nat->Nat->Sr d,(∀i j,i<n->j<n->PS d 1 1 (b' i j))/\ρ=[none,some<|.val<|.int d.P,some<|.val<|.kp d,some<|.val<|iZ W,some<|.val<|.int<|t+1+(n:Int)*(n:Int),some<|.val<|ptb d n n b',some<|.val<|.int c,some<|.val<|.int (n:Int),some<|.val<|ptb d n n N,none,none,none,none]) (λ_=>⟨N,ha,rfl⟩) (λz=>?_) ?_
 ·have z:(!decide (((prs d G G b).length:Int)=(n:Int)))=false:=z;rw[l0] at z;have e:G=n:=by
   by_cases y:(G:Int)=(n:Int)
   ·omega
   ·rw[decide_eq_false y] at z;cases z
  subst e;exact ⟨b,hb,rfl⟩
 clear hb l0;rintro _ ⟨b',hb,rfl⟩;refine Zbu (f:=λi => .lst<|prow d n<|N i) (g:=λi => .lst<|prow d n<|N i) ⋯ (λi hi C U=>Zbu (f:=λj=>pv d<|N i j) (g:=λj=>pv d<|N i j) ⋯ (λj hj C U=>U) U) ?_;refine S_lask.mk n1 n3 ha<|S_lsums.mk n1 n3 ha hb ?_;obtain ⟨m,rfl⟩:∃m,n=m+1:=⟨n-1,⋯⟩;refine S_ldets.mk ⋯ ha ⟨by show 5<=1000;decide,?_⟩;refine ⟨λi ρ=>ρ=[none,some<|.val<|.int d.P,some<|.val<|.kp d,some<|.val<|iZ W,some<|.val<|.int<|t+1+((m+1:Nat):Int)*((m+1:Nat):Int),some<|.val<|ptb d (m+1) (m+1) b',some<|.val<|.int c,some<|.val<|.int ((m+1:Nat):Int),some<|.val<|ptb d (m+1) (m+1) N,none,none,some<|.val<|ptb d (m+1) (m+1) N,none],rfl,?_,?_⟩
 ·rintro i p _ hp rfl;obtain ⟨X,rfl,hw⟩:∃X:Str,p = .str X/\(X ="minors" \/ X ="without" \/ X ="cofactors" \/ X ="plus" \/ X ="times"):=by
   rcases i with _|_|_|_|_|i
   ·cases hp;exact ⟨_,rfl,.inl rfl⟩
   ·cases hp;exact ⟨_,rfl,.inr<|.inl rfl⟩
   ·cases hp;exact ⟨_,rfl,.inr<|.inr<|.inl rfl⟩
   ·cases hp;exact ⟨_,rfl,.inr<|.inr<|.inr<|.inl rfl⟩
   ·cases hp;exact ⟨_,rfl,.inr<|.inr<|.inr<|.inr rfl⟩
   ·cases hp
  refine br (λz=>?_) λ_=>rfl;have z:(1:Int)<((m+1:Nat):Int):=z;show S_lrf [.str X,.kp d,.lst<|ZcH (prs d (m+1) (m+1) N) (some ((1:Nat):Int)) none,ptb d (m+1) (m+1) N] _;rw[Zcl (f:=λi=>PV.lst<|prow d (m+1)<|N i) (List.range<|m+1) 1,ZjD,U7];exact S_lrf.mk (a:=λi=>N<|i+1) hw ⋯ rfl
 ·rintro _ rfl;refine EqPP.mk ?_;exact ⟨_,⋯,_,m+1,N,rfl,⋯,n3,ha,rfl⟩
end
end Zp
namespace My
open PySem L2 PyProof.Rows
section
variable{P:Program}{w:World}{K:ZZfg}{mg:ZZmg}{base:Heap}{CF CR:Addr}
theorem ZhO(f:Kd K mg CF CR)(i:HasM P w K mg base CF "is_nought" 2 ["self","one"] [] (Zet K CF)) (m:HasM P w K mg base CR "is_nought" 2 ["self","one"] [] Zeu):Zp.NoughtZ P w K mg base CF CR:=by
 intro j H s d
 cases j with
 |q =>
  obtain ⟨c,h⟩:=d;refine ⟨CF,c,[],_,_,_,h,f.clF,i,rfl,rfl,λl u x Q b k=>?_⟩;obtain ⟨a,rfl,b⟩:=b;refine ⟨s,a,_,_,rfl,SqT.of b,k _ ?_⟩;rw[decide_eq_true_iff];exact Rat.num_eq_zero
 |r p g =>
  obtain ⟨c,h⟩:=d;refine ⟨CR,c,fsR p,_,_,_,h,f.clR,m,Zfm _ ∅,rfl,λl u x Q b k=>?_⟩;have b:u = .int x.val:=b;subst b;refine ⟨s,_,rfl,k _ ?_⟩;rw[decide_eq_true_iff]
  letI:=g.nz
  have z:(0:Fin p).val=0:=by simp
  constructor
  ·intro e;exact Fin.ext (by rw[z];omega)
  ·intro e;have e:x=(0:Fin p):=e;rw[e,z];rfl
theorem ZeC:FnScope ["self","under"] ["self","under"] (Zab ZbX):=‹2›
theorem ZnF(h:HereI K CR "Polys.__init__" ZbX) (b:Pc K mg CR):HasI P w K mg base CR 1 ["self","under"] (ZgS CR):=by
 refine h.hasI (λ_ _ F=>F.b2 λ_ _ _ _ _ _ _ _=>rfl) λf j F=>F.ok ZeC (λd H Q E h=>?_)<|λg A a s H d Q E l h=>?_
 ·obtain ⟨_,_,_,rfl,_⟩:=h
  rfl
 obtain ⟨x,e,i,rfl,c,k⟩:=h;refine ⟨_,(Zag<|ZnO (pv 0) (pv 1) rfl),?_⟩;exact ⟨_,rfl,_,rfl,x,CR,e,_,rfl,c,b.cl,b.nU,(by show 0<1000;decide),k⟩
end
end My
local macro_rules | `(universe $_) => do
  let b := `PySem.Challenge.cw_turnframe_k49_tables_of_polynomials_holds
  let r := ((Array.range 842).map fun i => Lean.Name.str b s!"o_{i+43}") ++ (#["tree_115","sts_71","sts_599","sts_168","heap_39","sts_837","tree_884","tree_167","sts_378","tree_152","sts_422","sts_234","tree_669","tree_507","heap_46","sts_116","sts_508","sts_752","tree_47","tree_421","tree_182","sts_670","tree_70","env_41","tree_233","sts_131","tree_751","tree_130","sts_101","tree_836","sts_153","tree_584","sts_309","sts_585","tree_308","sts_49","tree_85","tree_377","tree_598","tree_100","view_39","heap_885","sts_86","sts_183"]).map (Lean.Name.str b)
  let c ← (r.push `PySem.Challenge.pw_turnframe_k49_tables_of_polynomials).mapM fun n => let i := Lean.mkIdent (.str `PySem.W.Fast s!"tw{n.hash}"); `(theorem $i : True := trivial)
  return Lean.mkNullNode c
universe u
namespace My
open PySem L2 PyProof.Rows
structure Defs (K:ZZfg) (mg:ZZmg) (CF CR CP CE cK cN cF cT cI cX cM cR:Addr):Prop where
 T:Nm mg
 kd:Kd K mg CF CR
 pc:Pc K mg CP
 R:Rf K mg CE cK cN cF cT cI cX cM cR
 Z:Rz K mg "NoFit" CE cF [cK,cN,cT,cI,cX,cM,cR]
 xn:ExcC K mg "NoNumber" cN
 nz:mg "zip"=none
 nsu:mg "sum"=none
 nmx:mg "max"=none
 nmn:mg "min"=none
 nrv:mg "reversed"=none
 nen:mg "enumerate"=none
 nal:mg "all"=none
 mo:∃t,mg "MOST"=some (.int 7 t)
 d1:Here K mg "divisor" Zfd
 d2:Here K mg "is_whole" Zen
 d3:Here K mg "is_prime" Zeo
 d4:Here K mg "shares" Zgp
 d5:Here K mg "less_times" Zdf
 c1:Here K mg "scaled_row" Zde
 c2:Here K mg "column_at" ZdK
 c3:Here K mg "sums_with" ZdL
 c4:Here K mg "is_square" Zcf
 c5:Here K mg "need_square" Zb3
 c6:Here K mg "scaled" Zgo
 c8:Here K mg "product_number" Zbq
 c9:Here K mg "corner_numbers" ZbY
 c10:Here K mg "falling_numbers" ZbL
 c12:Here K mg "plus_row" Zem
 c31:Here K mg "trimmed" Zff
 c39:Here K mg "turned" Zgn
 c43:Here K mg "unit_row" Zel
 c50:Here K mg "unit" Zlq
 c51:Here K mg "plus_table" Zcp
 c52:Here K mg "times_table" Zb4
 c53:Here K mg "freed" Zib
 c54:Here K mg "expanded" Zep
 c55:Here K mg "wider_minors" Zcw
 c56:Here K mg "minors_of" ZdM
 c57:Here K mg "by_minors" ZcL
 c58:Here K mg "chosen_numbers" ZbU
 c59:Here K mg "minor" Zic
 c60:Here K mg "cofactor_column" ZbF
 c61:Here K mg "cofactors" ZcM
 c62:Here K mg "without" Zd5
 c63:Here K mg "sign_of" Zfe
 c64:Here K mg "is_short_list" Zce
 c65:Here K mg "is_row" Zgm
 c66:Here K mg "is_table" Zek
 l1:Here K mg "_law_whole" Zfg
 l2:Here K mg "_law_divisor" ZdN
 l3:Here K mg "_law_is_prime" Zdi
 l4:Here K mg "_law_prime" Zfh
 l5:Here K mg "_law_kind" Zgq
 l6:Here K mg "_law_fraction" Zdk
 l7:Here K mg "_law_prime_by" Zdj
 l8:Here K mg "_law_make" Zgr
 l9:Here K mg "_law_is_number" ZcR
 l10:Here K mg "_law_drawn" Zfk
 l11:Here K mg "_law_plus" Zgs
 l12:Here K mg "_law_times" Zfi
 l13:Here K mg "_law_mixed" Zfj
 l14:Here K mg "_law_cut" Zgt
 l15:Here K mg "_law_poly" Zgu
 l16:Here K mg "_law_is_poly" ZdO
 l17:Here K mg "_law_poly_plus" ZcS
 l18:Here K mg "_law_poly_times" Zcx
 l19:Here K mg "_law_det" Zid
 l20:Here K mg "_law_sum" Zie
 l21:Here K mg "_law_product" ZdQ
 l22:Here K mg "_law_same" Zgv
 l23:Here K mg "_law_diagonal" Zdl
 l24:Here K mg "_law_refused" ZdR
 l25:Here K mg "_law_asked" Zfl
 l26:Here K mg "_law_sums" Zgw
 l27:Here K mg "_law_dets" Zgx
 l28:Here K mg "_law_cell_at" ZdP
 m1:HereM K CF "plus" "Fractions.plus" ZbV
 m2:HereM K CF "minus" "Fractions.minus" ZbG
 m4:HereM K CF "times" "Fractions.times" ZbH
 m5:HereM K CF "is_nought" "Fractions.is_nought" Zbc
 m6:HereM K CF "common_bottom" "Fractions.common_bottom" Za0
 m7:HereM K CF "sum_of_products" "Fractions.sum_of_products" ZaV
 m8:HereM K CF "is_number" "Fractions.is_number" Zbd
 r1:HereM K CR "plus" "Rests.plus" Zdg
 r2:HereM K CR "minus" "Rests.minus" ZcN
 r4:HereM K CR "times" "Rests.times" ZcO
 r5:HereM K CR "is_nought" "Rests.is_nought" ZbI
 r6:HereM K CR "common_bottom" "Kind.common_bottom" Zbl
 r7:HereM K CR "sum_of_products" "Rests.sum_of_products" Za5
 r8:HereM K CR "is_number" "Rests.is_number" ZbJ
 p1:HereM K CP "times" "Polys.times" ZcQ
 p2:HereM K CP "plus" "Polys.plus" Zdh
 p3:HereM K CP "minus" "Polys.minus" ZcP
 p4:HereM K CP "is_number" "Polys.is_number" ZbK
 p5:HereM K CP "sum_of_products" "Kind.sum_of_products" Zba
 p6:HereM K CP "common_bottom" "Polys.common_bottom" Zbe
 n1:∃tk,HereD K CF "number" "Fractions.number" ZaY #[.int 1 tk]
 n2:∃tk,HereD K CR "number" "Rests.number" Zbm #[.int 1 tk]
 n3:∃tk,HereD K CP "number" "Polys.number" Zbn #[.int 1 tk]
 i1:HereI K CR "Rests.__init__" ZbW
 i2:HereI K CP "Polys.__init__" ZbX
 lw:Here K mg "law" Zpa
theorem all_mk{l:PySem.W.OpenLaw}{w:World}{K:ZZfg}{b:ZZmg}{fa CF CR CP CE cK cN cF cT cI cX cM cR:Addr}(I:b "law" = some (.ref fa)) (D:Defs K b CF CR CP CE cK cN cF cT cI cX cM cR) :
    ∃G:FuncData,(∀(s:Shared) (v:Value),BindsTo s G ⟨[v],[]⟩ [("_law_script", v)])/\∀base:Heap,K.In base->base.Ns mainGlobals b->FnOk l.prog w K b base CX0 15 fa G ["_law_script"] (sp_law K):=by
  obtain ⟨f,G,F,m⟩:=D.lw.ex;have e:=I.symm.trans m
  cases e
  refine ⟨G,?_,λbase _ _=>?_⟩
  · obtain ⟨oc,od,kV,d5,pm,an,e0,ct,d6,rfl,lk,d7⟩:=F.ex
    exact λs v => .of_eq rfl
  · have T:=D.T
    have a:=D.kd;obtain ⟨d4,n1⟩:=D.n1;obtain ⟨d8,n2⟩:=D.n2;obtain ⟨d9,n3⟩:=D.n3;have k:Has l.prog w K b base "divisor" 1 _ _:=Zj0 D.d1 T;have J:Has l.prog w K b base "is_whole" 1 _ _:=Zig D.d2 T;have g3:Has l.prog w K b base "is_prime" 1 _ _:=Zih D.d3 T;have g5:Has l.prog w K b base "less_times" 1 _ _:=ZgA D.d5;have g4:=Zls D.d4 g5;have ai:=ZmZ D.i1 a.clR a.nP J g3;have a1:=Zlx D.m1 k;have a2:=Zj5 D.m2 a.clF a1;have a4:=Zj3 D.m4 k;have a5:HasM l.prog w K b base CF "is_nought" 1 _ _ _:=Zj7 D.m5;have a6:=ZiA D.m6 k;have a7:=Zik n1 D.xn k;have a8:=ZiB n1 D.xn k;have a9:=Zng D.m7 a.clF D.nz a6 a8;have aA:=ZpS D.m8 T J k;have b1:HasM l.prog w K b base CR "plus" 1 _ _ _:=Zm1 D.r1 a.clR a.nP;have b2:HasM l.prog w K b base CR "minus" 1 _ _ _:=Zlz D.r2 a.clR a.nP;have b7:=Zil n2 a.clR a.nP D.xn g4;have b8:=Zj4 n2 a.clR a.nP D.xn g4;have b4:HasM l.prog w K b base CR "times" 1 _ _ _:=Zly D.r4 a.clR a.nP;have b5:HasM l.prog w K b base CR "is_nought" 1 _ _ _:=Zj8 D.r5;have b6:HasM l.prog w K b base CR "common_bottom" 1 _ _ _:=Zkf D.r6;have b9:HasM l.prog w K b base CR "sum_of_products" 3 _ _ _:=Znh D.r7 a.clR a.nP D.nz D.nsu;have bA:=ZpT D.r8 a.clR a.nP J;have mp:=ZlA a a1<|b1.mono ∅;have mt:=Zj9 a a4<|b4.mono ∅;have mz:=ZhO a (a5.mono ∅)<|b5.mono ∅;have mm:=Zka a a2<|b2.mono ∅;have mn:=Zin a (a7.mono ∅) b7;have md:=Zni a a9 b9;have pi:HasI l.prog w K b base CP 1 _ _:=ZnF D.i2 D.pc;have t2:=Zp.mt_2 (Z:=Zp.Zl CF CR CP) mt;have p2:=Zp.mt_2 (Z:=Zp.Zl CF CR CP) mp;have i3:=Zp.mt_m (Z:=Zp.Zl CF CR CP) mm;have o2:=Zp.mt_nz (Z:=Zp.Zl CF CR CP) mz;have u3:=Zp.mt_num (Z:=Zp.Zl CF CR CP) mn;have v3:=Zp.mt_num3 (Z:=Zp.Zl CF CR CP) a (a8.mono ∅) b8;have d3:=Zp.mt_dot (Z:=Zp.Zl CF CR CP) md;have j2:=Zp.mt_bot (Z:=Zp.Zl CF CR CP) a a6<|b6.mono ∅;have s2:=Zp.mt_isN (Z:=Zp.Zl CF CR CP) a aA bA;have p:=Zp.zdc_l (CF:=CF) (CR:=CR) (CP:=CP);have z:=Zp.z_trimmedF D.c31 T o2;have U:=Zp.z_trimmed z;have pn:=Zp.z_product_number D.c8 T D.nmx D.nmn d3;have c0:=Zp.z_PtF D.p1 T D.pc (z.mono ∅) pn;have Pp:=Zp.z_Pp D.p2 T D.nz D.pc (p2.mono ∅)<|U.mono ∅;have r:=Zp.m_qT<|Zp.z_Pt c0;have qP:=Zp.m_qP Pp;have qM:=Zp.m_qP<|Zp.z_Pm D.p3 D.pc (i3.mono ∅) (u3.mono ∅) Pp;have qN:=Zp.z_qN n3 D.pc (U.mono ∅)<|v3.mono ∅;have c:=Zp.z_qN1 n3 D.pc (U.mono ∅)<|v3.mono ∅;have E:=Zp.z_qD D.p5 D.pc D.nz (c.mono ∅) (qP.mono ∅)<|r.mono ∅;have o:=Zp.z_qsr D.c1<|r.mono ∅;have c9:=Zp.z_qsc D.c6 o;have y:=Zp.z_qsw D.c3 E;have u:Zp.Fn l.prog w K b base (Zp.Zl CF CR CP) "column_at" 1 _:=Zp.z_qco D.c2;have d:=Zp.z_qtu D.c39 T u;have b0:=Zp.z_qpr D.c12 D.nz<|qP.mono ∅;have N:=Zp.z_qpt D.c51 T D.nz b0;have Q:=Zp.z_qtt D.c52 T (d.mono ∅) y;have d1:=Zp.z_qur D.c43 T<|c.mono ∅;have qu:=Zp.z_qu D.c50 T d1;have q:Zp.Fn l.prog w K b base (Zp.Zl CF CR CP) "is_square" 1 _:=Zp.z_qsq D.c4 T;have g:=Zp.z_qne D.c5 q;have qB:=Zp.z_qB D.p6 D.pc<|j2.mono ∅;have O:=Zp.z_qF D.c53 (qB.mono ∅) (c.mono ∅) o;have ex:=Zp.z_exp p D.c54 T D.nen E;have wi:=Zrs p D.c55 T (qM.mono ∅) (c.mono ∅) ex;have mo:=Zp.z_mo p D.c56 D.nrv (c.mono ∅) wi;have bm:=Zp.z_bm p D.c57 T (g.mono ∅) (O.mono ∅) mo (r.mono ∅)<|qN.mono ∅;have ch:Zp.Fn l.prog w K b base (Zp.Zl CF CR CP) "chosen_numbers" 1 _:=Zp.z_ch D.c58;have mi:=Zp.z_mi D.c59 bm<|ch.mono ∅;have sg:Zp.Fn l.prog w K b base (Zp.Zl CF CR CP) "sign_of" 1 _:=Zp.z_sg D.c63;have cc:=Zp.z_cc p D.c60 T (O.mono ∅) mo (sg.mono ∅) (r.mono ∅)<|qN.mono ∅;have cf:=Zp.z_cf D.c61 T (g.mono ∅) (d.mono ∅) cc;have pq:=Zp.z_pq D.c8 T D.nmx D.nmn E;have cq:=Zp.z_cnq D.c9 T (c.mono ∅) (qM.mono ∅) (E.mono ∅) (u.mono ∅) y;have fq:=Zp.z_flq D.c10 T (c.mono ∅) cq<|pq.mono ∅;have wo:=Zp.z_wo D.c62 T (g.mono ∅) (O.mono ∅) fq (sg.mono ∅) (r.mono ∅)<|qN.mono ∅;have d0:=Zp.z_Pis D.p4 T D.nal D.pc (s2.mono ∅)<|o2.mono ∅;have sl:=Zp.z_sl (P:=l.prog) (w:=w) (base:=base) (Z:=Zp.Zl CF CR CP) D.c64 T D.mo;have a0:=Zp.z_row D.c65 D.nal (sl.mono ∅) d0;have tb:=Zp.z_tbl D.c66 T D.nal (sl.mono ∅) a0;have w1:Has l.prog w K b base "_law_whole" 1 _ _:=Zj2 D.l1 T;have w2:Has l.prog w K b base "_law_divisor" 1 _ _:=Zhu D.l2 T;have w3:Has l.prog w K b base "_law_is_prime" 1 _ _:=Zgy D.l3;have w4:=ZiK D.l4 w3;have w5:=Zmn D.l5 a ai;have X:=Zmj D.l6 w2;have w7:=ZgZ D.l7 w4;have B:Has l.prog w K b base "_law_make" 1 _ _:=Zml D.l8;have w9:=ZfQ D.l9 T w1 w2;have c1:=ZiM D.l10 X;have n:=Zkl D.l11 X;have R:=ZiL D.l12 X;have c3:Has l.prog w K b base "_law_mixed" 1 _ _:=Zkm D.l13;have S:=Znw D.l14 T B;have b3:=ZhJ D.l16 T w9<|B.mono ∅;have c6:=ZfE D.l18 T (B.mono ∅) n R<|S.mono ∅;have c7:Has l.prog w K b base "_law_cell_at" 1 _ _:=ZhN D.l28 T;have M:=ZfG (P:=l.prog) (w:=w) (base:=base) D.c5 T D.Z.c D.c4;have c8:=ZfS D.l24 T D.R D.Z (Zg3 D.c57 M) (ZiS D.c62 M) (Zg4 D.c61 M) (ZfR D.c51 T D.Z.c)<|ZfH D.c52 T D.Z.c;have x8:=Zp.z_lmake (Z:=Zp.Zl CF CR CP) B;have a3:=Zp.z_lop (Z:=Zp.Zl CF CR CP) n;have W:=Zp.z_lmix (Z:=Zp.Zl CF CR CP) c3;have c2:=Zp.z_ldr (Z:=Zp.Zl CF CR CP) c1;have i:=Zp.z_lpt (Z:=Zp.Zl CF CR CP) c6;have C:=Zp.z_lcut D.l14 T x8;have c4:=Zp.z_lpo D.l15 T (W.mono ∅) (c2.mono ∅)<|C.mono ∅;have x:=Zp.z_lip (Z:=Zp.Zl CF CR CP) b3;have h:=Zp.z_lpp D.l17 T D.nmx (a3.mono ∅)<|C.mono ∅;have Y:=Zp.z_ldet D.l19 T (x8.mono ∅) (i.mono ∅) (h.mono ∅) 4 ∅;have L:=Zp.z_lsum D.l20 T<|h.mono ∅;have t:=Zp.z_lprod D.l21 T (h.mono ∅)<|i.mono ∅;have j:=Zp.z_lsame D.l22 T<|x.mono ∅;have A:Zp.Fn l.prog w K b base (Zp.Zl CF CR CP) "_law_diagonal" 1 _:=Zp.z_ldiag D.l23 T T.int;have H:=Zp.z_lask D.l25 T (B.mono ∅) (x8.mono ∅) (tb.mono ∅) (q.mono ∅) (d.mono ∅) (qu.mono ∅) (j.mono ∅)<|A.mono ∅;have d2:=Zp.z_lsums D.l26 (j.mono ∅) (N.mono ∅) (L.mono ∅) Q (t.mono ∅) (i.mono ∅)<|c9.mono ∅;have c5:=Zp.z_ldets D.l27 T (Y.mono ∅) (bm.mono ∅) (wo.mono ∅) (x.mono ∅) cf (j.mono ∅) (t.mono ∅) (A.mono ∅) mi;exact Zp.ok_law F T D.pc pi (w7.mono ∅) (w5.mono ∅) (c7.mono ∅) (c4.mono ∅) (H.mono ∅) (d2.mono ∅) (c5.mono ∅)<|Zp.z_lrf<|c8.mono ∅
theorem walk{l:PySem.W.OpenLaw}{q:Program}{b:List Str}{r:(Str->Option Value)->Heap->Prop}{j:World->Heap->Prop}{d:DefRec}{K:Params->ZZfg}(p:l.most=some 63)(e:d.params.defaults=[])
    (v:∀(w:World) (h:Heap),j w h->(K w.params).In h)
    (F:∀(w:World) (c:ZZmg) (g:Addr) (h:Heap),(K w.params).In h->h.Ns mainGlobals c->c d.name=some (.ref g) →
      ∃i:FuncData,(∀(s:Shared) (u:Value),BindsTo s i ⟨[u],[]⟩ [("_law_script", u)])/\∀base:Heap,(K w.params).In base->base.Ns mainGlobals c->FnOk l.prog w (K w.params) c base CX0 15 g i ["_law_script"] (sp_law<|K w.params)) :
    PySem.W.WalkO q b r j l.row.toRowW d [] (λf vs=>PySem.call f vs) :=
  L2.walk_of (n:=63) (k:=15) (x := "_law_script") (CX:=λ_=>CX0) (sp:=λw=>sp_law<|K w.params) p ∅ e ⟨rfl,∅,∅⟩ v F (λ_ _ a m o _ t=>⟨a,m,rfl,t,o,λ_=>rfl⟩) λ_ _ _ _ _ z=>z
theorem kd_mk{K:ZZfg}{h:Heap}{a:ZZmg}{CF CR:Addr}(X:K.In h)(G:h.Ns mainGlobals a)(g:PySem.W.nsIn K mainGlobals "Fractions" = some (some<|.ref CF)) (c:PySem.W.nsIn K mainGlobals "Rests" = some (some<|.ref CR))
    (p1:PySem.W.plainGet K CF Str.empty=true) (p2:PySem.W.hasDictIn K CF=true) (p3:PySem.W.plainOver K CF=true) (p4:PySem.W.findIn K (.ref CF) "__setattr__" = some (some<|.builtin "object.__setattr__"))
    (e:PySem.W.plainGet K CR Str.empty=true) (k:PySem.W.hasDictIn K CR=true) (d:PySem.W.plainOver K CR=true) (f:PySem.W.findIn K (.ref CR) "__setattr__" = some (some<|.builtin "object.__setattr__"))
    (b:PySem.W.findIn K (.ref CR) "prime" = some none) (j:PySem.W.makesIn K CF=true) (i:PySem.W.findIn K (.ref CF) "__init__" = some (some<|.builtin "object.__init__")) (l:PySem.W.keepIn K (.ref CF)=true):Kd K a CF CR :=
  ⟨⟨p1,p2,p3,p4⟩,⟨e,k,d,f⟩,b,⟨j,i,l⟩,PySem.W.mg_of X G g,PySem.W.mg_of X G c⟩
theorem pc_mk{K:ZZfg}{h:Heap}{b:ZZmg}{CP:Addr}(X:K.In h)(G:h.Ns mainGlobals b)(a:PySem.W.nsIn K mainGlobals "Polys" = some (some<|.ref CP))
    (f:PySem.W.plainGet K CP Str.empty=true) (c:PySem.W.hasDictIn K CP=true) (e:PySem.W.plainOver K CP=true) (g:PySem.W.findIn K (.ref CP) "__setattr__" = some (some<|.builtin "object.__setattr__"))
    (d:PySem.W.findIn K (.ref CP) "under" = some none):Pc K b CP:=⟨⟨f,c,e,g⟩,d,PySem.W.mg_of X G a⟩
theorem int_mk{a:ZZmg}{x:Str}{v:Value}{i:Int}(c:a x=some v)(b:∃t,v = .int i t):∃t,a x=some (.int i t):=by
 obtain ⟨t,rfl⟩:=b;exact ⟨t,c⟩
theorem cn_mk{K:ZZfg}{h:Heap}{d:ZZmg}{x:Str}{C:Addr}(X:K.In h)(G:h.Ns mainGlobals d)(a:PySem.W.nsIn K mainGlobals x=some (some<|.ref C))(b:PySem.W.isClsIn K C=true)(c:PySem.W.typeIn K (.ref C)=some (.type "type")):CN K d x C:=⟨PySem.W.mg_of X G a,b,c⟩
theorem xcls_mk{K:ZZfg}{C:Addr}(f:PySem.W.findIn K (.ref C) "__getattribute__" = some (some<|.builtin "BaseException.__getattribute__")) (e:PySem.W.findIn K (.ref C) "__getattr__" = some none) (g:PySem.W.findIn K (.ref C) "__class__" = some (some<|.builtin "object.__class__"))
    (a:PySem.W.specialIn K (.builtin "object.__class__") "__get__" = some (some<|.builtin "getset_descriptor.__get__")) (c:PySem.W.takesIn K (.builtin "object.__class__")=some true) (b:PySem.W.mroIn K C (.type "object")=some true) (d:PySem.W.mroIn K C (.type "BaseException")=some true) (h:PySem.W.hasDictIn K C=true):XCls K C:=⟨f,e,g,a,c,b,d,h⟩
theorem apart_cons{K:ZZfg}{C D:Addr}{r:ZZla}(a:PySem.W.mroIn K C (.ref D)=some false)(n:C≠D)(z:Zm0 K C r):Zm0 K C (D::r):=⟨⟨a,n⟩,z⟩
end My
open PySem PySem.W PyProof.Rows
local macro_rules | `(tactic| walk_at "xcls") => `(tactic| exact My.xcls_mk (by k_is) (by k_is) (by k_is) (by k_is) (by k_is) (by k_is) (by k_is) (by k_is))
local macro_rules | `(tactic| walk_at "apart") => `(tactic| repeat (first | exact True.intro | (refine' My.apart_cons (by k_is) ∅ ?_)))
set_option maxRecDepth 100000 in
set_option maxHeartbeats 0 in
theorem PySem.Challenge.cw_turnframe_k49_tables_of_polynomials_holds : PySem.Challenge.rw_turnframe_k49_tables_of_polynomials.Holds := by
  w_on; o_law; k_head; (case hw=>w_witness2)
  k_fill
  refine My.walk (l:=PySem.Challenge.rw_turnframe_k49_tables_of_polynomials) rfl rfl (λw h Y=>PySem.W.kIn_of Y) ?F
  case F =>
    intro w mg fa h KX G hmg;have kd:=by
      refine' My.kd_mk KX G ?e1 ?e2 ?e3 ?e4 ?e5 ?e6 ?e7 ?e8 ?e9 ?e10 ?e11 ?e12 ?e13 ?e14
      (case e1=>k_is); (case e2=>k_is); (case e3=>k_is); (case e4=>k_is); (case e5=>k_is); (case e6=>k_is); (case e7=>k_is)
      (case e8=>k_is); (case e9=>k_is); (case e10=>k_is); (case e11=>k_is); (case e12=>k_is); (case e13=>k_is); (case e14=>k_is)
    have pc:=by
      refine' My.pc_mk KX G ?e1 ?e2 ?e3 ?e4 ?e5 ?e6
      (case e1=>k_is); (case e2=>k_is); (case e3=>k_is); (case e4=>k_is); (case e5=>k_is); (case e6=>k_is)
    have nE:=by
      refine' My.cn_mk (x := "FrameError") KX G ?a ?b ?c
      (case a=>k_is); (case b=>k_is); (case c=>k_is)
    have nk:=by
      refine' My.cn_mk (x := "NoKind") KX G ?a ?b ?c
      (case a=>k_is); (case b=>k_is); (case c=>k_is)
    have nn:=by
      refine' My.cn_mk (x := "NoNumber") KX G ?a ?b ?c
      (case a=>k_is); (case b=>k_is); (case c=>k_is)
    have nf:=by
      refine' My.cn_mk (x := "NoFit") KX G ?a ?b ?c
      (case a=>k_is); (case b=>k_is); (case c=>k_is)
    have nt:=by
      refine' My.cn_mk (x := "NoTurn") KX G ?a ?b ?c
      (case a=>k_is); (case b=>k_is); (case c=>k_is)
    have ni:=by
      refine' My.cn_mk (x := "NoInverse") KX G ?a ?b ?c
      (case a=>k_is); (case b=>k_is); (case c=>k_is)
    have nx:=by
      refine' My.cn_mk (x := "NoText") KX G ?a ?b ?c
      (case a=>k_is); (case b=>k_is); (case c=>k_is)
    have nm:=by
      refine' My.cn_mk (x := "NoName") KX G ?a ?b ?c
      (case a=>k_is); (case b=>k_is); (case c=>k_is)
    have nr:=by
      refine' My.cn_mk (x := "NoRow") KX G ?a ?b ?c
      (case a=>k_is); (case b=>k_is); (case c=>k_is)
    have x_xn:=by
      refine' My.cn_mk (x := "NoNumber") KX G ?a ?b ?c
      (case a=>k_is); (case b=>k_is); (case c=>k_is)
    refine My.all_mk hmg ⟨?T,kd,pc,⟨nE,?eb,nk,nn,nf,nt,ni,nx,nm,nr,PySem.W.mg_none_of KX G ?ve⟩,⟨⟨?Zx,nf.m,?Zi⟩,?Ze,?Zv,?Zo⟩,⟨?xnx,x_xn.m,?xni⟩,PySem.W.mg_none_of KX G ?nz,PySem.W.mg_none_of KX G ?nsu,PySem.W.mg_none_of KX G ?nmx,PySem.W.mg_none_of KX G ?nmn,PySem.W.mg_none_of KX G ?nrv,PySem.W.mg_none_of KX G ?nen,PySem.W.mg_none_of KX G ?nal,?mo,?d1,?d2,?d3,?d4,?d5,?c1,?c2,?c3,?c4,?c5,?c6,?c8,?c9,?c10,?c12,?c31,?c39,?c43,?c50,?c51,?c52,?c53,?c54,?c55,?c56,?c57,?c58,?c59,?c60,?c61,?c62,?c63,?c64,?c65,?c66,?l1,?l2,?l3,?l4,?l5,?l6,?l7,?l8,?l9,?l10,?l11,?l12,?l13,?l14,?l15,?l16,?l17,?l18,?l19,?l20,?l21,?l22,?l23,?l24,?l25,?l26,?l27,?l28,?m1,?m2,?m4,?m5,?m6,?m7,?m8,?r1,?r2,?r4,?r5,?r6,?r7,?r8,?p1,?p2,?p3,?p4,?p5,?p6,?n1,?n2,?n3,?i1,?i2,?lw⟩
    case eb=>k_is
    case ve=>k_is
    case Zx=>walk_at "xcls"
    case Zi=>k_exc
    case Ze=>k_is
    case Zv=>k_is
    case Zo=>walk_at "apart"
    case xnx=>walk_at "xcls"
    case xni=>k_exc
    case nz=>k_is
    case nsu=>k_is
    case nmx=>k_is
    case nmn=>k_is
    case nrv=>k_is
    case nen=>k_is
    case nal=>k_is
    case mo =>
      refine' My.int_mk (PySem.W.mg_of KX G ?e1) ?e2
      (case e1=>k_is); (case e2=>exact ⟨_,rfl⟩)
    case T =>
      refine' My.nm_mk (PySem.W.mg_of KX G ?e1) ?e2 (PySem.W.mg_none_of KX G ?e3) (PySem.W.mg_none_of KX G ?e4) (PySem.W.mg_none_of KX G ?e5) (PySem.W.mg_none_of KX G ?e6) (PySem.W.mg_none_of KX G ?e7) (PySem.W.mg_none_of KX G ?e8) (PySem.W.mg_none_of KX G ?e9) (PySem.W.mg_none_of KX G ?e10)
      (case e1=>k_is); (case e2=>exact ⟨_,rfl⟩); (case e3=>k_is); (case e4=>k_is); (case e5=>k_is); (case e6=>k_is); (case e7=>k_is); (case e8=>k_is); (case e9=>k_is); (case e10=>k_is)
    case i1 =>
      refine' L2.hereI_mk ?e1 ?e2 ?e3 ?e4 ?e5 ?e6 ?e7
      (case e1=>k_is); (case e2=>k_is); (case e3=>k_is); (case e4=>k_is); (case e5=>k_is); (case e6=>k_is); (case e7=>k_is)
    case i2 =>
      refine' L2.hereI_mk ?e1 ?e2 ?e3 ?e4 ?e5 ?e6 ?e7
      (case e1=>k_is); (case e2=>k_is); (case e3=>k_is); (case e4=>k_is); (case e5=>k_is); (case e6=>k_is); (case e7=>k_is)
    case n1 =>
      refine' ⟨_,L2.hereD_mk ?x0a ?x0i ?x0l ?x0t ?x0c ?x0k⟩
      (case x0a=>k_is); (case x0i=>k_is); (case x0l=>k_is); (case x0t=>(apply Eq.trans; k_is; rfl)); (case x0c=>k_is); (case x0k=>k_is)
    case n2 =>
      refine' ⟨_,L2.hereD_mk ?x1a ?x1i ?x1l ?x1t ?x1c ?x1k⟩
      (case x1a=>k_is); (case x1i=>k_is); (case x1l=>k_is); (case x1t=>(apply Eq.trans; k_is; rfl)); (case x1c=>k_is); (case x1k=>k_is)
    case n3 =>
      refine' ⟨_,L2.hereD_mk ?x2a ?x2i ?x2l ?x2t ?x2c ?x2k⟩
      (case x2a=>k_is); (case x2i=>k_is); (case x2l=>k_is); (case x2t=>(apply Eq.trans; k_is; rfl)); (case x2c=>k_is); (case x2k=>k_is)
    all_goals first
      | (refine' L2.here_mk KX G ?y1 ?y2 ?y3 ?y4
         (case y1=>k_is); (case y2=>k_is); (case y3=>k_is); (case y4=>k_is))
      | (refine' L2.hereM_mk ?z1 ?z2 ?z3 ?z4 ?z5
         (case z1=>k_is); (case z2=>k_is); (case z3=>k_is); (case z4=>k_is); (case z5=>k_is))
