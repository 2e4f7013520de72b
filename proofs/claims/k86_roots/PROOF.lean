import PyProof.Rows.All
import Wide.All
import OpenK.AllK
import Wide.FinOn
import Lean
import PyProof.EqAt
import PyProof.EqKinds
import PyProof.TupleCall
import KE.KSortKey
import KE.KLam
import PySem.Challenge.RW_turnframe_k86_roots
set_option Elab.async false
set_option linter.all false
set_option compiler.extract_closed false
set_option maxRecDepth 100000
namespace Lake
end Lake
open Lake
noncomputable section
local macro_rules|`(($a,$b,*))=>`(⟨$a,$b,*⟩)
local macro_rules | `(tactic| omega) => `(tactic| first | lia | omega (config := {}))
local macro_rules | `(⋯) => `(by omega)
local macro_rules | `(∅) => `(by decide)
local macro_rules | `(‹2›) => `(⟨rfl,rfl,rfl,by decide +kernel,rfl,by decide +kernel,by decide +kernel⟩)
local macro_rules | `(‹4›) => `(by decide +kernel)
def qI:=@if_neg
def qJ:=@PySem.Heap.get?_push_of_some
def qK:=@if_pos
def qM:=@PySem.wpAny_bind
def qN:=@PySem.Heap.lt_size
def qO:=@PySem.Heap.get?_push_size
def qS:=@PySem.wpAny_pure
def qT:=@decide_eq_true_iff
def qV:=@PyProof.Rows.callWith_type1
def qW:=@congrArg
def qX:=@PySem.W.mg_none_of
def qY:=@PySem.mem_of_lookup
def qZ:=@PyProof.Rows.boot_isinstance
def q5:=@PySem.PassesOwn.never
def q7:=@decide_eq_false
def q8:=@PySem.wpAny_Call_Name_kw
def q9:=@PySem.Heap.get?_update_other
def rA:=@Option.some.inj
def rC:=@Ne.symm
def rD:=@PySem.W.kia_one
def rE:=@PySem.wpAny_mono
def rF:=@Int.mul_le_mul_of_nonneg_left
def rG:=@decide_eq_true
def rH:=@List.length_eq_zero_iff
def rJ:=@Classical.byContradiction
def rK:=@List.getElem?_reverse
def rL:=@Rat.divInt_mul_divInt
def rM:=@List.getElem?_of_mem
def rN:=@List.map_congr_left
def rO:=@beq_eq_false_iff_ne
def rP:=@List.getElem?_drop
def rQ:=@PyProof.noPylong_of_log2
def rR:=@Int.dvd_of_emod_eq_zero
def rS:=@Int.natCast_dvd_natCast
def rT:=@Array.length_toList
def rV:=@List.filterMap_cons
def rW:=@List.length_eq_one_iff
def rX:=@PySem.sizeLine_eq
def rY:=@PySem.wpAny_holding
def rZ:=@Array.getElem?_eq_some_iff
def r9:=@Bool.false_eq_true
def sA:=@Int.fdiv_eq_ediv_of_nonneg
def sB:=@Int.mul_nonpos_of_nonneg_of_nonpos
def sC:=@List.drop_eq_getElem_cons
def sD:=@PySem.wpAny_passesOwn
def sE:=@Int.emod_eq_of_lt
def sF:=@List.mem_append_left
def sG:=@PySem.wpAny_truthy_bool
def sH:=@Int.mul_fdiv_cancel_left
def sI:=@PySem.F.slot_list_append
def sJ:=@PySem.F.type_list_append
def sK:=@PySem.W.mg_of
def sL:=@PySem.wpAny_comprehension_free
def sM:=@Nat.pow_le_pow_left
def sN:=@Bool.and_eq_true
def sO:=@PySem.Heap.size_push
def sP:=@List.drop_length
def sQ:=@List.getElem?_replicate
def sR:=@Nat.add_sub_cancel_left
def sS:=@PySem.F.plainAttrs_list
def sT:=@List.drop_eq_nil_of_le
def sU:=@PySem.W.callWith_K
def sV:=@beq_iff_eq
def sW:=@List.getElem?_toArray
def sX:=@Rat.divInt_add_divInt
def sY:=@List.getElem?_set
def sZ:=@Int.mul_zero
def s8:=@List.mem_map
def s9:=@if_false
def Q0:=@Nat.le_trans
def Q1:=@List.length_map
def Q3:=@List.getD_eq_getElem?_getD
def Q4:=@Nat.le_refl
def Q5:=@Nat.lt_of_le_of_lt
def Q6:=@List.getElem?_eq_getElem
def Q7:=@List.getElem?_map
def Q8:=@Nat.pow_le_pow_right
def Q9:=@Nat.lt_of_lt_of_le
def Qa:=@Int.natAbs_natCast
def Qb:=@Nat.ne_of_lt
def Qd:=@List.mem_cons
def Qe:=@Nat.zero_le
def Qf:=@List.mem_singleton
def Qg:=@Nat.mul_pos
def Qh:=@List.size_toArray
def Qi:=@List.length_append
def Qj:=@Int.natAbs_mul
def Qk:=@Nat.mul_le_mul
def Ql:=@List.mem_of_getElem?
def Qm:=@List.mem_append_right
def Qn:=@List.length_take
def Qo:=@Int.pow_succ
def Qp:=@List.mem_append
def Qq:=@Nat.mul_le_mul_left
def Qr:=@List.getElem?_eq_some_iff
def Qs:=@Nat.lt_irrefl
def Qu:=@List.length_range
def Qv:=@Int.emod_nonneg
def Qw:=@Nat.pow_pos
def Qx:=@Int.mul_comm
def Qy:=@Int.mul_assoc
def Qz:=@Nat.one_mul
def W0:=@Int.emod_lt_of_pos
def W1:=@Bool.false_ne_true
def W2:=@Nat.mul_le_mul_right
def W3:=@Int.natCast_mul
def W4:=@Rat.num_divInt_den
def W5:=@Nat.pow_succ
def W6:=@List.length_drop
def W7:=@List.getElem_mem
def W8:=@Nat.mul_assoc
def W9:=@Int.gcd_dvd_right
def Wa:=@Int.one_mul
def Wb:=@Nat.add_sub_cancel
def Wc:=@List.mem_cons_self
def Wd:=@Nat.pow_add
def We:=@List.length_reverse
def Wf:=@Nat.le_of_lt
def Wg:=@List.mem_cons_of_mem
def Wh:=@Nat.lt_trans
def Wi:=@Nat.le_mul_of_pos_left
def Wj:=@Nat.mul_comm
def Wk:=@Int.mul_pos
def Wl:=@Rat.divInt_eq_divInt_iff
def Wm:=@Nat.le_of_dvd
def Wn:=@List.mem_filter
def Wo:=@Int.natAbs_dvd_natAbs
def Wp:=@List.map_append
def Wq:=@List.mem_range
def Wr:=@Int.fmod_eq_emod_of_nonneg
def Ws:=@List.length_cons
def Wt:=@Nat.le_of_eq
def Wu:=@List.append_nil
def Wv:=@List.length_replicate
def Ww:=@List.getElem?_range
def Wx:=@Int.pow_zero
def Wy:=@Nat.pow_lt_pow_right
def Wz:=@Nat.mul_add
def U0:=@Int.gcd_dvd_left
def U1:=@List.getElem?_eq_none
def U2:=@Int.mul_one
def U3:=@List.getElem?_append_left
def U4:=@List.lookup_cons
def U5:=@Int.natCast_emod
def U6:=@Nat.sub_zero
def U7:=@List.length_set
def U8:=@Int.mul_neg
def U9:=@Int.emod_eq_zero_of_dvd
def Ua:=@Int.natCast_add
def Ub:=@Nat.mul_one
def Uc:=@Rat.den_pos
def Ud:=@Nat.le_succ
def Ue:=@List.getElem?_append_right
def Uf:=@Nat.le_of_not_lt
def Ug:=@Nat.add_mul
def Uh:=@List.not_mem_nil
def Ui:=@Int.toNat_natCast
def Uj:=@List.getElem?_take
def Uk:=@List.take_length
def Ul:=@List.take_add_one
def Um:=@Int.dvd_mul_of_dvd_left
def Uo:=@Nat.pow_mul
def Uq:=@Int.mul_ediv_add_emod
def Ur:=@Bool.eq_iff_iff
def Us:=@List.map_cons
def Ut:=@Nat.lt_succ_self
def Uu:=@Nat.le_mul_of_pos_right
def Uv:=@Nat.pos_of_ne_zero
def Uw:=@Nat.le_add_right
def Ux:=@List.take_of_length_le
def Uy:=@Int.mul_sub
def Uz:=@Int.toNat_of_nonneg
abbrev Ac:=PySem.W.Frag
abbrev Ay:=List PySem.Addr
abbrev Ai:=PySem.Str->Option PySem.Value
namespace Lake.L2
open PySem PySem.Spec PyProof.Rows
abbrev DJ:=Sum Int Str
def Sx:DJ->Value->Bool
 | .inl k,v=>Value.isInt k v
 | .inr x,v=>Value.isStrOf x v
def gP(w:World):DJ->Int
 | .inl k=>hashInt k
 | .inr x=>hashStr w x
theorem FT:∀ {k:DJ} {v:Value},Sx k v=true->(∃i t,k=Sum.inl i/\v=Value.int i t)\/(∃x t,k=Sum.inr x/\v=Value.str x t)
 | .inl i,v,h=>by
  obtain ⟨t,e⟩:=Value.isInt_shape (k:=i) (v:=v) h;exact .inl (i,t,rfl,e)
 | .inr x,v,h=>by
  obtain ⟨t,e⟩:=Value.isStrOf_shape (x:=x) (v:=v) h;exact .inr (x,t,rfl,e)
theorem iC(a b:Int):decide ((Sum.inl a:DJ)=Sum.inl b)=(a==b):=by
 by_cases e:a=b
 ·subst e;simp
 ·have h:¬(Sum.inl a:DJ)=Sum.inl b:=λq=>e<|Sum.inl.inj q;rw[q7 h];exact (rO.mpr e).symm
theorem kD(a b:Str):decide ((Sum.inr a:DJ)=Sum.inr b)=decide (a=b):=by
 by_cases e:a=b
 ·subst e;simp
 ·have h:¬(Sum.inr a:DJ)=Sum.inr b:=λq=>e<|Sum.inr.inj q;rw[q7 h,q7 e]
theorem kB(a:Int)(b:Str):decide ((Sum.inl a:DJ)=Sum.inr b)=false:=q7 (λq=>nomatch q)
theorem lY(a:Str)(b:Int):decide ((Sum.inr a:DJ)=Sum.inl b)=false:=q7 (λq=>nomatch q)
def G9(prog:Program)(w:World):PySem.KeyKind prog w DJ where
 is:=Sx
 hash:=gP w
 inj:=λv a b f d=>by
  rcases FT f with ⟨i,t,rfl,rfl⟩|⟨x,t,rfl,rfl⟩
  ·rcases FT d with ⟨j,u,rfl,e⟩|⟨y,u,rfl,e⟩
   ·injection e with e1 _;rw[e1]
   ·exact nomatch e
  ·rcases FT d with ⟨j,u,rfl,e⟩|⟨y,u,rfl,e⟩
   ·exact nomatch e
   ·injection e with e1 _;rw[e1]
 byValue:=λk v h=>by
  rcases FT h with ⟨i,t,rfl,rfl⟩|⟨x,t,rfl,rfl⟩ <;> rfl
 pyHash:=λc h=>by
  rcases FT c with ⟨i,t,rfl,rfl⟩|⟨x,t,rfl,rfl⟩
  ·exact wpAny_pyHash_int h
  ·exact wpAny_pyHash_str h
 eqBool:=λg c h=>by
  rcases FT g with ⟨i,t,rfl,rfl⟩|⟨x,t,rfl,rfl⟩
  ·rcases FT c with ⟨j,u,rfl,rfl⟩|⟨y,u,rfl,rfl⟩
   ·rw[iC] at h;exact wpAny_eqBool_int h
   ·rw[kB] at h;exact SeqAt.EqAt.int_str i t y u _ _ _ _ h
  ·rcases FT c with ⟨j,u,rfl,rfl⟩|⟨y,u,rfl,rfl⟩
   ·rw[lY] at h;exact SeqAt.EqAt.str_int x t j u _ _ _ _ h
   ·rw[kD] at h;exact wpAny_eqBool_str h
 «strs»:=λk x t v h=>by
  rcases FT h with ⟨i,u,rfl,e⟩|⟨y,u,rfl,e⟩
  ·exact nomatch e
  ·injection e with e1 _
   subst e1
   cases v <;> rfl
inductive V where
 |non|bl (b:Bool)|int (i:Int)|str (x:Str)|byt (b:Array UInt8)|flt (b:UInt64)|ref (a:Addr)|ty (n:String)
 deriving DecidableEq
def RelV:V->Value->Prop
 | .non,u=>u=Value.none
 | .bl b,u=>u=Value.bool b
 | .int i,u=>∃t,u=Value.int i t
 | .str x,u=>∃t,u=Value.str x t
 | .byt b,u=>∃t,u=Value.bytes b t
 | .flt b,u=>∃t,u=Value.float b t
 | .ref a,u=>u=Value.ref a
 | .ty n,u=>u=Value.type n
abbrev Al:List V->List Value->Prop:=Paired RelV
theorem Al.length{xs:List V}{us:List Value}(r:Al xs us):xs.length=us.length:=Paired.length r
theorem Al.get:∀ {xs:List V} {us:List Value} {i:Nat} {x:V},Al xs us->xs[i]?=some x->∃u,us[i]?=some u/\RelV x u
 |_,_,_,_,.nil,e=>by simp at e
 |_,_,0,_,.cons r _,e=>by simp at e;subst e;exact (_,rfl,r)
 |_,_,i+1,x,.cons _ t,e=>by
  obtain ⟨u,a,b⟩:=Al.get (i:=i) (x:=x) t (by simpa using e);exact (u,by simpa using a,b)
theorem Al.set(r:RelV x u):∀ {xs:List V} {us:List Value} (i:Nat),Al xs us->Al (xs.set i x) (us.set i u)
 |_,_,_,.nil => .nil
 |_,_,0,.cons _ t => .cons r t
 |_,_,i+1,.cons q t => .cons q<|Al.set r i t
theorem Al.append:∀ {xs ys:List V} {us ws:List Value},Al xs us->Al ys ws->Al (xs++ys) (us++ws)
 |_,_,_,_,.nil,s=>s
 |_,_,_,_,.cons r t,s => .cons r<|Al.append t s
theorem Al.take:∀ {xs:List V} {us:List Value} (n:Nat),Al xs us->Al (xs.take n) (us.take n)
 |_,_,0,_ => .nil
 |_,_,_+1,.nil => .nil
 |_,_,n+1,.cons r t => .cons r<|Al.take n t
theorem Al.drop:∀ {xs:List V} {us:List Value} (n:Nat),Al xs us->Al (xs.drop n) (us.drop n)
 |_,_,0,r=>r
 |_,_,_+1,.nil => .nil
 |_,_,n+1,.cons _ t=>Al.drop n t
def Dr:Option V->Option Value->Prop
 |some v,some u=>RelV v u
 |none,none=>True
 |_,_=>False
def KV{κ:Type}:List (κ×V)->List (κ×Value)->Prop:=Paired λ(p:κ×V) (q:κ×Value)=>p.1=q.1/\RelV p.2 q.2
def kV:DJ->V
 | .inl i => .int i
 | .inr x => .str x
inductive HO where
 | lst (xs:List V)
 | tup (xs:List V)
 | dK (kvs:List (DJ×V)) | dT (kvs:List (List DJ×V))
 | set (S:Int->Bool) (n:Nat)
 | ins (C dx:Addr) (fs:List (Str×V))
 | own (x:Addr)
 | xd (fs:List (Str×V))
 | met (f x:Addr)
 | rng (lo hi:Int)
 | frz (o:Obj) (u:HO)
 | tbl (ps:Array Value)
 | ext (φ:Heap->Prop)
abbrev Hp:=Addr->Option HO
def As(H:Hp)(a:Addr)(o:HO):Hp:=λb=>if b=a then some o else H b
theorem A4:As H a o a=some o:=by unfold As;rw[qK rfl]
theorem AL{a b:Addr}(h:b≠a):As H a o b=H b:=by unfold As;rw[qI h]
theorem Mz:As (As H a o) a u=As H a u:=by
 funext b;unfold As;split <;> rfl
theorem Dj{H:Hp}{o:HO}(h:H a=some o)(h':H b=none):a≠b:=by
 intro e;subst e;rw[h] at h';cases h'
section
variable(P:Program)(w:World)
def AG(H:Hp)(h:Heap)(a:Addr):HO->Prop
 | .lst d=>d.length<=sizeLine/\∃(b:List Value) (n:Nat),Al d b/\h.get? a=some { cls:=.type "list", data:=.seq b.toArray n }
 | .tup d=>d.length<=sizeLine/\∃b:List Value,Al d b/\IsTup h a b.toArray
 | .dK kvs=>kvs.length<=sizeLine/\(a==sysModules)=false/\∃g,KV kvs g/\h.DictOf (G9 P w) a g
 | .dT kvs=>kvs.length<=sizeLine/\(a==sysModules)=false/\∃d:List (List DJ×Addr×Value),
  Paired (λ(p:List DJ×V) (q:List DJ×Addr×Value)=>p.1=q.1/\H q.2.1=some (.tup<|p.1.map kV)/\RelV p.2 q.2.2) kvs d ∧
  ∃o m s,h.get? a=some o/\o.ExactDict/\o.data = .dict m s/\m.toList=d.map (entryOfKey<|tupleKind<|G9 P w)/\(d.map (·.1)).Nodup
 | .set S n=>h.SetOf (intKind P w) a S n
 | .ins C dx fs=>H dx=some (.own a)/\fs.length<=1000/\dx≠a/\h.get? a=some (PySem.W.instObj C dx) ∧
  ∃e,h.Ns1 dx e/\(∀f,Dr (fs.lookup f)<|e f)/\PySem.Within e (fs.map (·.1))
 | .own _=>∃o,h.get? a=some o
 | .xd fs=>∃e,h.Ns1 a e/\∀f,Dr (fs.lookup f)<|e f
 | .rng lo hi=>∃t u v,h.get? a=some { cls:=.type "range", data:=.fields #[.int lo t,.int hi u,.int 1 v] }
 | .frz o u=>h.get? a=some o/\AG H h a u
 | .tbl ps=>h.get? a=some { cls:=.none,data:=.fields #[] }\/∃l c q t i j g y,ps=#[l,c,.str q t]/\h.get? a=some { cls:=.none,data:=.fields #[l,c,.ref i] }/\H i=some (.frz j<|.own i)/\j.data = .fields g/\g[1]?=some (.str q y)
 | .met f x=>h.get? a=some (PySem.W.methodObj (.ref f)<|.ref x)
 | .ext φ=>φ h/\(∃o,h.get? a=some o)/\∀k r:Heap,φ k->(∀o,k.get? a=some o->r.get? a=some o)->φ r
def Cm(H:Hp)(h:Heap):Prop:=∀a o,H a=some o->AG P w H h a o
end
section
variable{P:Program}{w:World}{H H':Hp}{h h':Heap}{a:Addr}{o:HO}
theorem AG.lt(x:AG P w H h a o):a<h.objs.size:=by
 cases o with
 |lst d=>obtain ⟨_,_,_,_,e⟩:=x;exact qN e
 |tup d=>obtain ⟨_,_,_,p⟩:=x;exact p.lt
 |dK b=>obtain ⟨_,_,_,_,o,_,_,e,_⟩:=x;exact qN e
 |dT b=>obtain ⟨_,_,_,_,o,_,_,e,_⟩:=x;exact qN e
 |set S n=>obtain ⟨o,_,_,_,e,_⟩:=x;exact qN e
 |ins C j c=>obtain ⟨_,_,_,e,_⟩:=x;exact qN e
 |own y=>obtain ⟨_,e⟩:=x;exact qN e
 |xd c=>obtain ⟨_,⟨_,_,_,e,_⟩,_⟩:=x;exact qN e
 |rng i l=>obtain ⟨_,_,_,e⟩:=x;exact qN e
 |frz g u=>obtain ⟨e,_⟩:=x;exact qN e
 |tbl k =>
  rcases x with e|⟨_,_,_,_,_,_,_,_,_,e,_⟩
  ·exact qN e
  ·exact qN e
 |met f y=>exact qN (show h.get? a=some _ from x)
 |ext m=>obtain ⟨_,⟨_,e⟩,_⟩:=x;exact qN e
theorem Paired.mapP{α c:Type}{F G:α->c->Prop}:∀ {l₁:List α} {l₂:List c},Paired F l₁ l₂->(∀a b,F a b->G a b)->Paired G l₁ l₂
 |_,_,.nil,_ => .nil
 |_,_,.cons r t,f => .cons (f _ _ r)<|Paired.mapP t f
inductive Im where
 |tup (xs:List V)
 |frz (o:Obj) (u:HO)
def Im.ho:Im->HO
 | .tup xs => .tup xs
 | .frz o u => .frz o u
theorem AG.stay(x:AG P w H h a o)(k:∀b u,(b=a\/H b=some (.own a))->h.get? b=some u->h'.get? b=some u)
 (K:∀b,H b=some (.own a)->H' b=some (.own a)) (F:∀b (x:Im),H b=some x.ho->H' b=some x.ho):AG P w H' h' a o:=by
 induction o with
 | lst B=>obtain ⟨z,m,n,r,e⟩:=x; exact (z,m,n,r,k _ _ (.inl rfl) e)
 | tup B=>obtain ⟨z,m,r,g,e,c⟩:=x; exact (z,m,r,g,k _ _ (.inl rfl) e,c)
 | dK E=>obtain ⟨z,y,D,r,g,j,i,e,c⟩:=x; exact (z,y,D,r,g,j,i,k _ _ (.inl rfl) e,c)
 | dT E =>
  obtain ⟨z,y,B,r,g,j,i,e,c⟩:=x;exact (z,y,B,Paired.mapP r λp q z=>(z.1,F _ (.tup _) z.2.1,z.2.2),g,j,i,k _ _ (.inl rfl) e,c)
 | set S n=>obtain ⟨g,j,i,t,e,c⟩:=x; exact (g,j,i,t,k _ _ (.inl rfl) e,c)
 | ins C N L =>
  obtain ⟨d,z,I,e,s,⟨A,j,i,J,c⟩,r⟩:=x;exact (K _ d,z,I,k _ _ (.inl rfl) e,s,(A,j,i,k _ _ (.inr d) J,c),r)
 | own y=>obtain ⟨g,e⟩:=x; exact (g,k _ _ (.inl rfl) e)
 | xd L=>obtain ⟨s,⟨A,j,i,e,c⟩,r⟩:=x; exact (s,(A,j,i,k _ _ (.inl rfl) e,c),r)
 | rng Q O=>obtain ⟨t,u,v,e⟩:=x; exact (t,u,v,k _ _ (.inl rfl) e)
 | frz g u M=>obtain ⟨e,q⟩:=x; exact (k _ _ (.inl rfl) e,M q)
 | tbl R =>
  rcases x with e | ⟨l,c,q,t,c',oc,D,t',e0,e,z,r⟩
  ·exact .inl (k a _ (.inl rfl) e)
  ·exact .inr (l,c,q,t,c',oc,D,t',e0,k a _ (.inl rfl) e,F _ (.frz oc<|.own c') z,r)
 | met f y =>
  have e:=x;exact k a _ (.inl rfl) e
 | ext T=>obtain ⟨p,⟨o,e⟩,G⟩:=x; exact (G _ _ p λo q=>k _ _ (.inl rfl) q,(o,k _ _ (.inl rfl) e),G)
theorem Cm.lt(x:Cm P w H h)(e:H a=some o):a<h.objs.size:=(x a o e).lt
theorem Cm.fresh(x:Cm P w H h)(e:h.objs.size<=a):H a=none:=by
 cases q:H a with
 |none=>rfl
 |some u=>exact absurd (Q9 (x.lt q) e)<|Qs _
theorem Cm.kept(x:Cm P w H h)(k:∀b u,h.get? b=some u->h'.get? b=some u):Cm P w H h':=λa o e =>
 (x a o e).stay (λb u _ q=>k b u q) (λ_ q=>q) λ_ _ q=>q
theorem Cm.laid(x:Cm P w H h)(k:∀b u,h.get? b=some u->h'.get? b=some u)(hp:h.objs.size<=a)(d:AG P w (As H a o) h' a o):Cm P w (As H a o) h':=λb u e=>by
 have f:=x.fresh hp
 by_cases hb:b=a
 ·subst hb;rw[A4] at e;cases e;exact d
 ·rw[AL hb] at e;exact (x b u e).stay (λc v _ q=>k c v q) (λc q=>by rw[AL<|Dj q f];exact q) λc g q=>by rw[AL<|Dj q f];exact q
end
def Rd(H:Hp)(a:Addr)(u:HO):Prop:=H a=some u\/∃o,H a=some (.frz o u)
theorem Rd.ok(r:Rd H a u)(x:Cm P w H h):AG P w H h a u:=by
 rcases r with r|⟨o,r⟩
 ·exact x a u r
 ·obtain ⟨_,q⟩:=x a _ r;exact q
def Kt:Option HO->Prop
 |some (.lst _)=>True
 |some (.dK _)=>True
 |some (.dT _)=>True
 |some (.set _ _)=>True
 |some (.ins _ _ _)=>True
 |some (.ext _)=>True
 |_=>False
section
variable{P:Program}{w:World}{H:Hp}{h h':Heap}{x e:Addr}{o':HO}
theorem Cm.write(o:Cm P w H h)(f:Kt (H x))(l:e=x\/H e=some (.own x))(k:∀b u,b≠e->h.get? b=some u->h'.get? b=some u)(j:∃u,h'.get? e=some u)
 (g:AG P w (As H x o') h' x o'):Cm P w (As H x o') h':=λb u q=>by
 have a:∀c y,H c=some (.own y)->c≠x:=λc y r z=>by subst z; rw[r] at f; exact f
 have d:∀c (i:Im),H c=some i.ho->c≠x:=λc i r z=>by subst z; rw[r] at f; cases i <;> exact f
 by_cases hb:b=x
 ·subst hb; rw[A4] at q; cases q; exact g
 ·rw[AL hb] at q
  by_cases hbe:b=e
  ·have m:H b=some (.own x):=by
    rcases l with z | z
    ·exact absurd (hbe.trans z) hb
    ·rw[hbe]; exact z
   rw[q] at m; cases m;obtain ⟨v,n⟩:=j;exact (v,by rw[hbe]; exact n)
  ·refine (o b u q).stay (λc v hc r=>k c v ?_ r) (λc r=>by rw[AL<|a c b r]; exact r) λc p r=>by rw[AL<|d c p r]; exact r
   rcases hc with rfl | hc
   ·exact hbe
   ·rintro rfl
    rcases l with z | z
    ·exact a c b hc z
    ·rw[hc] at z; cases z; exact hb rfl
end
structure Un (fs ex:Ay) (H H':Hp) (h h':Heap):Prop where
 keep:∀b o,h.get? b=some o->H b=none->b∉fs->b∉ex->h'.get? b=some o
 slot:∀b o,h.get? b=some o->H b=none->b∈fs->b∉ex->∃sl,h'.get? b=some { o with slots:=sl }
 free:∀b o,h.get? b=some o->H b=none->b∉ex->H' b=none
 there:∀b o,h.get? b=some o->b∉ex->∃o',h'.get? b=some o'
 tups:∀b xs,H b=some (.tup xs)->H' b=some (.tup xs)
 frzs:∀b o u,H b=some (.frz o u)->H' b=some (.frz o u)
 tbls:∀b ps,H b=some (.tbl ps)->∃more,H' b=some (.tbl (ps++more))
section
variable{fs fs' ex ex':Ay}{H H1 H2:Hp}{h h1 h2 h':Heap}{a x e:Addr}{o:HO}
theorem Un.any(u:Un fs ex H H1 h h1){b:Addr}{c:Obj}(q:h.get? b=some c)(n:H b=none)(d:b∉ex):∃f,h1.get? b=some { c with slots:=f }:=by
 by_cases hb:b∈fs
 ·exact u.slot b c q n hb d
 ·exact (c.slots,u.keep b c q n hb d)
theorem Un.kept(k:∀b u,h.get? b=some u->h'.get? b=some u):Un fs ex H H h h' :=
 (λb c q _ _ _=>k b c q,λb c q _ _ _=>(c.slots,k b c q),λ_ _ _ n _=>n,λb c q _=>(c,k b c q),λ_ _ q=>q,λ_ _ _ q=>q,λ_ d q=>(#[],by rw[q];simp))
theorem Un.refl:Un fs ex H H h h:=Un.kept λ_ _ q=>q
theorem Un.laid(k:∀b u,h.get? b=some u->h'.get? b=some u)(hp:h.objs.size<=a)(c:H a=none):Un fs ex H (As H a o) h h' where
 keep:=λb u q _ _ _=>k b u q
 slot:=λb u q _ _ _=>(u.slots,k b u q)
 free:=λb u q n _=>by rw[AL<|Qb<|Q9 (qN q) hp];exact n
 there:=λb u q _=>(u,k b u q)
 tups:=λb d q=>by rw[AL<|Dj q c];exact q
 frzs:=λb u d q=>by rw[AL<|Dj q c];exact q
 tbls:=λb f q=>(#[],by rw[AL<|Dj q c,q];simp)
theorem Un.write(c:Kt (H x))(l:e=x\/H e=some (.own x))(k:∀b u,b≠e->h.get? b=some u->h'.get? b=some u)(d:∃u,h'.get? e=some u):Un fs ex H (As H x o) h h':=by
 have i:∀b,H b=none->b≠x:=λb n z=>by subst z;rw[n] at c;exact c
 have g:∀b,H b=none->b≠e:=λb n z=>by
  subst z;rcases l with r|r
  ·exact i b n r
  ·rw[n] at r;cases r
 have f:∀b u,H b=some u->¬Kt (some u)->b≠x:=λb u q j z=>by subst z;rw[q] at c;exact j c
 refine (λb u q n _ _=>k b u (g b n) q,λb u q n _ _=>(u.slots,k b u (g b n) q),λb u q n _=>by rw[AL<|i b n];exact n,λb u q _=>?_,
  λb m q=>by rw[AL<|f b _ q λz=>z];exact q,λb u m q=>by rw[AL<|f b _ q λz=>z];exact q,λb p q=>(#[],by rw[AL<|f b _ q λz=>z,q];simp))
 by_cases hbe:b=e
 ·subst hbe;exact d
 ·exact (u,k b u hbe q)
end
def JS(h:Heap)(H:Hp):Ay:=(List.range h.objs.size).filter λa=>(H a).isSome
def Fu(h:Heap)(H:Hp):Heap:=PySem.W.hideAll h<|JS h H
theorem ZB(h:Heap)(H:Hp):(Fu h H).objs.size=h.objs.size:=PySem.W.hideAll_size _ _
theorem J1{h:Heap}{H:Hp}{b:Addr}{o:Obj}(e:h.get? b=some o)(n:H b=none):(Fu h H).get? b=some o :=
 PySem.W.hideAll_get _ e λa=>by
  have q:=(Wn.mp a).2;rw[n] at q;simp at q
theorem YW{h:Heap}{b:Addr}{o:Obj}(e:(Fu h H).get? b=some o):h.get? b=some o/\H b=none:=by
 have a:=PySem.W.of_hideAll (JS h H) e;refine (a,?_)
 cases q:H b with
 |none=>rfl
 |some x =>
  have c:b∈JS h H:=Wn.mpr (Wq.mpr<|qN a,by simp[q]);have z:(Fu h H).get? b=none:=PySem.W.hideAll_none (JS h H) c;rw[z] at e;cases e
structure Mod (K:Ac) (mg:Ai) (base:Heap):Prop where
 kin:K.In base
 glob:base.Ns mainGlobals mg
 blt:∃mb,base.Ns builtinsNs mb/\∀x:Str,x ≠"__name__" -> mb x=bootBuiltins x
 nolimit:base.NoLimit
structure Cx where
 prog:Program
 w:World
 K:Ac
 mg:Str->Option Value
 base:Heap
 A:Around
 N:List Str
 s₀:Shared
 H₀:Hp
 env:Env
 outer:List Env
 stack:List Env
 ex:Ay
 fn:Str->Bool
 calm:Bool
 pn:List (Addr×Obj)
 xe:Value->Shared->Prop
def BH(l:List Env):Ay:=l.filterMap (·.frame)
abbrev Cx.fs(X:Cx):Ay:=BH X.outer
def ET(a:Scope)(x:Str):Prop:=a.names.lookup x=some .local\/a.names.lookup x=some .cell\/a.names.lookup x=some .free
def Loc(a:Scope)(x:Str):Prop:=a.names.lookup x=some .local\/a.names.lookup x=some .cell
def jO(env:Env)(h:Heap)(m:Str->Option Value)(x:Str)(u:Value):Prop :=
 (env.kindOf x=some .local/\m x=some u)\/((env.kindOf x=some .cell\/env.kindOf x=some .free)/\∃c,env.cells.lookup x=some c/\h.IsCell c (some u))
structure Cx.Ok (X:Cx):Prop where
 mod:Mod X.K X.mg X.base
 kind:X.env.scope.kind = .function
 glob:X.env.globals=mainGlobals
 blt:X.env.builtins=builtinsNs
 above:X.s₀.heap.objs.size<=X.env.locals
 inj:∀x y c,X.env.cells.lookup x=some c->X.env.cells.lookup y=some c->x=y
 has:∀x,(X.env.kindOf x=some .cell\/X.env.kindOf x=some .free)->∃c,X.env.cells.lookup x=some c
 cab:∀x c,X.fn x=true->X.env.cells.lookup x=some c->X.s₀.heap.objs.size<=c
 hd:X.calm=true->X.A.handled=none
 frames:X.A.frames=some X.stack
 stk:X.stack=X.outer\/(X.stack=X.env::X.outer/\X.env.frame=some X.env.locals)
 exf:∀b∈X.ex,b≠X.env.locals/\∀x c,X.env.cells.lookup x=some c->c≠b
 bs:∀b o,X.base.get? b=some o->X.s₀.heap.get? b=some o/\X.H₀ b=none
 bsz:X.base.objs.size<=X.s₀.heap.objs.size
 noex:∀b o,X.base.get? b=some o->b∉X.ex
 exfs:∀b∈X.ex,b∉X.fs
 funs:X.s₀.heap.FunFrames X.base X.outer
 frf:∀b∈X.fs,X.H₀ b=none
structure Inv (X:Cx) (pins:List (Addr×Obj)) (σ:List (Option V)) (H:Hp) (s:Shared):Prop where
 ok:X.Ok
 os:s.os=X.s₀.os
 bare:AllBare s.gens
 base:Un X.fs X.ex X.H₀ H X.s₀.heap s.heap
 loc:∃m,s.heap.Ns X.env.locals m/\∀(i:Nat) (x:Str) (v:V),X.N[i]?=some x->σ[i]?=some (some v)->ET X.env.scope x->∃u,RelV v u/\jO X.env s.heap m x u
 cell:∀x c,X.env.cells.lookup x=some c->∃v,s.heap.IsCell c v
 free:H X.env.locals=none
 freeC:∀x c,X.env.cells.lookup x=some c->H c=none
 pin:∀p∈X.pn++pins,s.heap.get? p.1=some p.2/\H p.1=none/\p.1≠X.env.locals/\p.1∉X.fs/\∀v,p.2.data ≠ .cell v
 hok:Cm X.prog X.w H s.heap
 len:σ.length=X.N.length
section
variable{X:Cx}{pins:List (Addr×Obj)}{σ:List (Option V)}{H H':Hp}{s:Shared}{h':Heap}
theorem Cx.Ok.nofr(c:X.Ok){b:Addr}{o:Obj}(e:X.base.get? b=some o):b∉X.fs:=λa=>by
 have:=(c.funs.mem a).1;rw[e] at this;cases this
theorem Inv.bs(I:Inv X pins σ H s):∀b o,X.base.get? b=some o->s.heap.get? b=some o/\H b=none:=λb o e =>
 (I.base.keep b o (I.ok.bs b o e).1 (I.ok.bs b o e).2 (I.ok.nofr e)<|I.ok.noex b o e,I.base.free b o (I.ok.bs b o e).1 (I.ok.bs b o e).2<|I.ok.noex b o e)
theorem Inv.bk(I:Inv X pins σ H s):∀b o,X.base.get? b=some o->s.heap.get? b=some o:=λb o e=>(I.bs b o e).1
theorem Inv.mod(I:Inv X pins σ H s):Mod X.K X.mg X.base:=I.ok.mod
theorem Inv.kIn(I:Inv X pins σ H s):X.K.In s.heap:=I.ok.mod.kin.keeps I.bk
theorem Inv.nolimit(I:Inv X pins σ H s):s.heap.NoLimit:=I.ok.mod.nolimit.keeps I.bk
theorem Inv.fr(I:Inv X pins σ H s):∃m,Fr X.base X.env.locals s.heap m :=
 let ⟨m,hn,_⟩:=I.loc
 (m,hn,I.bk,Q0 I.ok.bsz I.ok.above)
theorem Inv.lt(I:Inv X pins σ H s):X.env.locals<s.heap.objs.size:=let ⟨_,hn,_⟩:=I.loc;hn.lt
theorem Inv.sz(I:Inv X pins σ H s):X.s₀.heap.objs.size<=s.heap.objs.size:=Q0 I.ok.above<|Wf I.lt
theorem Inv.nofs(I:Inv X pins σ H s){a:Addr}(h:s.heap.objs.size<=a):a∉X.fs:=λc=>by
 obtain ⟨_,o,b,_⟩:=I.ok.funs.mem c;exact absurd (Q9 (qN b)<|Q0 I.sz h)<|Qs _
theorem Inv.cne(I:Inv X pins σ H s):∀x c,X.env.cells.lookup x=some c->c≠X.env.locals:=λx c e z=>by
 obtain ⟨v,o,d,f⟩:=I.cell x c e;obtain ⟨m,⟨h,g,i,a,b,_⟩,_⟩:=I.loc;rw[z,a] at d;cases d;rw[b] at f;cases f
theorem Inv.funs(I:Inv X pins σ H s):s.heap.FunFrames X.base X.outer:=by
 have d:∀(l:List Env),(∀b∈BH l,b∈X.fs)->X.s₀.heap.FunFrames X.base l->s.heap.FunFrames X.base l:=by
  intro l
  induction l with
  |nil=>intro _ _;trivial
  |cons p r j =>
   intro g q;obtain ⟨n,⟨L,o,a,i,h,m⟩,k⟩:=q;have f:=g L (by unfold BH;rw[rV,a];exact Wc);obtain ⟨t,e⟩:=I.base.slot L o h (I.ok.frf L f) f λz=>I.ok.exfs L z f;exact (n,(L,_,a,i,e,m),j (λb c=>g b (by unfold BH;rw[rV,a];exact Wg _ c)) k)
 exact d X.outer (λ_ c=>c) I.ok.funs
theorem Inv.stack(I:Inv X pins σ H s):s.heap.FunFrames X.base X.stack:=by
 rcases I.ok.stk with e|⟨e,hf⟩
 ·rw[e];exact I.funs
 ·rw[e];obtain ⟨m,a,_⟩:=I.loc;refine .cons (by rw[I.ok.kind];decide) hf a ?_ I.funs;exact Heap.get?_none_of_le<|Q0 I.ok.bsz I.ok.above
theorem Inv.stkSub(I:Inv X pins σ H s):∀b∈BH X.stack,b∈X.env.locals::X.fs:=λb a=>by
 rcases I.ok.stk with e|⟨e,hf⟩
 ·rw[e] at a;exact Wg _ a
 ·rw[e] at a;unfold BH at a;rw[rV,hf] at a;exact a
theorem Inv.stkFree(I:Inv X pins σ H s):∀b∈BH X.stack,H b=none:=λb hb=>by
 rcases Qd.mp (I.stkSub b hb) with e|hb
 ·rw[e];exact I.free
 ·obtain ⟨_,o,a,_⟩:=I.ok.funs.mem hb;exact I.base.free b o a (I.ok.frf b hb) λz=>I.ok.exfs b z hb
theorem Inv.step{t':Nat}{d':Drawn}{ch:Ay}(I:Inv X pins σ H s)
 (h:∀b∈ch,(b∈X.ex\/X.s₀.heap.objs.size<=b)/\b≠X.env.locals/\(∀x c,X.env.cells.lookup x=some c->c≠b)/\∀p∈X.pn++pins,p.1≠b)
 (g:∀b o,b≠X.env.locals->b∉X.fs->b∉ch->s.heap.get? b=some o->H b=none->h'.get? b=some o)
 (A:∀b o,b≠X.env.locals->b∈X.fs->b∉ch->s.heap.get? b=some o->H b=none->∃O,h'.get? b=some { o with slots:=O }) (f:∀b o,b∉ch->s.heap.get? b=some o->H b=none->H' b=none)
 (B:∀b o,b∉ch->s.heap.get? b=some o->∃F,h'.get? b=some F)
 (E:∀b xs,H b=some (.tup xs)->H' b=some (.tup xs)) (M:∀b o u,H b=some (.frz o u)->H' b=some (.frz o u)) (K:∀b ps,H b=some (.tbl ps)->∃L,H' b=some (.tbl<|ps++L))
 (U:∀m,s.heap.Ns X.env.locals m->h'.Ns X.env.locals m) (N:Cm X.prog X.w H' h') (W:AllBare g') :
 Inv X pins σ H' { s with heap:=h',gens:=g',drawn:=d',toks:=t' }:=by
 have J:∀b o,X.s₀.heap.get? b=some o->b≠X.env.locals:=λb o e=>Qb<|Q9 (qN e) I.ok.above;have w:∀b o,X.s₀.heap.get? b=some o->b∉X.ex->b∉ch:=λb o e a C=>by
  rcases (h b C).1 with z | z
  ·exact a z
  ·exact absurd (Q9 (qN e) z) (Qs _)
 have j:∀x c,X.env.cells.lookup x=some c->∀v,s.heap.IsCell c v->h'.IsCell c v:=λx c e v ⟨o,D,P⟩=>by
  have t:c∉ch:=λz=>(h c z).2.2.1 x c e rfl
  by_cases hc:c∈X.fs
  ·obtain ⟨O,q⟩:=A c o (I.cne x c e) hc t D<|I.freeC x c e
   exact (_,q,P)
  ·exact (o,g c o (I.cne x c e) hc t D<|I.freeC x c e,P)
 refine (I.ok,I.os,W,(λb o e n C a=>?_,λb o e n C a=>?_,λb o e n a=>?_,λb o e a=>?_,λb xs e=>E b xs<|I.base.tups b xs e,λb o xs e=>M b o xs<|I.base.frzs b o xs e,λb ps e=>?_),?_,λx c e=>?_,?_,λx c e=>?_,λp S=>?_,N,I.len)
 ·exact g b o (J b o e) C (w b o e a) (I.base.keep b o e n C a) (I.base.free b o e n a)
 ·obtain ⟨O,y⟩:=I.base.slot b o e n C a
  obtain ⟨Q,G⟩:=A b _ (J b o e) C (w b o e a) y<|I.base.free b o e n a;exact (Q,G)
 ·obtain ⟨F,y⟩:=I.base.there b o e a
  exact f b F (w b o e a) y<|I.base.free b o e n a
 ·obtain ⟨F,y⟩:=I.base.there b o e a
  exact B b F (w b o e a) y
 ·obtain ⟨m1,y⟩:=I.base.tbls b ps e
  obtain ⟨m2,G⟩:=K b _ y;exact (m1++m2,by rw[G,Array.append_assoc])
 ·obtain ⟨m,Y,Z⟩:=I.loc
  refine (m,U m Y,λi x v y G e3=>?_);obtain ⟨u,r,l⟩:=Z i x v y G e3;refine (u,r,?_);rcases l with l | ⟨k,c,e,z⟩
  ·exact .inl l
  ·exact .inr (k,c,e,j x c e _ z)
 ·obtain ⟨v,z⟩:=I.cell x c e
  exact (v,j x c e v z)
 ·obtain ⟨m,⟨o,_,_,D,_⟩,_⟩:=I.loc
  exact f _ o (λz=>(h _ z).2.1 rfl) D I.free
 ·obtain ⟨v,o,D,P⟩:=I.cell x c e
  exact f c o (λz=>(h c z).2.2.1 x c e rfl) D<|I.freeC x c e
 ·obtain ⟨e,n,R,T,d⟩:=I.pin p S
  have t:p.1∉ch:=λz=>(h p.1 z).2.2.2 p S rfl;exact (g p.1 p.2 R T t e n,f p.1 p.2 t e n,R,T,d)
theorem Inv.un{t':Nat}(I:Inv X pins σ H s)(u:Un X.fs [] H H' s.heap h')(g:Cm X.prog X.w H' h'):Inv X pins σ H' { s with heap:=h',toks:=t' }:=by
 obtain ⟨m,⟨o,v,q,h,r⟩,_⟩:=id I.loc;obtain ⟨t,k⟩:=u.any h I.free (by simp);exact I.step (g':=s.gens) (d':=s.drawn) (ch:=[]) (λ_ z=>nomatch z) (λb o _ f _ e n=>u.keep b o e n f (by simp)) (λb o _ f _ e n=>u.slot b o e n f (by simp)) (λb o _ e n=>u.free b o e n (by simp)) (λb o _ e=>u.there b o e (by simp)) u.tups u.frzs u.tbls (λl j=>by
  obtain ⟨p,c,d,a,i⟩:=j;rw[h] at a;cases a;exact (_,c,d,k,i)) g I.bare
theorem Inv.call{t':Nat}{d':Drawn}(I:Inv X pins σ H s)(u:Un (BH X.stack) ch H H' s.heap h')(j:Cm X.prog X.w H' h')(l:AllBare g')
 (f:∀b∈ch,(b∈X.ex\/X.s₀.heap.objs.size<=b)/\b≠X.env.locals/\(∀x c,X.env.cells.lookup x=some c->c≠b)/\∀p∈X.pn++pins,p.1≠b) :
 Inv X pins σ H' { s with heap:=h',gens:=g',drawn:=d',toks:=t' }:=by
 obtain ⟨m,⟨o,C,y,k,r⟩,_⟩:=id I.loc;obtain ⟨A,i⟩:=u.any k I.free λz=>(f _ z).2.1 rfl;exact I.step (ch:=ch) f (λb o i v a e n=>u.keep b o e n (λz=>(Qd.mp<|I.stkSub b z).elim i v) a) (λb o _ _ a e n=>u.any e n a) (λb o a e n=>u.free b o e n a) (λb o a e=>u.there b o e a) u.tups u.frzs u.tbls (λw t=>by
  obtain ⟨B,g,h,d,q⟩:=t;rw[k] at d; cases d;exact (_,g,h,i,q)) j l
theorem Inv.turned{t':Nat}{it:Addr}(I:Inv X pins σ H s)(k:∀b o,b≠it->s.heap.get? b=some o->h'.get? b=some o)(j:H it=none)(f:it≠X.env.locals)
 (t:it∈X.ex\/X.s₀.heap.objs.size<=it) (A:∀x c,X.env.cells.lookup x=some c->c≠it) (l:∀p∈X.pn++pins,p.1≠it):Inv X pins σ H { s with heap:=h',toks:=t' }:=by
 have d:∀b u,H b=some u->b≠it:=λb u e z=>by rw[z,j] at e; cases e
 refine I.step (g':=s.gens) (d':=s.drawn) (ch:=[it]) (λb w=>?_) (λb o _ _ a e _=>k b o (λz=>a (by simp[z])) e) (λb o _ _ a e _=>(o.slots,k b o (λz=>a (by simp[z])) e)) (λ_ _ _ _ n=>n)
  (λb o a e=>(o,k b o (λz=>a (by simp[z])) e)) (λ_ _ e=>e) (λ_ _ _ e=>e) (λb B e=>(#[],by rw[e]; simp)) (λm i=>?_) (λb u e=>?_) I.bare
 ·have e:b=it:=by simpa using w
  subst e;exact (t,f,A,l)
 ·obtain ⟨o,y,h,g,r⟩:=i
  exact (o,y,h,k _ o (rC f) g,r)
 ·refine (I.hok b u e).stay (λc v a q=>k c v ?_ q) (λ_ q=>q) λ_ _ q=>q
  rcases a with z | z
  ·rw[z]; exact d b u e
  ·exact d c _ z
theorem Inv.tok(I:Inv X pins σ H s)(t:Nat):Inv X pins σ H { s with toks:=t }:=I.un (h':=s.heap) (t':=t) Un.refl I.hok
theorem Inv.kept{t':Nat}(I:Inv X pins σ H s)(k:∀b u,s.heap.get? b=some u->h'.get? b=some u):Inv X pins σ H { s with heap:=h',toks:=t' }:=I.un (Un.kept k)<|I.hok.kept k
theorem Inv.laid{a:Addr}{t':Nat}(I:Inv X pins σ H s)(k:∀b u,s.heap.get? b=some u->h'.get? b=some u)(hp:s.heap.objs.size<=a)(c:AG X.prog X.w (As H a o) h' a o) :
 Inv X pins σ (As H a o) { s with heap:=h',toks:=t' }:=I.un (Un.laid k hp<|I.hok.fresh hp)<|I.hok.laid k hp c
theorem Inv.write{x e:Addr}{t':Nat}(I:Inv X pins σ H s)(d:Kt (H x))(f:e=x\/H e=some (.own x))(k:∀b u,b≠e->s.heap.get? b=some u->h'.get? b=some u)(a:∃u,h'.get? e=some u)
 (c:AG X.prog X.w (As H x o) h' x o):Inv X pins σ (As H x o) { s with heap:=h',toks:=t' }:=I.un (Un.write d f k a)<|I.hok.write d f k a c
theorem Inv.weak{a:List (Option V)}(I:Inv X pins σ H s)(d:a.length=σ.length)(w:∀(i:Nat) v,a[i]?=some (some v)->σ[i]?=some (some v)):Inv X pins a H s :=
 (I.ok,I.os,I.bare,I.base,let ⟨m,hn,hl'⟩:=I.loc;(m,hn,λi x v b c e=>hl' i x v b (w i v c) e),I.cell,I.free,I.freeC,I.pin,I.hok,d.trans I.len)
theorem Inv.pins_of{pins':List (Addr×Obj)}(I:Inv X pins σ H s)(h:∀p∈pins',s.heap.get? p.1=some p.2/\H p.1=none/\p.1≠X.env.locals/\p.1∉X.fs/\∀v,p.2.data ≠ .cell v):Inv X pins' σ H s :=
 (I.ok,I.os,I.bare,I.base,I.loc,I.cell,I.free,I.freeC,λp a=>(Qp.mp a).elim (λz=>I.pin p<|sF _ z)<|h p,I.hok,I.len)
theorem SH{N:List Str}(e:N.Nodup){i j:Nat}{x:Str}(a:N[i]?=some x)(b:N[j]?=some x):i=j:=by
 obtain ⟨f,c⟩:=Qr.mp a;obtain ⟨g,d⟩:=Qr.mp b;exact (List.getElem_inj e).mp<|c.trans d.symm
theorem Np{i:Nat}{x:Str}{Q:Unit->Shared->Prop}(I:Inv X pins σ H s)(hN:X.N.Nodup)(N:X.N[i]?=some x)(t:Loc X.env.scope x)(r:RelV v u)
 (h:∀s',Inv X pins (σ.set i<|some v) H s'->(∃a,Heap.SameBut a s.heap s'.heap/\(a=X.env.locals\/X.env.cells.lookup x=some a))->Q () s') (hf:X.fn x=true\/X.env.scope.names.lookup x=some .local:=by first | exact .inl rfl | exact .inr rfl | assumption):wpAny M A (storeName X.env x u) Q E s:=by
 obtain ⟨m,Z,hl⟩:=id I.loc;have L:(X.env.scope.kind == .class||(X.env.scope.kind == .module&&X.env.locals != X.env.globals))=false:=by rw[I.ok.kind]; rfl
 have C:i<σ.length:=by rw[I.len]; exact (Qr.mp N).1
 have D:=I.cne;have g:∀ {a:Addr} {h':Heap},(∃o,s.heap.get? a=some o/\H a=none)->Heap.SameBut a s.heap h'->Cm X.prog X.w H h':=fun {a h'} ha f b ob e=>by
  obtain ⟨_,_,w⟩:=ha;refine (I.hok b ob e).stay (λc S hc q=>(f.2 c ?_).trans q) (λ_ q=>q) λ_ _ q=>q;rintro rfl;rcases hc with rfl | hc
  ·rw[w] at e; cases e
  ·rw[w] at hc; cases hc
 rcases t with hk | hk
 ·refine wpAny_storeName_local hk Z (λh' Y f=>?_) L
  obtain ⟨oL,_,_,a0,_⟩:=id Z;refine h _ (I.ok,I.os,I.bare,(λb o e n G t=>?_,λb o e n G t=>?_,I.base.free,λb o e t=>?_,I.base.tups,I.base.frzs,I.base.tbls),(_,Y,λj y T l B e3=>?_),λy c e=>?_,I.free,I.freeC,λp hp=>?_,g (oL,a0,I.free) f,by simpa using I.len) (_,f,.inl rfl)
  ·exact (f.2 b<|Qb<|Q9 (qN e) I.ok.above).trans (I.base.keep b o e n G t)
  ·obtain ⟨W,l⟩:=I.base.slot b o e n G t
   exact (W,(f.2 b<|Qb<|Q9 (qN e) I.ok.above).trans l)
  ·obtain ⟨U,l⟩:=I.base.there b o e t
   exact (U,(f.2 b<|Qb<|Q9 (qN e) I.ok.above).trans l)
  ·by_cases hj:j=i
   ·subst hj
    rw[N] at l; cases l;rw[List.getElem?_set_self C] at B
    cases B
    exact (u,r,.inl (hk,by simp))
   ·rw[List.getElem?_set_ne<|rC hj] at B
    obtain ⟨u',r',q⟩:=hl j y T l B e3;refine (u',r',?_);rcases q with ⟨k,e⟩ | ⟨k,c,e,z⟩
    ·refine .inl (k,?_)
     have:y≠x:=λe=>hj<|SH hN l<|e ▸ N
     simp[this,e]
    ·exact .inr (k,c,e,z.sameBut f<|D y c e)
  ·obtain ⟨S,z⟩:=I.cell y c e
   exact (S,z.sameBut f<|D y c e)
  ·obtain ⟨e,n,P,nf,d⟩:=I.pin p hp
   exact ((f.2 p.1 P).trans e,n,P,nf,d)
 ·have F:X.fn x=true:=by
   rcases hf with z | z
   ·exact z
   ·rw[z] at hk; cases hk
  obtain ⟨c,hc⟩:=I.ok.has x<|.inl hk;obtain ⟨S,z⟩:=I.cell x c hc;refine wpAny_storeName_cell I.ok.kind hk hc z<|λh' K f=>?_;obtain ⟨oc,O,J⟩:=id z;refine h { s with heap:=h' } (I.ok,I.os,I.bare,(λb o e n G t=>?_,λb o e n G t=>?_,I.base.free,λb o e t=>?_,I.base.tups,I.base.frzs,I.base.tbls),(m,Z.sameBut f<|rC<|D x c hc,λj y T l B e3=>?_),λy R e=>?_,I.free,I.freeC,λp hp=>?_,g (oc,O,I.freeC x c hc) f,by simpa using I.len) (c,f,.inr hc)
  ·exact (f.2 b<|Qb<|Q9 (qN e)<|I.ok.cab x c F hc).trans (I.base.keep b o e n G t)
  ·obtain ⟨W,l⟩:=I.base.slot b o e n G t
   exact (W,(f.2 b<|Qb<|Q9 (qN e)<|I.ok.cab x c F hc).trans l)
  ·obtain ⟨U,l⟩:=I.base.there b o e t
   exact (U,(f.2 b<|Qb<|Q9 (qN e)<|I.ok.cab x c F hc).trans l)
  ·by_cases hj:j=i
   ·subst hj
    rw[N] at l; cases l;rw[List.getElem?_set_self C] at B
    cases B
    exact (u,r,.inr (.inl hk,c,hc,K))
   ·rw[List.getElem?_set_ne<|rC hj] at B
    obtain ⟨u',r',q⟩:=hl j y T l B e3;refine (u',r',?_);rcases q with q | ⟨k,R,e,z'⟩
    ·exact .inl q
    ·refine .inr (k,R,e,z'.sameBut f ?_)
     rintro rfl;exact hj<|SH hN l<|I.ok.inj _ _ _ e hc ▸ N
  ·by_cases hcc:R=c
   ·subst hcc; exact (_,K)
   ·obtain ⟨w2,z2⟩:=I.cell y R e
    exact (w2,z2.sameBut f hcc)
  ·obtain ⟨e,n,P,nf,d⟩:=I.pin p hp
   refine ((f.2 p.1 ?_).trans e,n,P,nf,d);intro q;rw[q,O] at e;have q':=rA e;exact d S (by rw[<-q']; exact J)
theorem JF{i:Nat}{x:Str}{Q:Unit->Shared->Prop}(I:Inv X pins σ H s)(c:X.N.Nodup)(e:X.N[i]?=some x)(f:Loc X.env.scope x)(r:RelV v u)
 (h:∀a,Inv X pins (σ.set i<|some v) H a->Q () a) (b:X.fn x=true\/X.env.scope.names.lookup x=some .local:=by first | exact .inl rfl | exact .inr rfl | assumption):wpAny M A (storeName X.env x u) Q E s :=
 Np I c e f r (λa d _=>h a d) b
theorem Inv.call'{a:Shared}(I:Inv X pins σ H s)(g:a.os=s.os)(u:Un (BH X.stack) ch H H' s.heap a.heap)(f:Cm X.prog X.w H' a.heap)(h:AllBare a.gens)
 (d:∀b∈ch,(b∈X.ex\/X.s₀.heap.objs.size<=b)/\b≠X.env.locals/\(∀x c,X.env.cells.lookup x=some c->c≠b)/\∀p∈X.pn++pins,p.1≠b):Inv X pins σ H' a:=by
 obtain ⟨h',g',d',t',i⟩:=a;have e:=g;subst e;exact I.call (g':=g') (t':=t') (d':=d') u f h d
end
abbrev XK:=Value->Option Addr->Hp->Prop
abbrev St:=List<|Option V
abbrev VK:=V->Hp->Prop
abbrev TE:=St->Hp->VK->Prop
abbrev TT:=St->Hp->(Bool->Hp->Prop)->Prop
abbrev TA:=St->Hp->(List V->Hp->Prop)->Prop
structure Dz where
 nx:St->Hp->Prop
 rt:VK
 bk:St->Hp->Prop:=λ_ _=>False
 ct:St->Hp->Prop:=λ_ _=>False
abbrev TS:=Dz->St->Hp->Prop
def EP(X:Cx)(a:List (Addr×Obj))(σ:St)(Q:VK)(u:Value)(c:Shared):Prop:=∃v b,Inv X a σ b c/\RelV v u/\Q v b
def TP(X:Cx)(a:List (Addr×Obj))(σ:St)(Q:Bool->Hp->Prop)(b:Bool)(d:Shared):Prop:=∃c,Inv X a σ c d/\Q b c
def AP(X:Cx)(a:List (Addr×Obj))(σ:St)(Q:List V->Hp->Prop)(us:List Value)(d:Shared):Prop:=∃c b,Inv X a σ b d/\Al c us/\Q c b
def SP(X:Cx)(b:List (Addr×Obj))(D:Dz)(f:Flow)(d:Shared):Prop :=
 match f with
 | .next=>∃a c,Inv X b a c d/\D.nx a c
 | .brk=>∃a c,Inv X b a c d/\D.bk a c
 | .cont=>∃a c,Inv X b a c d/\D.ct a c
 | .ret u=>∃v a c,Inv X b a c d/\RelV v u/\D.rt v c
def PE(X:Cx)(e:Expr)(t:TE):Prop :=
 ∀(a:List (Addr×Obj)) (s:Shared) (b:St) (H:Hp) (Q:VK),Inv X a b H s->t b H Q->wpAny (model X.prog X.w) X.A (eval e X.env) (EP X a b Q) X.xe s
def PT(X:Cx)(e:Expr)(t:TT):Prop :=
 ∀(a:List (Addr×Obj)) (s:Shared) (b:St) (H:Hp) (Q:Bool->Hp->Prop),Inv X a b H s->t b H Q->wpAny (model X.prog X.w) X.A (isTrue e X.env<|eval e X.env) (TP X a b Q) X.xe s
def PW(X:Cx)(e:Expr)(t:TT):Prop :=
 ∀(b:Sem Value) (a:List (Addr×Obj)) (s:Shared) (c:St) (H:Hp) (Q:Bool->Hp->Prop),Inv X a c H s->t c H Q->wpAny (model X.prog X.w) X.A (isTrue e X.env b) (TP X a c Q) X.xe s
theorem PW.pt{t:TT}(h:PW X e t):PT X e t:=h _
def PA(X:Cx)(d:List Expr)(t:TA):Prop :=
 ∀(b:Pos) (a:List (Addr×Obj)) (s:Shared) (c:St) (H:Hp) (Q:List V->Hp->Prop),Inv X a c H s->t c H Q->wpAny (model X.prog X.w) X.A (spliced<|backTo b<|starEach d X.env) (AP X a c Q) X.xe s
def PS(X:Cx)(st:Stmt)(t:TS):Prop :=
 ∀(a:List (Addr×Obj)) (s:Shared) (b:St) (H:Hp) (D:Dz),Inv X a b H s->t D b H->wpAny (model X.prog X.w) X.A (exec st X.env) (SP X a D) X.xe s
def CT(X:Cx)(st:List Stmt)(t:TS):Prop :=
 ∀(a:List (Addr×Obj)) (s:Shared) (b:St) (H:Hp) (D:Dz),Inv X a b H s->t D b H->wpAny (model X.prog X.w) X.A (execs st X.env) (SP X a D) X.xe s
theorem Ax{α:Type}{t:Sem α}{Q b:α->Shared->Prop}(h:wpAny M A t Q E s)(c:∀a s,Q a s->b a s):wpAny M A t b E s:=rE h c λ_ _ x=>x
section
variable{X:Cx}
theorem qE(m:PE X a k)(t:PE X b l){c:List (Addr×Obj)}{s:Shared}{σ:St}{H:Hp}{R:V->V->Hp->Prop}(I:Inv X c σ H s)(h:k σ H λx j=>l σ j λy d=>R x y d)
 {α:Type} {Q:α->Shared->Prop} {f:Value->Value->Sem α}
 (q:∀v u i x y d,Inv X c σ d i->RelV x v->RelV y u->R x y d->wpAny (model X.prog X.w) X.A (f v u) Q X.xe i) :
 wpAny (model X.prog X.w) X.A (eval a X.env) (λv g=>wpAny (model X.prog X.w) X.A (eval b X.env) (λu e=>wpAny (model X.prog X.w) X.A (f v u) Q X.xe e) X.xe g) X.xe s:=by
 refine Ax (m c s σ H _ I h) λv z ⟨x,j,A,n,p⟩=>?_;refine Ax (t c z σ j _ A p) λu i ⟨y,d,w,r,o⟩=>?_;exact q v u i x y d w n r o
inductive LK (i:Nat) (σ:St) (H:Hp) (Q:VK):Prop
 |mk (v:V) (_:σ[i]?=some (some v)) (_:Q v H):LK i σ H Q
def tC(v:V):TE:=λ_ H Q=>Q v H
theorem FH{i:Nat}{x:Str}{pos:Pos}(j:X.N[i]?=some x)(k:ET X.env.scope x)(f:(x==("__debug__":Str))=false:=by decide) (d:(x==("__classdict__":Str))=false:=by decide):PE X (.Name x pos) (LK i):=by
 intro b s g H Q I h;obtain ⟨v,e,h⟩:=h;obtain ⟨m,n,o⟩:=I.loc;obtain ⟨u,r,l⟩:=o i x v j e k;have a:EP X b g Q u s:=(v,H,I,r,h);rcases l with ⟨hk,hm⟩|⟨hk,c,hc,hcell⟩
 ·exact wpAny_Name (wpAny_loadName_local I.ok.kind hk n hm a) f
 ·rcases hk with hk|hk
  ·exact wpAny_Name (wpAny_loadName_cell I.ok.kind hk hc hcell a) f
  ·exact wpAny_Name (wpAny_loadName_free I.ok.kind hk hc hcell a d) f
theorem Aj{i j pos}:PE X (.Constant (.int i) j pos) (tC<|.int i):=λ_ _ _ H _ I h=>wpAny_Constant_int (.int i,H,I.tok _,(_,rfl),h)
theorem GA{b j pos}:PE X (.Constant (.bool b) j pos) (tC<|.bl b):=λ_ _ _ H _ I h=>Constant_bool (.bl b,H,I,rfl,h)
theorem OR{j pos}:PE X (.Constant .none j pos) (tC .non):=λ_ _ _ H _ I h=>Constant_none (.non,H,I,rfl,h)
theorem LD{x j pos}:PE X (.Constant (.str x) j pos) (tC<|.str x):=λ_ _ _ H _ I h=>Calls.Constant_str (.str x,H,I.tok _,(_,rfl),h)
def Gl(X:Cx)(x:Str):Prop:=X.env.kindOf x=some .globalImplicit
theorem Ii{u:Value}{pos:Pos}{Q:Value->Shared->Prop}(I:Inv X a σ H s)(b:Gl X x)(d:X.mg x=some u)(h:Q u s)
 (c:(x==("__debug__" : Str))=false:=by decide):wpAny (model X.prog X.w) X.A (eval (.Name x pos) X.env) Q E s :=
 Calls.Name_function_global I.ok.kind b (Calls.loadGlobal_global (by rw[I.ok.glob]; exact I.mod.glob.keeps I.bk) d h) c
theorem EH{u:Value}{pos:Pos}{Q:Value->Shared->Prop}(I:Inv X a σ H s)(b:Gl X x)(c:X.mg x=none)(d:bootBuiltins x=some u)(h:Q u s)
 (e:x ≠ "__name__" := by decide) (g:(x==("__debug__" : Str))=false:=by decide):wpAny (model X.prog X.w) X.A (eval (.Name x pos) X.env) Q E s:=by
 obtain ⟨j,f,i⟩:=I.mod.blt;exact Calls.Name_function_global I.ok.kind b (Calls.loadGlobal_builtin (by rw[I.ok.glob]; exact I.mod.glob.keeps I.bk) c (by rw[I.ok.blt]; exact f.keeps I.bk) ((i x e).trans d) h) g
theorem WO{u:Value}{pos:Pos}(a:Gl X x)(c:X.mg x=some u)(r:RelV v u)(b:(x==("__debug__":Str))=false:=by decide):PE X (.Name x pos) (tC v) :=
 λ_ _ _ H _ I h=>Ii I a c (v,H,I,r,h) b
theorem g8{u:Value}{pos:Pos}(b:Gl X x)(d:X.mg x=none)(e:bootBuiltins x=some u)(r:RelV v u)(a:x ≠"__name__":= by decide) (c:(x==("__debug__":Str))=false:=by decide):PE X (.Name x pos) (tC v) :=
 λ_ _ _ H _ I h=>EH I b d e (v,H,I,r,h) a c
variable{a b:Expr}{ta tb:TE}{pos:Pos}
def PC(X:Cx)(g:CmpOp)(a b:Expr)(t:TE):Prop :=
 ∀(c:List (Addr×Obj)) (s:Shared) (f:St) (H:Hp) (Q:VK),Inv X c f H s->t f H Q →
  wpAny (model X.prog X.w) X.A (eval a X.env) (λv e=>wpAny (model X.prog X.w) X.A (eval b X.env) (λu d=>wpAny (model X.prog X.w) X.A (compareOp g v u) (EP X c f Q) X.xe d) X.xe e) X.xe s
inductive Xc (x:V) (Q:Bool->Hp->Prop) (H1:Hp):Prop
 |mk (c:Bool) (_:x = .bl c) (_:Q c H1):Xc x Q H1
def tB(t:TE):TT:=λc H Q=>t c H λx d=>Xc x Q d
theorem qC{t:TE}(h:PC X g a b t)(f:behindInMarks g b=false:=by first|exact nobehind _ ∅ ∅ |rfl):PT X (.Compare a [g] [b] pos) (tB t):=by
 intro e s k H Q I m;refine wpAny_isTrue_Compare1 (Ax (h e s k H _ I m) λv r f=>Ax f λu w l=>Ax l λc p ⟨x,n,o,i,j⟩=>?_) f;obtain ⟨d,rfl,q⟩:=j
 cases i
 exact sG (n,o,q)
theorem DQ{e:Expr}{t:TE}(h:PE X e t)(i:∀c,isTrue e X.env c=(do let v ← c;standAt e.pos;holding [v] (truthy v)):=by intro _;rfl):PT X e (tB t):=by
 intro f s k H Q I l;refine isTrue_plain (Ax (h f s k H _ I l) λv o ⟨x,m,n,g,j⟩=>?_)<|i _;obtain ⟨d,rfl,q⟩:=j
 cases g
 exact sG (m,n,q)
variable{tA tB':TT}{rest:List Expr}
def mX(t u:TT):TT:=λd H Q=>t d H λc e=>if c=true then u d e Q else Q false e
def eM(t u:TT):TT:=λd H Q=>t d H λc e=>if c=true then Q true e else u d e Q
def f8(t:TT):TT:=λd H Q=>t d H λc e=>Q (!c) e
theorem Rb(f:PT X a tA):PW X (.BoolOp .And [a] pos) tA:=by
 intro i d s g H Q I h;refine isTrue_and<|Ax (f d s g H Q I h) λc j e=>?_
 cases c with
 |true=>exact isTrue_and_nil e
 |false=>exact e
theorem Hl(f:PT X a tA):PW X (.BoolOp .Or [a] pos) tA:=by
 intro i d s g H Q I h;refine isTrue_or<|Ax (f d s g H Q I h) λc j e=>?_
 cases c with
 |false=>exact isTrue_or_nil e
 |true=>exact e
theorem Xb(k:PT X a tA)(l:PW X (.BoolOp .And (b::rest) pos) tB'):PW X (.BoolOp .And (a::b::rest) pos) (mX tA tB'):=by
 intro j d s f H Q I h;refine isTrue_and<|Ax (k d s f H _ I h) λc m ⟨g,i,e⟩=>?_
 cases c with
 |true=>exact l j d m f g Q i e
 |false=>exact (g,i,e)
theorem FS(k:PT X a tA)(l:PW X (.BoolOp .Or (b::rest) pos) tB'):PW X (.BoolOp .Or (a::b::rest) pos) (eM tA tB'):=by
 intro j d s f H Q I h;refine isTrue_or<|Ax (k d s f H _ I h) λc m ⟨g,i,e⟩=>?_
 cases c with
 |true=>exact (g,i,e)
 |false=>exact l j d m f g Q i e
theorem GG(e:PT X a tA):PT X (.UnaryOp .Not a pos) (f8 tA):=by
 intro d s f H Q I h;exact isTrue_not<|e d s f H (λc g=>Q (!c) g) I h
def Xo(ta tb:TE):TE:=λd H Q=>ta d H λx e=>∃c,x = .bl c/\if c=true then tb d e Q else Q (.bl false) e
def k4(ta:TE):TE:=λd H Q=>ta d H λx e=>∃c,x = .bl c/\Q (.bl<|!c) e
theorem K4{op}{t:TE}(h:PE X a t):PE X (.BoolOp op [a] pos) t:=λc s d H Q I e=>BoolOp_one<|h c s d H Q I e
theorem KT(j:PE X a ta)(l:PE X (.BoolOp .And (b::rest) pos) tb):PE X (.BoolOp .And (a::b::rest) pos) (Xo ta tb):=by
 intro d s f H Q I h;refine BoolOp_and<|Ax (j d s f H _ I h) λv m ⟨x,g,i,k,e⟩=>?_;obtain ⟨c,rfl,e⟩:=e
 cases k
 refine sG ?_
 cases c with
 |true=>exact l d m f g Q i e
 |false=>exact (.bl false,g,i,rfl,e)
theorem Q2(f:PE X a ta):PE X (.UnaryOp .Not a pos) (k4 ta):=by
 intro d s i H Q I h;refine UnaryOp_<|Ax (f d s i H _ I h) λv l ⟨x,j,k,g,e⟩=>?_;obtain ⟨c,rfl,e⟩:=e
 cases g
 exact not_of<|sG (.bl<|!c,j,k,rfl,e)
def jP(t:TT)(ta tb:TE):TE:=λd H Q=>t d H λc e=>if c=true then ta d e Q else tb d e Q
theorem YN(l:PT X c tA)(m:PE X a ta)(n:PE X b tb):PE X (.IfExp c a b pos) (jP tA ta tb):=by
 intro e s f H Q I h;refine wpAny_IfExp<|Ax (l e s f H _ I h) λd g ⟨j,k,i⟩=>?_
 cases d with
 |true=>exact m e g f j Q k i
 |false=>exact n e g f j Q k i
end
def AR(K:Ac)(H:Hp)(a:Addr)(xs:List V):Prop :=
 Rd H a (.lst xs) ∨
  ∃(o:Obj) (b:Array Value) (n:Nat),K.lookup a=some o/\o.cls = .type "list" /\ o.dict=none/\o.data = .seq b n/\b.size<=sizeLine/\Al xs b.toList
def AI(K:Ac)(H:Hp)(a:Addr)(xs:List V):Prop :=
 Rd H a (.tup xs) ∨
  ∃(o:Obj) (b:Array Value) (n:Nat),K.lookup a=some o/\o.cls = .type "tuple" /\ o.data = .seq b n/\b.size<=sizeLine/\Al xs b.toList
def o6:Value->Option V
 | .none=>some .non
 | .bool b=>some<|.bl b
 | .int i _=>some<|.int i
 | .str x _=>some<|.str x
 | .bytes b _=>some<|.byt b
 | .float b _=>some<|.flt b
 | .ref a=>some<|.ref a
 | .type n=>some<|.ty n
 |_=>none
theorem RelV.abs(r:RelV x u):o6 u=some x:=by
 cases x with
 |non=>cases r;rfl
 |bl _=>cases r;rfl
 |int _=>obtain ⟨t,rfl⟩:=r;rfl
 |str _=>obtain ⟨t,rfl⟩:=r;rfl
 |byt _=>obtain ⟨t,rfl⟩:=r;rfl
 |flt _=>obtain ⟨t,rfl⟩:=r;rfl
 |ref _=>cases r;rfl
 |ty _=>cases r;rfl
theorem RelV.inj(r:RelV x u)(q:RelV y u):x=y:=rA<|r.abs.symm.trans q.abs
theorem Al.inj:∀ {xs ys:List V} {us:List Value},Al xs us->Al ys us->xs=ys
 |_,_,_,.nil,.nil=>rfl
 |_,_,_,.cons r t,.cons r' t'=>by rw[r.inj r',Al.inj t t']
section
variable{X:Cx}{pins:List (Addr×Obj)}{σ:St}{H:Hp}{s:Shared}{a:Addr}{xs ys:List V}
theorem AR.of{K:Ac}(h:H a=some (.lst xs)):AR K H a xs:=.inl<|.inl h
theorem AI.of{K:Ac}(h:H a=some (.tup xs)):AI K H a xs:=.inl<|.inl h
theorem Inv.list(I:Inv X pins σ H s)(h:AR X.K H a xs):∃its:List Value,Al xs its/\PlainL s.heap a its.toArray/\xs.length<=sizeLine:=by
 rcases h with h|⟨o,its,n,hk,hc,hd,hs,hz,r⟩
 ·obtain ⟨z,its,n,r,e⟩:=h.ok I.hok;exact (its,r,(_,n,e,rfl,rfl,rfl),z)
 ·refine (its.toList,r,(o,n,I.kIn a o hk,hc,hd,by simpa using hs),?_);have e:=r.length
  simp only[rT] at e
  omega
theorem Inv.tuple(I:Inv X pins σ H s)(h:AI X.K H a xs):∃its:List Value,Al xs its/\IsTup s.heap a its.toArray/\xs.length<=sizeLine:=by
 rcases h with h|⟨o,its,n,hk,hc,hs,hz,r⟩
 ·obtain ⟨z,its,r,p⟩:=h.ok I.hok;exact (its,r,p,z)
 ·refine (its.toList,r,(o,I.kIn a o hk,hc,n,by simpa using hs),?_);have e:=r.length
  simp only[rT] at e
  omega
theorem Inv.list_inj(I:Inv X pins σ H s)(h:AR X.K H a xs)(h':AR X.K H a ys):xs=ys:=by
 obtain ⟨c,r,⟨o,n,e,_,_,d⟩,_⟩:=I.list h;obtain ⟨b,i,⟨k,j,f,_,_,g⟩,_⟩:=I.list h';rw[e] at f;cases f;rw[d] at g
 injection g with d1 _
 have:c=b:=by simpa using qW Array.toList d1
 subst this;exact r.inj i
theorem Inv.tuple_inj(I:Inv X pins σ H s)(h:AI X.K H a xs)(h':AI X.K H a ys):xs=ys:=by
 obtain ⟨c,r,⟨o,e,_,n,d⟩,_⟩:=I.tuple h;obtain ⟨b,i,⟨k,f,_,j,g⟩,_⟩:=I.tuple h';rw[e] at f;cases f;rw[d] at g
 injection g with d1 _
 have:c=b:=by simpa using qW Array.toList d1
 subst this;exact r.inj i
end
abbrev Cx.wish(X:Cx)(E:Value->Shared->Prop):Cx:={ X with xe:=E }
abbrev Cx.nox(X:Cx):Cx:=X.wish λ_ _=>False
theorem Cx.Ok.wish{X:Cx}(a:X.Ok)(E:Value->Shared->Prop):(X.wish E).Ok :=
 (a.mod,a.kind,a.glob,a.blt,a.above,a.inj,a.has,a.cab,a.hd,a.frames,a.stk,a.exf,a.bs,a.bsz,a.noex,a.exfs,a.funs,a.frf)
theorem Cx.Ok.unwish{X:Cx}(a:(X.wish E).Ok):X.Ok :=
 (a.mod,a.kind,a.glob,a.blt,a.above,a.inj,a.has,a.cab,a.hd,a.frames,a.stk,a.exf,a.bs,a.bsz,a.noex,a.exfs,a.funs,a.frf)
section
variable{X:Cx}{pins:List (Addr×Obj)}{σ:St}{H:Hp}{s:Shared}{E:Value->Shared->Prop}
theorem Inv.wish(I:Inv X pins σ H s)(E:Value->Shared->Prop):Inv (X.wish E) pins σ H s:=(I.ok.wish E,I.os,I.bare,I.base,I.loc,I.cell,I.free,I.freeC,I.pin,I.hok,I.len)
theorem Inv.unwish(I:Inv (X.wish E) pins σ H s):Inv X pins σ H s:=(I.ok.unwish,I.os,I.bare,I.base,I.loc,I.cell,I.free,I.freeC,I.pin,I.hok,I.len)
theorem SP.unwish(h:SP (X.wish E) pins D f c):SP X pins D f c:=by
 cases f with
 |next=>obtain ⟨a,b,I,q⟩:=h;exact (a,b,I.unwish,q)
 |brk=>obtain ⟨a,b,I,q⟩:=h;exact (a,b,I.unwish,q)
 |cont=>obtain ⟨a,b,I,q⟩:=h;exact (a,b,I.unwish,q)
 |ret u=>obtain ⟨v,a,b,I,r,q⟩:=h;exact (v,a,b,I.unwish,r,q)
theorem CT.nox{st:List Stmt}{t:TS}(h:CT X.nox st t):CT X st t:=λpins s σ H D I a =>
 rE (h pins s σ H D (I.wish _) a) (λ_ _ q=>q.unwish) λ_ _ z=>False.elim z
end
section
variable{X:Cx}{st:Stmt}{rest:List Stmt}{t u:TS}{e:Expr}{te:TE}{pos:Pos}
def aQ:TS:=λD a H=>D.nx a H
def YI(t u:TS):TS:=λD a H=>t { D with nx:=u D } a H
theorem BW:CT X [] aQ:=λ_ _ a H _ I h=>wpAny_execs_nil (a,H,I,h)
theorem AQ(c:PS X st t)(g:CT X rest u):CT X (st::rest) (YI t u):=by
 intro a s i H D I h;refine wpAny_execs_cons<|Ax (c a s i H { D with nx:=u D } I h) λf d q=>?_
 cases f with
 |next =>
  obtain ⟨b,j,k,q⟩:=q;exact g a d b j D k q
 |ret v=>exact q
 |brk=>exact q
 |cont=>exact q
theorem Az(b:PS X st t):CT X [st] t:=by
 intro a s c H D I h;refine wpAny_execs_cons<|Ax (b a s c H D I h) λf d q=>?_
 cases f with
 |next=>exact wpAny_execs_nil q
 |ret v=>exact q
 |brk=>exact q
 |cont=>exact q
theorem Inv.quiet(I:Inv X a σ H s):interactive X.env=false:=by simp[interactive,I.ok.kind]
def XX(te:TE):TS:=λD a H=>te a H λ_ b=>D.nx a b
theorem Gb(d:PE X e te)(c:swapsWith e none pos.line X.env=pure false:=by rfl):PS X (.Expr e pos) (XX te):=by
 intro a s b H D I h;exact wpAny_Expr_any (Ax (d a s b H _ I h) λv k ⟨x,g,i,j,f⟩=>(b,g,i,f)) I.quiet c
def pY(te:TE):TS:=λD a H=>te a H D.rt
theorem A7(d:PE X e te):PS X (.Return (some e) pos) (pY te):=by
 intro a s b H D I h;exact wpAny_Return_some<|Ax (d a s b H _ I h) λv j ⟨x,g,i,c,f⟩=>(x,b,g,i,c,f)
def cH(c:TT)(t u:TS):TS:=λD a H=>c a H λb d=>if b=true then t D a d else u D a d
theorem BX(m:PT X c tc)(n:CT X a t)(o:CT X b u):PS X (.If c a b pos) (cH tc t u):=by
 intro f s g H D I h;refine wpAny_If<|Ax (m f s g H _ I h) λd j ⟨k,l,i⟩=>?_
 cases d with
 |true=>exact n f j g k D l i
 |false=>exact o f j g k D l i
def mE:TS:=λ_ _ _=>False
theorem kL:PS X st mE:=λ_ _ _ _ _ _ h=>h.elim
end
abbrev TG:=V->St->Hp->(St->Hp->Prop)->Prop
abbrev HE:=List V->St->Hp->(St->Hp->Prop)->Prop
def PG(X:Cx)(a:Expr)(t:TG):Prop :=
 ∀(b:List (Addr×Obj)) (s:Shared) (d:St) (H:Hp) (v:V) (u:Value) (Q:St->Hp->Prop),Inv X b d H s->RelV v u->t v d H Q →
  wpAny (model X.prog X.w) X.A (assign a X.env u) (λ_ f=>∃c e,Inv X b c e f/\Q c e) X.xe s
def IM(X:Cx)(h:List Expr)(t:HE):Prop :=
 ∀(a:List (Addr×Obj)) (s:Shared) (d:St) (H:Hp) (f:List V) (c:List Value) (Q:St->Hp->Prop),Inv X a d H s->Al f c->t f d H Q →
  wpAny (model X.prog X.w) X.A (assignInOrder ((assignEach h X.env).map (·.2)) c) (λ_ g=>∃b e,Inv X a b e g/\Q b e) X.xe s
abbrev MM:=V->V->V->Hp->(Hp->Prop)->Prop
def Ve(X:Cx)(t:MM):Prop :=
 ∀(a:List (Addr×Obj)) (s:Shared) (c:St) (H:Hp) (o i v:V) (d b u:Value) (Q:Hp->Prop),Inv X a c H s->RelV o d->RelV i b->RelV v u->t o i v H Q →
  wpAny (model X.prog X.w) X.A (setItem d b u) (λ_ f=>∃e,Inv X a c e f/\Q e) X.xe s
abbrev Jo:=V->V->Hp->VK->Prop
def HB(X:Cx)(c:Operator)(t:Jo):Prop :=
 ∀(a:List (Addr×Obj)) (s:Shared) (b:St) (H:Hp) (x y:V) (v u:Value) (Q:VK),Inv X a b H s->RelV x v->RelV y u->t x y H Q →
  wpAny (model X.prog X.w) X.A (inplaceOp c v u) (EP X a b Q) X.xe s
section
variable{X:Cx}{pos:Pos}
def DK(i:Nat):TG:=λv a H Q=>Q (a.set i<|some v) H
theorem CA{i:Nat}{x:Str}(b:X.N.Nodup)(e:X.N[i]?=some x)(f:Loc X.env.scope x)(c:X.fn x=true\/X.env.scope.names.lookup x=some .local:=by first|exact .inl rfl|exact .inr rfl|assumption):PG X (.Name x pos) (DK i):=by
 intro a s g H v u Q I r h;exact wpAny_assign_Name<|JF I b e f r (λj d=>(_,H,d,h)) c
def Jd:HE:=λb a H Q=>b=[]/\Q a H
inductive Fx (t:TG) (u:HE) (vs:List V) (σ:St) (H:Hp) (Q:St->Hp->Prop):Prop
 |mk (v:V) (r:List V) (_:vs=v::r) (_:t v σ H λσ' H'=>u r σ' H' Q):Fx t u vs σ H Q
theorem HN:IM X [] Jd:=by
 intro a s b H d c Q I r h;obtain ⟨e,h⟩:=h;subst e
 cases r
 exact assignInOrder_nil (b,H,I,h)
theorem E3{t:TG}(j:PG X e t)(m:IM X b u)
 (d:(assignEach (e::b) X.env).map (·.2)=assign e X.env::(assignEach b X.env).map (·.2):=by rfl):IM X (e::b) (Fx t u):=by
 intro a s g H w p Q I r h;obtain ⟨v,q,k,h⟩:=h;subst k
 cases r with
 | cons r i =>
  rw[d];refine assignInOrder_cons<|Ax (j a s g H _ _ _ I r h) λ_ l ⟨c,n,o,f⟩=>?_;exact m a l c n _ _ Q o i f
inductive GQ (K:Ac) (n:Nat) (t:HE) (v:V) (σ:St) (H:Hp) (Q:St->Hp->Prop):Prop
 |mk (a:Addr) (xs:List V) (_:v = .ref a) (_:AI K H a xs) (_:xs.length=n) (_:t xs σ H Q):GQ K n t v σ H Q
theorem Ia{k:Nat}{t:HE}{n:Nat}(l:X.calm=true)(h:IM X d t)
 (x:(assignEach d X.env).length=n:=by rfl) (f:(assignEach d X.env).findIdx? (·.1)=none:=by rfl):PG X (.Tuple d k pos) (GQ X.K n t):=by
 intro c s j H v u Q I r g;obtain ⟨a,A,y,p,B,g⟩:=g;subst y
 cases r
 obtain ⟨w,i,m,D⟩:=I.tuple p;refine assign_Tuple_tuple (I.ok.hd l) m (by simp[x,<-B,i.length]) f λq z=>?_;have C:Inv X c j H { s with heap:=q }:=I.kept (t':=s.toks) λb o e=>z b o (Qb<|qN e) e;exact h c _ j H A _ Q C (by simpa using i) g
def mY(d f:TE)(t:MM):TG:=λv a H Q=>d a H λo e=>f a e λi c=>t o i v c λb=>Q a b
theorem Rv{t:MM}(A:PE X o e)(n:PE X i f)(j:Ve X t)
 (g:∀v,assign (.Subscript o i pos) X.env v=(do
  let b ← holding [v] (eval o X.env)
  let c ← holding [v,b] (eval i X.env)
  standAt pos
  holding [v,b,c] (setItem b c v)
  release [v,b,c] []):=by intro _; rfl):PG X (.Subscript o i pos) (mY e f t):=by
 intro a s d H v u Q I r h;rw[g];refine qM<|rY<|Ax (A a s d H _ I h) λb E ⟨x,F,G,B,C⟩=>?_;refine qM<|rY<|Ax (n a E d F _ G C) λc q ⟨y,k,p,w,m⟩=>?_;refine qM<|wpAny_standAt<|qM<|rY<|Ax (j a q d k x y v b c u _ p B w r m) λ_ J ⟨z,l,D⟩=>?_;exact wpAny_release (d,z,l,D)
def KU(te:TE)(g:TG):TS:=λD a H=>te a H λx b=>g x a b D.nx
theorem M9(j:PE X e te)(f:PG X b g)(d:swapsWithSole [b] e pos.line X.env=pure false:=by rfl)(hw:swappedStores [b] e X.env=pure none:=by rfl)
 (l:(assignEach [b] X.env).map (·.2)=[assign b X.env]:=by rfl):PS X (.Assign [b] e pos) (KU te g):=by
 intro a s c H D I h;refine wpAny_Assign_stores (Ax (j a s c H _ I h) λv m ⟨x,n,o,i,k⟩=>?_) d hw;rw[l];exact Ax (f a m c n x v _ o i k) λ_ p q=>q
theorem Bv{i:Nat}{x:Str}{a:Pos}(l:X.N.Nodup)(m:X.N[i]?=some x)(o:Loc X.env.scope x)(f:PE X e te)(c:swapsWith e (some<|.Name x a) pos.line X.env=pure false:=by rfl)(k:X.fn x=true\/X.env.scope.names.lookup x=some .local:=by first | exact .inl rfl | exact .inr rfl | assumption) :
 PS X (.Assign [.Name x a] e pos) (KU te<|DK i):=by
 intro b s j H D I h;refine wpAny_Assign_Name (Ax (f b s j H _ I h) λv r ⟨y,p,q,d,g⟩=>?_) c;exact JF q l m o d (λt n=>(_,p,n,g)) k
def oD(i j:Nat)(b:TA):TS:=λD a H=>b a H λc d=>∃v w,c=[v,w]/\D.nx ((a.set i<|some v).set j<|some w) d
theorem fM{i j:Nat}{x y:Str}{a b:Expr}{k l r:Pos}{kt k2 pt2}(Q:X.calm=true)(z:X.N.Nodup)(N:X.N[i]?=some x)(T:X.N[j]?=some y)(n:i≠j)
 (A:X.env.scope.names.lookup x=some .local) (E:X.env.scope.names.lookup y=some .local) (G:PA X [a,b] C)
 (hw:swappedStores [.Tuple [.Name x k,.Name y l] kt r] (.Tuple [a,b] k2 pt2) X.env=pure (some [x,y]))
 (J:swapsWithSole [.Tuple [.Name x k,.Name y l] kt r] (.Tuple [a,b] k2 pt2) pos.line X.env=pure false:=by rfl) :
 PS X (.Assign [.Tuple [.Name x k,.Name y l] kt r] (.Tuple [a,b] k2 pt2) pos) (oD i j C):=by
 intro c s B H D I h;rw[exec_Assign_arm];refine qM<|wpAny_standAt ?_;rw[J];refine qM<|qS ?_;rw[qI ∅];refine qM<|Tuple_<|Ax (G _ c s B H _ I h) λK d ⟨vs,F,W,S,m⟩=>?_;obtain ⟨v,w,U,m⟩:=m;subst U;obtain ⟨f,g,rfl,rv,rw'⟩:∃f g,K=[f,g]/\RelV v f/\RelV w g:=by
  cases S with
  | cons p q =>
   cases q with
   | cons R O =>
    cases O
    exact (_,_,rfl,p,R)
 refine wpAny_newObj_type ?_ (by show 2<=sizeLine; decide);have P:Inv X c B F { d with heap:=d.heap.push { cls:=.type "tuple", data:=.seq [f,g].toArray } }:=W.kept (t':=d.toks) λb o e=>qJ _ e;rw[hw];refine qM<|qS ?_;show wpAny (model X.prog X.w) X.A (do rule "assign.swapped-stores"; let items ← unpackItems (.ref d.heap.objs.size) 2 none; assignInOrder [λv=>bindName X.env y v,λv=>bindName X.env x v] items.reverse; pure Flow.next) _ _ _;refine qM<|wpAny_rule<|qM<|unpackItems_tuple (items:=#[f,g]) (I.ok.hd Q) (IsTup.new d.heap _) λh' t=>?_;have M:=P.kept (h':=h') (t':=d.toks) λb o e=>t b o (Qb<|qN e) e;refine qM<|assignInOrder_cons<|wpAny_bindName<|JF M z T (.inl E) rw' (λZ L=>?_)<|.inr E;refine assignInOrder_cons<|wpAny_bindName<|JF L z N (.inl A) rv (λY u=>assignInOrder_nil<|qS ?_)<|.inr A;rw[List.set_comm _ _<|rC n] at u;exact (_,F,u,m)
def eY(i:Nat)(te:TE)(d:Jo):TS:=λD a H=>∃x,a[i]?=some (some x)/\te a H λy c=>d x y c λz b=>D.nx (a.set i<|some z) b
theorem Lo{i:Nat}{x:Str}{d:Pos}(F:X.N.Nodup)(q:X.N[i]?=some x)(j:Loc X.env.scope x)(B:PE X e te)(M:HB X g p)(P:X.fn x=true\/X.env.scope.names.lookup x=some .local:=by first | exact .inl rfl | exact .inr rfl | assumption) :
 PS X (.AugAssign (.Name x d) g e pos) (eY i te p):=by
 intro a s t H D I h;obtain ⟨v,Q,h⟩:=h;obtain ⟨m,G,K⟩:=I.loc;have n:ET X.env.scope x:=by rcases j with k | k; exact .inl k; exact .inr<|.inl k
 obtain ⟨u,r,l⟩:=K i x v q Q n;refine wpAny_AugAssign_Name ?_;have o:wpAny (model X.prog X.w) X.A (eval e X.env) (λw f=>wpAny (model X.prog X.w) X.A (inplaceOp g u w) (λr b=>wpAny (model X.prog X.w) X.A (storeName X.env x r) (λ_=>SP X a D .next) X.xe b) X.xe f) X.xe s:=by
  refine Ax (B a s t H _ I h) λw R ⟨y,S,T,N,O⟩=>?_;refine Ax (M a R t S v y u w _ T r N O) λz Y ⟨W,A,J,L,C⟩=>?_;exact JF J F q j L (λU E=>(_,A,E,C)) P
 rcases l with ⟨hk,hm⟩ | ⟨hk,c,hc,hcell⟩
 ·exact wpAny_loadName_local I.ok.kind hk G hm o
 ·rcases hk with hk | hk
  ·exact wpAny_loadName_cell I.ok.kind hk hc hcell o
  ·rcases j with k | k
   ·have:X.env.scope.names.lookup x=some .free:=hk
    rw[k] at this; cases this
   ·have:X.env.scope.names.lookup x=some .free:=hk
    rw[k] at this; cases this
def PZ(f:Int->Int->Int):Jo:=λx y H Q=>∃i j,x = .int i/\y = .int j/\Q (.int<|f i j) H
theorem KN:HB X .Add (PZ λi j=>i+j):=by
 intro a s f H x y v u Q I b e h;obtain ⟨i,j,d,c,q⟩:=h;subst d;subst c;obtain ⟨t,rfl⟩:=b;obtain ⟨g,rfl⟩:=e;exact iadd_int (.int _,H,I.tok _,(_,rfl),q)
theorem SQ:HB X .Sub (PZ λi j=>i-j):=by
 intro a s f H x y v u Q I b e h;obtain ⟨i,j,d,c,q⟩:=h;subst d;subst c;obtain ⟨t,rfl⟩:=b;obtain ⟨g,rfl⟩:=e;exact isub_int (.int _,H,I.tok _,(_,rfl),q)
def fX(c:TT)(h:TS):TS:=λD a H=>∃W:Nat->St->Hp->Prop,(∃m,W m a H)/\∀m a H,W m a H →
 c a H λb g=>if b=true then ∃N:St->Hp->Prop,(∀d e,N d e->∃f,f<m/\W f d e)/\h { D with nx:=N,ct:=N,bk:=D.nx } a g else D.nx a g
theorem Fq(hp:PassesOwn (model X.prog X.w) X.A X.env X.xe)(B:PT X c tc)(G:CT X body z):PS X (.While c body [] pos) (fX tc z):=by
 intro d s E H D I h;obtain ⟨W,⟨F,J⟩,g⟩:=h;refine wpAny_While<|codeAny_whileLoop (λn L=>∃j x,Inv X d j x L/\W n j x) ?_ F (E,H,I,J);rintro n K ⟨e,y,M,C⟩;refine sD hp<|Ax (B d K e y _ M<|g n e y C) λb A ⟨t,w,k⟩=>?_
 cases b with
 |true =>
  obtain ⟨N,u,k⟩:=k;rw[qK rfl];refine sD hp<|Ax (G d A e t _ w k) λf O l=>?_
  cases f with
  |next =>
   obtain ⟨a,i,m,o⟩:=l;obtain ⟨p,q,r⟩:=u a i o;exact (p,q,a,i,m,r)
  |cont =>
   obtain ⟨a,i,m,o⟩:=l;obtain ⟨p,q,r⟩:=u a i o;exact (p,q,a,i,m,r)
  |brk=>exact l
  |ret v=>exact l
 |false =>
  rw[qI W1];exact wpAny_execs_nil (e,t,w,k)
end
structure It where
 go:Nat->Hp->Prop
 yld:Nat->Hp->V->Hp->Prop
 stop:Nat->Hp->Prop
def Cv(X:Cx)(a:List (Addr×Obj))(H:Hp)(b:Addr):Prop :=
 H b=none/\b≠X.env.locals/\b∉X.fs/\(b∈X.ex\/X.s₀.heap.objs.size<=b)/\(∀x c,X.env.cells.lookup x=some c->c≠b)/\∀p∈X.pn++a,p.1≠b
theorem Inv.fpOk{H f:Hp}{s:Shared}{b:Addr}(I:Inv X a σ H s)(d:s.heap.objs.size<=b)(g:f b=none):Cv X a f b:=by
 refine (g,Nat.ne_of_gt<|Q9 I.lt d,I.nofs d,.inr<|Q0 I.sz d,λx c e z=>?_,λp h z=>?_)
 ·obtain ⟨v,q⟩:=I.cell x c e;exact absurd (Q9 q.lt (by rw[z];exact d))<|Qs _
 ·exact absurd (Q9 (qN (I.pin p h).1) (by rw[z];exact d)) (Qs _)
structure DB (P:Program) (w:World) (K:Ac) (tg:Expr) (J:It) (fp:Ay) (it:Addr) (tn:Nat->Heap->Prop):Prop where
 mem:it∈fp
 obj:∀i h,tn i h->∀b∈fp,∃o,h.get? b=some o/\∀v,o.data ≠ .cell v
 keep:∀i h h',tn i h->(∀b∈fp,∀o,h.get? b=some o->h'.get? b=some o)->tn i h'
 item:∀(X:Cx),X.prog=P->X.w=w->X.K=K->X.calm=true->∀(i:Nat) (pins:List (Addr×Obj)) (s:Shared) (σ:St) (H:Hp) (E:Value->Shared->Prop),Inv X pins σ H s->(∀b∈fp,Cv X pins H b)->tn i s.heap->J.go i H →
  wpAny (model P w) X.A (pyNext (.ref it)) (λr s1=>∃u,r=some u ∧
   wpAny (model P w) X.A (letOwnedTupleGo tg (.ref it) u) (λ_ s2=>∃x H',Inv X pins σ H' s2/\RelV x u/\J.yld i H x H'/\tn (i+1) s2.heap/\∀b∈fp,H' b=none) E s1) E s
 done:∀(X:Cx),X.prog=P->X.w=w->X.K=K->X.calm=true->∀(i:Nat) (pins:List (Addr×Obj)) (s:Shared) (σ:St) (H:Hp) (E:Value->Shared->Prop),Inv X pins σ H s->(∀b∈fp,Cv X pins H b)->tn i s.heap->J.stop i H →
  wpAny (model P w) X.A (pyNext (.ref it)) (λr s1=>r=none/\Inv X pins σ H s1) E s
 self:∀(A:Around) (i:Nat) (s:Shared) (Q:Value->Shared->Prop) (E:Value->Shared->Prop),tn i s.heap->Q (.ref it) s->wpAny (model P w) A (pyIter (.ref it)) Q E s
abbrev TI:=St->Hp->(It->Hp->Prop)->Prop
def MT(X:Cx)(a:List (Addr×Obj))(σ:St)(i:Expr)(R:It->Hp->Prop)(c:Value)(g:Shared):Prop :=
 ∃(h:Addr) (e:Ay) (f:Nat->Heap->Prop) (J:It) (d:Hp),c = .ref h/\Inv X a σ d g/\DB X.prog X.w X.K i J e h f/\f 0 g.heap/\(∀b∈e,Cv X a d b)/\R J d
def PI(X:Cx)(e b:Expr)(d:TI):Prop :=
 ∀(a:List (Addr×Obj)) (s:Shared) (c:St) (H:Hp) (R:It->Hp->Prop),Inv X a c H s->d c H R →
  wpAny (model X.prog X.w) X.A (eval b X.env) (λv f=>wpAny (model X.prog X.w) X.A (pyIter v) (MT X a c e R) X.xe f) X.xe s
theorem Ja{s:Shared}{it:Addr}{o:Obj}{n:String}{vs:Array Value}{Q:Unit->Shared->Prop}(d:s.heap.get? it=some o)(c:o.cls = .type n)(f:o.data = .fields vs)
 (e:["enumerate", "zip", "dict_itemiterator", "dict_reverseitemiterator", "odict_iterator", "itertools.zip_longest", "itertools.pairwise"].contains n=false) (a:Q () s):wpAny M A (letOwnedTupleGo b (.ref it) u) Q E s:=by
 unfold letOwnedTupleGo
 cases b <;> first
  | exact qS a
  | (cases u <;> first
   | exact qS a
   | (refine qM<|wpAny_load d ?_
      rw[c,f];show wpAny M A (if (["enumerate", "zip", "dict_itemiterator", "dict_reverseitemiterator", "odict_iterator", "itertools.zip_longest", "itertools.pairwise"].contains n&&vs[0]?==some (rawInt _))=true then _ else _) Q E s;rw[qI (by intro h; rw[e,Bool.false_and] at h; cases h)];exact qS a))
def IF(K:Ac)(a:Addr):It :=
 (λi H=>∃b x,AR K H a b/\b[i]?=some x,λi H x c=>c=H/\∀b,AR K H a b->b[i]?=some x,λi H=>∃b,AR K H a b/\b.length<=i)
def JD(K:Ac)(a:Addr):It :=
 (λi H=>∃b x,AI K H a b/\b[i]?=some x,λi H x c=>c=H/\∀b,AI K H a b->b[i]?=some x,λi H=>∃b,AI K H a b/\b.length<=i)
def FW(lo:Int)(n:Nat):It:=(λi _=>i<n,λi H x a=>a=H/\x = .int (lo+i),λi _=>n<=i)
theorem cO{K:Ac}(a it:Addr):DB P w K R (IF K a) [it] it (λi h=>h.IsListIter it a i) where
 mem:=by simp
 obj:=λi h f b j=>by
  have e:b=it:=by simpa using j
  subst e;obtain ⟨o,e,c,d⟩:=f;exact (o,e,λv z=>by rw[d] at z;cases z)
 keep:=λi h n f k=>f.at λo e=>k it (by simp) o e
 item:=by
  intro X C F J N i g s O H E I q f t;subst C F J;obtain ⟨S,x,m,D⟩:=t;obtain ⟨L,y,p,T⟩:=I.list m;obtain ⟨u,Z,U⟩:=y.get D;obtain ⟨G,A,Y,r,B,M⟩:=q it (by simp);refine wpAny_pyNext_list_item f p.isList (x:=u) (by simpa using Z) λn l W=>?_;have I1:Inv X g O H { s with heap:=n }:=I.turned (t':=s.toks) (λb o j e=>(W.2 b j).trans e) G A r B M;obtain ⟨o,e,c,d⟩:=id l;exact (u,rfl,Ja (s:={ s with heap:=n }) e c d ∅ (x,H,I1,U,(rfl,λys hy=>by rw[I.list_inj hy m];exact D),l,λb j=>(q b j).1))
 done:=by
  intro X C F J N i g s O H E I q f t;subst C F J;obtain ⟨S,m,D⟩:=t;obtain ⟨L,y,p,T⟩:=I.list m;obtain ⟨G,A,Y,r,B,M⟩:=q it (by simp);have hl:=y.length;exact wpAny_pyNext_list_end (I.ok.hd N) f p.isList (by simp;omega) λn Q=>(rfl,I.turned (t':=s.toks) (λb o j e=>Q b o j e) G A r B M)
 self:=λ_ _ _ _ _ f h=>wpAny_pyIter_listiter f h
theorem XA{K:Ac}(a it:Addr):DB P w K R (JD K a) [it] it (λi h=>h.IsTupleIter it a i) where
 mem:=by simp
 obj:=λi h f b l=>by
  have e:b=it:=by simpa using l
  subst e;obtain ⟨o,e,c,d⟩:=f;exact (o,e,λv z=>by rw[d] at z;cases z)
 keep:=λi h q f k=>f.at λo e=>k it (by simp) o e
 item:=by
  intro X D G L N i g s O H E I r f y;subst D G L;obtain ⟨S,x,n,F⟩:=y;obtain ⟨j,A,p,T⟩:=I.tuple n;obtain ⟨u,Z,U⟩:=A.get F;obtain ⟨J,B,Y,t,C,M⟩:=r it (by simp);refine wpAny_pyNext_tuple_item f (show s.heap.IsTuple a j.toArray from p) (x:=u) (by simpa using Z) λq m W=>?_;have I1:Inv X g O H { s with heap:=q }:=I.turned (t':=s.toks) (λb o l e=>(W.2 b l).trans e) J B t C M;obtain ⟨o,e,c,d⟩:=id m;exact (u,rfl,Ja (s:={ s with heap:=q }) e c d ∅ (x,H,I1,U,(rfl,λys hy=>by rw[I.tuple_inj hy n];exact F),m,λb l=>(r b l).1))
 done:=by
  intro X D G L N i g s O H E I r f y;subst D G L;obtain ⟨S,n,F⟩:=y;obtain ⟨j,A,p,T⟩:=I.tuple n;obtain ⟨J,B,Y,t,C,M⟩:=r it (by simp);have hl:=A.length;exact wpAny_pyNext_tuple_end (I.ok.hd N) f (show s.heap.IsTuple a j.toArray from p) (by simp;omega) λq Q=>(rfl,I.turned (t':=s.toks) (λb o l e=>Q b o l e) J B t C M)
 self:=λ_ _ _ _ _ f h=>wpAny_pyIter_tupleiter f h
theorem iA{K:Ac}(it:Addr)(lo:Int)(n:Nat):DB P w K J (FW lo n) [it] it (λi h=>IsRangeIter h it (lo+(i:Nat)*1) ((n:Int)-(i:Nat)) 1) where
 mem:=by simp
 obj:=λi h a b d=>by
  have e:b=it:=by simpa using d
  subst e;exact (_,a,λv z=>by
   have L:=z
   cases L)
 keep:=λi h g a k=>k it (by simp) _ a
 item:=by
  intro X r u y A i c s C H E I j a m;subst r u y;obtain ⟨x,p,N,l,q,B⟩:=j it (by simp);have W:=Walks.range (prog:=X.prog) (w:=X.w) (I.ok.hd A) it lo 1 n;refine W.item i s _ _ m a λv g D M f G=>?_;obtain ⟨t,rfl⟩:=M;have O:Inv X c C H { s with heap:=g,toks:=D }:=I.turned (λb o d e=>G b o (by simpa using d) e) x p l q B;refine (_,rfl,Ja (s:={ s with heap:=g,toks:=D }) (n :="range_iterator") f rfl rfl ∅ (.int<|lo+i,H,O,(t,?_),(rfl,rfl),f,λb d=>(j b d).1));rw[U2]
 done:=by
  intro X r u y A i c s C H E I j a m;subst r u y;obtain ⟨x,p,N,l,q,B⟩:=j it (by simp);exact wpAny_pyNext_range_end (I.ok.hd A) a (by have:n<=i:=m;omega) λg F=>(rfl,I.turned (t':=s.toks) (λb o d e=>F b o d e) x p l q B)
 self:=λ_ _ _ _ _ a h=>wpAny_pyIter_rangeiter a h
section
variable{X:Cx}{tg:Expr}
inductive V3 (K:Ac) (x:V) (H1:Hp) (R:It->Hp->Prop):Prop
 |mk (a:Addr) (_:x = .ref a) (_:(∃xs,AR K H1 a xs)) (_:R (IF K a) H1):V3 K x H1 R
def Y7(K:Ac)(b:TE):TI:=λa H R=>b a H λx c=>V3 K x c R
def ZW(K:Ac)(e:TE):TI:=λd H R=>e d H λx b=>∃a,x = .ref a/\(∃c,AI K b a c)/\R (JD K a) b
theorem LB(u:PE X l g):PI X tg l (Y7 X.K g):=by
 intro c s m H R I h;refine Ax (u c s m H _ I h) λv d ⟨x,t,f,i,j⟩=>?_;obtain ⟨a,e,⟨y,k⟩,q⟩:=j;subst e
 cases i
 obtain ⟨n,w,p,z⟩:=f.list k;refine wpAny_pyIter_list p.isList ?_;refine (d.heap.objs.size,[d.heap.objs.size],_,_,t,rfl,f.kept (t':=d.toks) λb o e=>qJ _ e,cO a _,(_,qO _ rfl,rfl,rfl),λb r=>?_,q);have e:b=d.heap.objs.size:=by simpa using r
 subst e;exact f.fpOk (Q4 _)<|f.hok.fresh<|Q4 _
theorem ZZ(u:PE X l i):PI X tg l (ZW X.K i):=by
 intro c s n H R I h;refine Ax (u c s n H _ I h) λv d ⟨x,t,f,j,k⟩=>?_;obtain ⟨a,e,⟨y,m⟩,q⟩:=k;subst e
 cases j
 obtain ⟨g,w,p,z⟩:=f.tuple m;refine wpAny_pyIter_tuple (show d.heap.IsTuple a g.toArray from p) ?_;refine (d.heap.objs.size,[d.heap.objs.size],_,_,t,rfl,f.kept (t':=d.toks) λb o e=>qJ _ e,XA a _,(_,qO _ rfl,rfl,rfl),λb r=>?_,q);have e:b=d.heap.objs.size:=by simpa using r
 subst e;exact f.fpOk (Q4 _)<|f.hok.fresh<|Q4 _
theorem Ri{s:Shared}{R:It->Hp->Prop}{lo c:Int}{t u v:Tok}{d:Nat}(I:Inv X a σ H s)(j:-(2^62)<=lo)(m:lo<2^62)(i:-(2^62)<=c)(g:c<2^62)
 (q:R (FW lo (c-lo).toNat) H):wpAny (model X.prog X.w) X.A (pyIter<|.ref s.heap.objs.size) (MT X a σ tg R) E { s with heap:=s.heap.push { cls:=.type "range", data:=.fields #[.int lo t,.int c u,.int 1 v] },toks:=d }:=by
 refine wpAny_pyIter_range (IsRange.new ..) (small_one j m i g) ?_;have f:Inv X a σ H { s with heap:=s.heap.push { cls:=.type "range", data:=.fields #[.int lo t,.int c u,.int 1 v] },toks:=d }:=I.kept λb o e=>qJ _ e;refine ((s.heap.push { cls:=.type "range", data:=.fields #[.int lo t,.int c u,.int 1 v] }).objs.size,[(s.heap.push { cls:=.type "range", data:=.fields #[.int lo t,.int c u,.int 1 v] }).objs.size],_,_,H,rfl,
  f.kept (t':=d) λb o e=>qJ _ e,iA _ lo (c-lo).toNat,?_,λb l=>?_,q)
 ·have k:lo+((0:Nat):Int)*1=lo:=by simp
  have h:(((c-lo).toNat:Nat):Int)-((0:Nat):Int)=Builtin.Range.rangeSize lo c 1:=by rw[rangeSize_one]; split <;> omega
  rw[k,h];exact qO _ rfl
 ·have e:b=(s.heap.push { cls:=.type "range", data:=.fields #[.int lo t,.int c u,.int 1 v] }).objs.size:=by simpa using l
  subst e;exact f.fpOk (Q4 _)<|f.hok.fresh<|Q4 _
inductive TZ (vs:List V) (H1:Hp) (R:It->Hp->Prop):Prop
 |mk (j:Int) (_:vs=[.int j]) (_:-(2^62)<=j) (_:j<2^62) (_:R (FW 0 j.toNat) H1):TZ vs H1 R
def cA(b:TA):TI:=λa H R=>b a H λc d=>TZ c d R
inductive QY (vs:List V) (H1:Hp) (R:It->Hp->Prop):Prop
 |mk (i j:Int) (_:vs=[.int i,.int j]) (_:(-(2^62)<=i/\i<2^62 /\ -(2^62)<=j/\j<2^62)) (_:R (FW i (j-i).toNat) H1):QY vs H1 R
def eF(b:TA):TI:=λa H R=>b a H λc d=>QY c d R
theorem KW{a:Expr}{p pos:Pos}(i:Gl X "range") (o:X.mg "range"=none) (f:PA X [a] d) (g:starEach [a] X.env=[(false,eval a X.env)]:=by rfl):PI X tg (.Call (.Name "range" p) [a] [] pos) (cA d):=by
 intro b s n H R I h;refine Call_<|EH I i o boot_range<|qV (Ax (f pos b s n H _ I h) λv w ⟨x,y,u,k,c⟩=>?_) g rfl;obtain ⟨j,e,c,l,q⟩:=c;subst e
 cases k with
 |cons r m =>
  cases m
  obtain ⟨t,rfl⟩:=r;exact call_range_1<|Ri u ⋯ ⋯ c l (by simpa using q)
theorem jW{a b:Expr}{p pos:Pos}(o:Gl X "range") (v:X.mg "range" = none) (l:PA X [a,b] k) (m:starEach [a,b] X.env=[(false,eval a X.env),(false,eval b X.env)]:=by rfl) (d:starEach [b] X.env=[(false,eval b X.env)]:=by rfl) :
 PI X tg (.Call (.Name "range" p) [a,b] [] pos) (eF k):=by
 intro c s y H R I h;refine Call_<|EH I o v boot_range<|qV (Ax (l pos c s y H _ I h) λB E ⟨C,F,A,w,g⟩=>?_) (by rw[m,d]) (by rw[d]; rfl);obtain ⟨i,j,e,⟨g,u,z,n⟩,q⟩:=g;subst e
 cases w with
 | cons r f =>
  cases f with
  | cons x f =>
   cases f
   obtain ⟨t,rfl⟩:=r;obtain ⟨D,rfl⟩:=x;exact call_range_2<|Ri A g u z n q
def n8(f:TI)(g:TG)(k:TS):TS:=λD a H=>f a H λJ j=>∃W:Nat->Nat->St->Hp->Prop,(∃m,W 0 m a j)/\∀i m a H,W i m a H →
 (J.stop i H/\D.nx a H)\/(J.go i H/\∃N:St->Hp->Prop,(∀b c,N b c->∃e,e<m/\W (i+1) e b c)/\∀x c,J.yld i H x c->g x a c λd h=>k { D with nx:=N,ct:=N,bk:=D.nx } d h)
def KC(a:Ay)(h:Heap):List (Addr×Obj):=a.filterMap λb=>(h.get? b).map λo=>(b,o)
theorem Go{a:Ay}{h:Heap}{b:Addr}{o:Obj}(c:b∈a)(e:h.get? b=some o):(b,o)∈KC a h:=List.mem_filterMap.mpr (b,c,by rw[e];rfl)
theorem XE{h:Heap}{p:Addr×Obj}(hp:p∈KC a h):p.1∈a/\h.get? p.1=some p.2:=by
 obtain ⟨b,d,e⟩:=List.mem_filterMap.mp hp
 cases q:h.get? b with
 |none=>rw[q] at e;cases e
 |some o =>
  rw[q] at e;have c:=rA e;subst c;exact (d,q)
theorem Inv.pinned{s:Shared}{c:Ay}(I:Inv X a σ H s)(i:∀b∈c,Cv X a H b)(h:∀b∈c,∃o,s.heap.get? b=some o/\∀v,o.data ≠ .cell v):Inv X (a++KC c s.heap) σ H s :=
 I.pins_of λp k=>(Qp.mp k).elim (λz=>I.pin p<|Qm _ z) λz=>by
  obtain ⟨g,e⟩:=XE z;obtain ⟨m,j,l,_⟩:=i p.1 g;obtain ⟨o,f,d⟩:=h p.1 g;rw[e] at f;cases f;exact (e,m,j,l,d)
theorem Inv.unpinned{a pl:List (Addr×Obj)}(I:Inv X (a++pl) σ H s):Inv X a σ H s:=I.pins_of λp b=>I.pin p<|Qm _<|sF _ b
theorem Gz{pos:Pos}(hp:PassesOwn (model X.prog X.w) X.A X.env X.xe)(hc:X.calm=true)(hi:PI X tg l wi)(hg:PG X tg g)(q:CT X body tb)
 (hs:∀x,foldedSetIterable l X.env x=pure x:=by intro _; rfl):PS X (.For tg l body [] pos) (n8 wi g tb):=by
 intro a s σ H D I h;refine wpAny_For (Ax (hi a s σ H _ I h) λv s1 h1=>Ax h1 λa0 s2 h2=>?_) hs;obtain ⟨it,K,Y,J,H2,e,I2,T,Q,f2,W,⟨m0,w0⟩,C⟩:=h2;subst e;have y:∀ {z:Hp},(∀b∈K,z b=none)->∀b∈K,Cv X a z b:=λhn b q=>(hn b q,(f2 b q).2);refine codeAny_forLoop_any (λn s'=>∃i p z,Inv X a p z s'/\Y i s'.heap/\(∀b∈K,z b=none)/\W i n p z) ?_ m0 (0,σ,H2,I2,Q,λb q=>(f2 b q).1,w0);rintro n s3 ⟨i,w,L,I3,E,F,w3⟩;rcases C i n w L w3 with ⟨stop,qn⟩ | ⟨go,N,hN,step⟩
 ·refine sD hp (Ax (T.done X rfl rfl rfl hc i a s3 w L X.xe I3 (y F) E stop) λr s4 ⟨P,I4⟩=>?_)
  subst P;exact wpAny_execs_nil (w,L,I4,qn)
 ·refine sD hp (Ax (T.item X rfl rfl rfl hc i a s3 w L X.xe I3 (y F) E go) λr s4 ⟨u,P,h4⟩=>?_)
  subst P;refine sD hp<|Ax h4 λ_ Z ⟨x,U,I5,r5,y5,B,S⟩=>?_;have O:=I5.pinned (y S)<|T.obj _ _ B;refine sD hp<|Ax (hg _ Z w U x u _ O r5<|step x U y5) λ_ s6 ⟨R,H6,I6,q6⟩=>?_;refine sD hp<|Ax (q _ s6 R H6 _ I6 q6) λf M A=>?_;have j:∀ {c:St} {k:Hp},Inv X (a++KC K Z.heap) c k M->N c k->∃m,m<n/\∃i p z,Inv X a p z M/\Y i M.heap/\(∀b∈K,z b=none)/\W i m p z:=fun {c k} t G=>by
   obtain ⟨m',hm,w7⟩:=hN c k G;refine (m',hm,i+1,c,k,t.unpinned,T.keep _ _ _ B λb q o e=>(t.pin (b,o)<|Qm _<|Qm _<|Go q e).1,λb q=>?_,w7);obtain ⟨o,e,d⟩:=T.obj _ _ B b q;exact (t.pin (b,o)<|Qm _<|Qm _<|Go q e).2.1
  cases f with
  | next=>obtain ⟨c,k,t,G⟩:=A; exact j t G
  | cont=>obtain ⟨c,k,t,G⟩:=A; exact j t G
  | brk=>obtain ⟨c,k,t,A⟩:=A; exact (c,k,t.unpinned,A)
  | ret v=>obtain ⟨x7,c,k,t,r7,A⟩:=A; exact (x7,c,k,t.unpinned,r7,A)
end
theorem VQ{K:Ac}{xs:List V}{g:TG}{k:TS}{D:Dz}(b:Nat->St->Hp->Prop)(s:b 0 σ H)(t:∀i σ H,i<=xs.length->b i σ H->AR K H a xs)
 (l:∀i x σ H,xs[i]?=some x->b i σ H->g x σ H λd h=>k { D with nx:=b<|i+1,ct:=b<|i+1,bk:=D.nx } d h) (r:∀σ H,b xs.length σ H->D.nx σ H) :
 ∃W:Nat->Nat->St->Hp->Prop,(∃m,W 0 m σ H)/\∀i m σ H,W i m σ H →
  ((IF K a).stop i H/\D.nx σ H)\/((IF K a).go i H/\∃N:St->Hp->Prop,(∀c f,N c f->∃j,j<m/\W (i+1) j c f)/\∀x f,(IF K a).yld i H x f->g x σ f λd h=>k { D with nx:=N,ct:=N,bk:=D.nx } d h):=by
 refine (λi m σ H=>m=xs.length-i/\i<=xs.length/\b i σ H,(xs.length,by simp,Qe _,s),?_);rintro i m σ H ⟨rfl,o,p⟩;have q:=t i σ H o p
 by_cases hlt:i<xs.length
 ·refine .inr ((xs,xs[i],q,by simp[hlt]),b<|i+1,λc f n=>(xs.length-(i+1),⋯,rfl,hlt,n),λx f y=>?_)
  obtain ⟨e,y⟩:=y;subst e;exact l i x σ _ (y xs q) p
 ·have e:i=xs.length:=⋯
  subst e;exact .inl ((xs,q,Q4 _),r σ H p)
theorem fI{K:Ac}{xs:List V}{g:TG}{k:TS}{D:Dz}(b:Nat->St->Hp->Prop)(s:b 0 σ H)(t:∀i σ H,i<=xs.length->b i σ H->AI K H a xs)
 (l:∀i x σ H,xs[i]?=some x->b i σ H->g x σ H λd h=>k { D with nx:=b<|i+1,ct:=b<|i+1,bk:=D.nx } d h) (r:∀σ H,b xs.length σ H->D.nx σ H) :
 ∃W:Nat->Nat->St->Hp->Prop,(∃m,W 0 m σ H)/\∀i m σ H,W i m σ H →
  ((JD K a).stop i H/\D.nx σ H)\/((JD K a).go i H/\∃N:St->Hp->Prop,(∀c f,N c f->∃j,j<m/\W (i+1) j c f)/\∀x f,(JD K a).yld i H x f->g x σ f λd h=>k { D with nx:=N,ct:=N,bk:=D.nx } d h):=by
 refine (λi m σ H=>m=xs.length-i/\i<=xs.length/\b i σ H,(xs.length,by simp,Qe _,s),?_);rintro i m σ H ⟨rfl,o,p⟩;have q:=t i σ H o p
 by_cases hlt:i<xs.length
 ·refine .inr ((xs,xs[i],q,by simp[hlt]),b<|i+1,λc f n=>(xs.length-(i+1),⋯,rfl,hlt,n),λx f y=>?_)
  obtain ⟨e,y⟩:=y;subst e;exact l i x σ _ (y xs q) p
 ·have e:i=xs.length:=⋯
  subst e;exact .inl ((xs,q,Q4 _),r σ H p)
theorem UD{lo:Int}{n:Nat}{g:TG}{j:TS}{D:Dz}(a:Nat->St->Hp->Prop)(q:a 0 σ H)
 (k:∀i σ H,i<n->a i σ H->g (.int<|lo+i) σ H λc f=>j { D with nx:=a<|i+1,ct:=a<|i+1,bk:=D.nx } c f) (o:∀σ H,a n σ H->D.nx σ H) :
 ∃W:Nat->Nat->St->Hp->Prop,(∃m,W 0 m σ H)/\∀i m σ H,W i m σ H →
  ((FW lo n).stop i H/\D.nx σ H)\/((FW lo n).go i H/\∃N:St->Hp->Prop,(∀b d,N b d->∃h,h<m/\W (i+1) h b d)/\∀x d,(FW lo n).yld i H x d->g x σ d λc f=>j { D with nx:=N,ct:=N,bk:=D.nx } c f):=by
 refine (λi m σ H=>m=n-i/\i<=n/\a i σ H,(n,by simp,Qe _,q),?_);rintro i m σ H ⟨rfl,r,p⟩
 by_cases hlt:i<n
 ·refine .inr (hlt,a<|i+1,λb d l=>(n-(i+1),⋯,rfl,hlt,l),λx d y=>?_)
  obtain ⟨e,y⟩:=y;subst e y;exact k i σ _ hlt p
 ·have e:i=n:=⋯
  subst e;exact .inl (Q4 _,o σ H p)
abbrev R2:=V->V->Hp->VK->Prop
def B3(X:Cx)(f:Value->Value->Sem Value)(r:R2):Prop :=
 ∀(a:List (Addr×Obj)) (s:Shared) (b:St) (H:Hp) (x y:V) (v u:Value) (Q:VK),Inv X a b H s->RelV x v->RelV y u->r x y H Q →
  wpAny (model X.prog X.w) X.A (f v u) (EP X a b Q) X.xe s
def LW(X:Cx)(f:Value->Sem Value)(r:V->Hp->VK->Prop):Prop :=
 ∀(a:List (Addr×Obj)) (s:Shared) (b:St) (H:Hp) (x:V) (v:Value) (Q:VK),Inv X a b H s->RelV x v->r x H Q →
  wpAny (model X.prog X.w) X.A (f v) (EP X a b Q) X.xe s
def EC(X:Cx)(f:Value)(r:List V->Hp->VK->Prop):Prop :=
 ∀(a:List (Addr×Obj)) (s:Shared) (d:St) (H:Hp) (c:List V) (b:List Value) (Q:VK),Inv X a d H s->Al c b->r c H Q →
  wpAny (model X.prog X.w) X.A (call f b) (EP X a d Q) X.xe s
def IW(r:R2)(b e:TE):TE:=λa H Q=>b a H λx d=>e a d λy c=>r x y c Q
def lX(r:V->Hp->VK->Prop)(b:TE):TE:=λa H Q=>b a H λx c=>r x c Q
inductive rI (C:Int->Int->Prop) (g:Int->Int->V) (x y:V) (H:Hp) (Q:VK):Prop
 |mk (i j:Int) (_:x = .int i) (_:y = .int j) (_:C i j) (_:Q (g i j) H):rI C g x y H Q
inductive EX (g:Int->Int->V) (x y:V) (H:Hp) (Q:VK):Prop
 |mk (i j:Int) (_:x = .int i) (_:y = .int j) (_:Q (g i j) H):EX g x y H Q
inductive rU (g:Int->V) (x:V) (H:Hp) (Q:VK):Prop
 |mk (i:Int) (_:x = .int i) (_:Q (g i) H):rU g x H Q
section
variable{X:Cx}{a b c:Expr}{ta tb tc:TE}{pos:Pos}
theorem Op(l:PE X a ta)(r:PE X b tb){d:List (Addr×Obj)}{s:Shared}{σ:St}{H:Hp}{R:V->V->Hp->Prop}(I:Inv X d σ H s)
 (h:ta σ H λx k=>tb σ k λy e=>R x y e) {Q:Value->Shared->Prop} {f:Value->Value->Sem Value}
 (p:∀v u j x y e,Inv X d σ e j->RelV x v->RelV y u->R x y e->wpAny (model X.prog X.w) X.A (f v u) Q X.xe j) :
 wpAny (model X.prog X.w) X.A (eval a X.env) (λv i=>wpAny (model X.prog X.w) X.A (eval b X.env) (λu g=>wpAny (model X.prog X.w) X.A (f v u) Q X.xe g) X.xe i) X.xe s:=by
 refine Ax (l d s σ H _ I h) λv w ⟨x,k,z,m,o⟩=>?_;refine Ax (r d w σ k _ z o) λu j ⟨y,e,t,q,n⟩=>?_;exact p v u j x y e t m q n
theorem Ar(g:B3 X (binaryOp e) r)(f:PE X a ta)(m:PE X b tb):PE X (.BinOp a e b pos) (IW r ta tb):=by
 intro d s k H Q I h;exact wpAny_BinOp<|Op f m I h λv u o x y i n j l q=>g d o k i x y v u Q n j l q
theorem G6(i:LW X (unaryOp e) r)(g:PE X a ta):PE X (.UnaryOp e a pos) (lX r ta):=by
 intro d s f H Q I h;exact UnaryOp_<|Ax (g d s f H _ I h) λv k ⟨x,m,n,j,l⟩=>i d k f m x v Q n j l
theorem FI{f:Value->Value->Sem Value}{C:Int->Int->Prop}{g:Int->Int->Int}
 (d:∀(i j:Int) (t u:Tok) (s:Shared) (Q:Value->Shared->Prop) (E:Value->Shared->Prop),C i j->Q (.int (g i j) s.toks) { s with toks:=s.toks+1 }->wpAny (model X.prog X.w) X.A (f (.int i t)<|.int j u) Q E s) :
 B3 X f (rI C λi j => .int<|g i j):=by
 intro e s o H x y v u Q I l m h;obtain ⟨i,j,rfl,rfl,k,q⟩:=h;obtain ⟨t,rfl⟩:=l;obtain ⟨n,rfl⟩:=m;exact d i j t n s _ _ k (.int<|g i j,H,I.tok _,(_,rfl),q)
theorem Sw{f:Value->Value->Sem Value}{g:Int->Int->Int}
 (d:∀(i j:Int) (t u:Tok) (s:Shared) (Q:Value->Shared->Prop) (E:Value->Shared->Prop),Q (.int (g i j) s.toks) { s with toks:=s.toks+1 }->wpAny (model X.prog X.w) X.A (f (.int i t)<|.int j u) Q E s) :
 B3 X f (EX λi j => .int<|g i j):=by
 intro e s n H x y v u Q I k l h;obtain ⟨i,j,rfl,rfl,q⟩:=h;obtain ⟨t,rfl⟩:=k;obtain ⟨m,rfl⟩:=l;exact d i j t m s _ _ (.int<|g i j,H,I.tok _,(_,rfl),q)
theorem JO{f:Value->Value->Sem Value}{g:Int->Int->Bool}
 (d:∀(i j:Int) (t u:Tok) (s:Shared) (Q:Value->Shared->Prop) (E:Value->Shared->Prop),Q (.bool<|g i j) s->wpAny (model X.prog X.w) X.A (f (.int i t)<|.int j u) Q E s) :
 B3 X f (EX λi j => .bl<|g i j):=by
 intro e s n H x y v u Q I k l h;obtain ⟨i,j,rfl,rfl,q⟩:=h;obtain ⟨t,rfl⟩:=k;obtain ⟨m,rfl⟩:=l;exact d i j t m s _ _ (.bl<|g i j,H,I,rfl,q)
def Yz(i j:Int):Prop:=0<j/\j<1073741824
def nS(i j:Int):Prop:=0<=j/\j<=1000000/\i.natAbs<2^64
def FV(i j:Int):Prop:=(-(2^64)<i/\i<2^64)\/(-(2^64)<j/\j<2^64)
theorem FV.ok(h:FV i j):IntMulOk i j:=by
 rcases h with ⟨h1,h2⟩|⟨h1,h2⟩
 ·exact .of_left (intBits_le_64 h1 h2)
 ·exact .of_right (intBits_le_64 h1 h2)
theorem Bw:B3 X (binaryOp .Add) (EX λi j => .int<|i+j):=Sw λ_ _ _ _ _ _ _ q=>add_int q
theorem Cu:B3 X (binaryOp .Sub) (EX λi j => .int<|i-j):=Sw λ_ _ _ _ _ _ _ q=>sub_int q
theorem Fj:B3 X (binaryOp .Mult) (rI FV λi j => .int<|i*j):=FI λ_ _ _ _ _ _ _ d q=>mul_int q d.ok
theorem DS:B3 X (binaryOp .FloorDiv) (rI Yz λi j => .int<|i/j):=FI λi j _ _ _ _ _ d q=>by
 have f:=d.1;have e:=d.2;exact floordiv_int ⋯ (by rw[sA i ⋯];exact q)<|.inl<|PyProof.noPylong_small ⋯
theorem BU:B3 X (binaryOp .Mod) (rI (λ_ j=>0<j) λi j => .int<|i%j):=FI λi j _ _ _ _ _ d q=>by
 have e:=d;exact mod_int' ⋯ (by rw[Wr i ⋯];exact q)
theorem D0:B3 X (binaryOp .Mod) (rI (λ_ j=>j≠0) λi j => .int<|i.fmod j):=FI λ_ _ _ _ _ _ _ d q=>mod_int' d q
theorem Jp:B3 X (binaryOp .Pow) (rI nS λi j => .int<|i^j.toNat):=FI λ_ _ _ _ _ _ _ d q=>pow_int_small d.1 d.2.1 d.2.2 q
theorem Z0{f:Value->Sem Value}{g:Int->Int}
 (d:∀(i:Int) (t:Tok) (s:Shared) (Q:Value->Shared->Prop) (E:Value->Shared->Prop),Q (.int (g i) s.toks) { s with toks:=s.toks+1 }->wpAny (model X.prog X.w) X.A (f<|.int i t) Q E s) :
 LW X f (rU λi => .int<|g i):=by
 intro e s k H x v Q I j h;obtain ⟨i,rfl,q⟩:=h;obtain ⟨t,rfl⟩:=j;exact d i t s _ _ (.int<|g i,H,I.tok _,(_,rfl),q)
theorem Hj:LW X (unaryOp .USub) (rU λi => .int<|-i):=Z0 λ_ _ _ _ _ q=>neg_int q
end
def N3:V->V->Bool
 | .non,.non=>true| .non,.int _=>true| .int _,.non=>true| .non,.bl _=>true| .bl _,.non=>true| .non,.str _=>true| .str _,.non=>true
 | .int _,.int _=>true| .bl _,.bl _=>true| .str _,.str _=>true| .byt _,.byt _=>true
 | .int _,.str _=>true| .str _,.int _=>true| .bl _,.str _=>true| .str _,.bl _=>true
 |_,_=>false
def VZ:R2:=λx y H Q=>N3 x y=true/\Q (.bl<|decide<|x=y) H
def UP:R2:=λx y H Q=>N3 x y=true/\Q (.bl<|!decide (x=y)) H
theorem Kj:decide (V.int i=V.int j)=(i==j):=by
 rw[Ur]
 simp
theorem Tc:decide (V.bl i=V.bl j)=(i==j):=by
 rw[Ur]
 simp
theorem TJ:decide (V.str i=V.str j)=(i==j):=by
 rw[Ur]
 simp
theorem Sm{i j:Array UInt8}:decide (V.byt i=V.byt j)=(i.toList==j.toList):=by
 rw[Ur]
 cases i
 cases j
 simp
section
variable{X:Cx}{a b c:Expr}{ta tb tc:TE}{pos:Pos}
theorem Ck{Q:VK}{k f:Bool}(I:Inv X d σ H s)(q:Q (.bl k) H)(e:k=f):EP X d σ Q (.bool f) s:=by
 subst e;exact (.bl k,H,I,rfl,q)
theorem BO:B3 X (compareOp .Eq) VZ:=by
 intro k s l H x y v u Q I g d h;obtain ⟨f,q⟩:=h
 cases x with
 |non =>
  cases g
  cases y with
  |non=>cases d;exact PySem.EqNone.eq_none_none<|Ck I q (by simp)
  |bl j=>cases d;exact PySem.EqNone.eq_none_bool<|Ck I q (by simp)
  |int j=>obtain ⟨e,rfl⟩:=d;exact PySem.EqNone.eq_none_int<|Ck I q (by simp)
  |str j=>obtain ⟨e,rfl⟩:=d;exact PySem.EqNone.eq_none_str<|Ck I q (by simp)
  |_=>exact absurd (show false=true from f) W1
 |bl i =>
  cases g
  cases y with
  |non=>cases d;exact PySem.EqNone.eq_bool_none<|Ck I q (by simp)
  |bl j=>cases d;exact eq_bool<|Ck I q Tc
  |str j=>obtain ⟨e,rfl⟩:=d;exact PySem.EqMixed.eq_bool_str<|Ck I q (by simp)
  |_=>exact absurd (show false=true from f) W1
 |int i =>
  obtain ⟨t,rfl⟩:=g
  cases y with
  |non=>cases d;exact PySem.EqNone.eq_int_none<|Ck I q (by simp)
  |int j=>obtain ⟨e,rfl⟩:=d;exact eq_int<|Ck I q Kj
  |str j=>obtain ⟨e,rfl⟩:=d;exact PySem.EqMixed.eq_int_str<|Ck I q (by simp)
  |_=>exact absurd (show false=true from f) W1
 |str i =>
  obtain ⟨t,rfl⟩:=g
  cases y with
  |non=>cases d;exact PySem.EqNone.eq_str_none<|Ck I q (by simp)
  |bl j=>cases d;exact PySem.EqMixed.eq_str_bool<|Ck I q (by simp)
  |int j=>obtain ⟨e,rfl⟩:=d;exact PySem.EqMixed.eq_str_int<|Ck I q (by simp)
  |str j=>obtain ⟨e,rfl⟩:=d;exact eq_str<|Ck I q TJ
  |_=>exact absurd (show false=true from f) W1
 |byt i =>
  obtain ⟨t,rfl⟩:=g
  cases y with
  |byt j=>obtain ⟨e,rfl⟩:=d;exact PySem.W.eq_bytes<|Ck I q Sm
  |_=>exact absurd (show false=true from f) W1
 |_=>cases y <;> exact absurd (show false=true from f) W1
theorem Ga:B3 X (compareOp .NotEq) UP:=by
 intro k s l H x y v u Q I g d h;obtain ⟨f,q⟩:=h
 cases x with
 |non =>
  cases g
  cases y with
  |non=>cases d;exact PySem.EqNone.ne_none_none<|Ck I q (by simp)
  |bl j=>cases d;exact PySem.EqNone.ne_none_bool<|Ck I q (by simp)
  |int j=>obtain ⟨e,rfl⟩:=d;exact PySem.EqNone.ne_none_int<|Ck I q (by simp)
  |str j=>obtain ⟨e,rfl⟩:=d;exact PySem.EqNone.ne_none_str<|Ck I q (by simp)
  |_=>exact absurd (show false=true from f) W1
 |bl i =>
  cases g
  cases y with
  |non=>cases d;exact PySem.EqNone.ne_bool_none<|Ck I q (by simp)
  |bl j=>cases d;exact ne_bool<|Ck I q<|qW not Tc
  |str j=>obtain ⟨e,rfl⟩:=d;exact PySem.EqMixed.ne_bool_str<|Ck I q (by simp)
  |_=>exact absurd (show false=true from f) W1
 |int i =>
  obtain ⟨t,rfl⟩:=g
  cases y with
  |non=>cases d;exact PySem.EqNone.ne_int_none<|Ck I q (by simp)
  |int j=>obtain ⟨e,rfl⟩:=d;exact ne_int<|Ck I q<|qW not Kj
  |str j=>obtain ⟨e,rfl⟩:=d;exact PySem.EqMixed.ne_int_str<|Ck I q (by simp)
  |_=>exact absurd (show false=true from f) W1
 |str i =>
  obtain ⟨t,rfl⟩:=g
  cases y with
  |non=>cases d;exact PySem.EqNone.ne_str_none<|Ck I q (by simp)
  |bl j=>cases d;exact PySem.EqMixed.ne_str_bool<|Ck I q (by simp)
  |int j=>obtain ⟨e,rfl⟩:=d;exact PySem.EqMixed.ne_str_int<|Ck I q (by simp)
  |str j=>obtain ⟨e,rfl⟩:=d;exact ne_str<|Ck I q<|qW not TJ
  |_=>exact absurd (show false=true from f) W1
 |byt i =>
  obtain ⟨t,rfl⟩:=g
  cases y with
  |byt j=>obtain ⟨e,rfl⟩:=d;exact PySem.W.ne_bytes<|Ck I q<|qW not Sm
  |_=>exact absurd (show false=true from f) W1
 |_=>cases y <;> exact absurd (show false=true from f) W1
theorem EW:B3 X (compareOp .Lt) (EX λi j => .bl<|decide<|i<j):=JO λ_ _ _ _ _ _ _ q=>lt_int q
theorem Lp:B3 X (compareOp .LtE) (EX λi j => .bl<|decide<|i<=j):=JO λ_ _ _ _ _ _ _ q=>le_int q
theorem Eu:B3 X (compareOp .Gt) (EX λi j => .bl<|decide<|j<i):=JO λ_ _ _ _ _ _ _ q=>gt_int q
theorem g7:B3 X (compareOp .GtE) (EX λi j => .bl<|decide<|j<=i):=JO λ_ _ _ _ _ _ _ q=>ge_int q
theorem Bn(b:Expr){d:CmpOp}(h:d ≠ .In:=by decide)(f:d ≠ .NotIn:=by decide):behindInMarks d b=false:=by
 have e:(d==CmpOp.In)=false:=by cases d <;> first|rfl|exact absurd rfl h
 have g:(d==CmpOp.NotIn)=false:=by cases d <;> first|rfl|exact absurd rfl f
 cases b <;> simp[behindInMarks,e,g]
theorem FY(g:B3 X (compareOp e) r)(f:PE X a ta)(n:PE X b tb)(l:behindInMarks e b=false):PE X (.Compare a [e] [b] pos) (IW r ta tb):=by
 intro d s k H Q I h;exact wpAny_Compare1 (Op f n I h λv u p x y i o j m q=>g d p k i x y v u Q o j m q) l
inductive TV (x:V) (Q:Bool->Hp->Prop) (H':Hp):Prop
 |mk (k:Bool) (_:x = .bl k) (_:Q k H'):TV x Q H'
def XY(t:TE):TT:=λd H Q=>t d H λx e=>TV x Q e
theorem BK(j:B3 X (compareOp g) r)(i:PE X a ta)(C:PE X b tb)(t:behindInMarks g b=false):PT X (.Compare a [g] [b] pos) (XY<|IW r ta tb):=by
 intro d s f H Q I h;refine wpAny_isTrue_Compare1 (Ax (i d s f H _ I h) λv E ⟨x,G,J,m,q⟩=>Ax (C d E f G _ J q) λu F ⟨y,n,D,B,p⟩ =>
  Ax (j d F f n x y v u _ D m B p) λc K ⟨z,l,o,A,k,e,w⟩=>?_) t
 subst e
 cases A
 exact sG (l,o,w)
def ZP(r g:R2)(ta tb tc:TE):TE:=λd H Q=>ta d H λx i=>tb d i λy f=>r x y f λz e=>∃k,z = .bl k ∧
 (if k=true then tc d e λh j=>g y h j Q else Q (.bl false) e)
theorem Y5(N:B3 X (compareOp j) r)(l:B3 X (compareOp g) p)(t:PE X a ta)(T:PE X b tb)(M:PE X c tc)
 (F:lastMarks [j,g] [b,c]=false:=by with_unfolding_all rfl):PE X (.Compare a [j,g] [b,c] pos) (ZP r p ta tb tc):=by
 intro f s i H Q I h;refine Compare_chain (Ax (t f s i H _ I h) λv U ⟨x,Y,Z,O,P⟩=>chain_link<|Ax (T f U i Y _ Z P) λu J ⟨y,A,G,n,D⟩ =>
  Ax (N f J i A x y v u _ G O n D) λd B ⟨z,o,m,S,k,e,q⟩=>?_) F
 subst e
 cases S
 refine sG ?_
 cases k with
 | false=>exact ite_ff (.bl false,o,m,rfl,q)
 | true=>exact ite_tt<|chain_last<|Ax (M f B i o _ m q) λW E ⟨K,R,C,L,w⟩=>l f E i R y K u W Q C n L w
theorem LF:(sizeLine:Nat)<2^63:=by rw[rX];decide
theorem Fw{x:V}(r:Al [x] us):∃u,us=[u]/\RelV x u:=by
 cases r with
 |cons d e=>cases e;exact (_,rfl,d)
theorem IU{x y:V}(r:Al [x,y] us):∃u d,us=[u,d]/\RelV x u/\RelV y d:=by
 cases r with
 |cons f h =>
  cases h with
  |cons e g=>cases g;exact (_,_,rfl,f,e)
theorem OJ:EC X (.builtin "abs") (λxs H Q=>∃i,xs=[.int i]/\Q (.int (if i<0 then -i else i)) H):=by
 intro d s f H xs e Q I r h;obtain ⟨i,rfl,q⟩:=h;obtain ⟨u,rfl,t,rfl⟩:=Fw r;exact call_abs_int λu g=>(.int (if i<0 then -i else i),H,I.tok _,(_,rfl),q)
theorem pE(e:X.calm=true):EC X (.builtin "max") (λxs H Q=>∃i j,xs=[.int i,.int j]/\Q (.int (if j>i then j else i)) H):=by
 intro d s g H xs f Q I r h;obtain ⟨i,j,rfl,q⟩:=h;obtain ⟨u,n,rfl,⟨t,rfl⟩,⟨o,rfl⟩⟩:=IU r;refine max_two_ints (I.ok.hd e) λl m k=>(_,H,I.kept k,?_,q)
 by_cases hj:j>i
 ·rw[qK hj,qK hj];exact (_,rfl)
 ·rw[qI hj,qI hj];exact (_,rfl)
theorem mP(e:X.calm=true):EC X (.builtin "min") (λxs H Q=>∃i j,xs=[.int i,.int j]/\Q (.int (if j<i then j else i)) H):=by
 intro d s g H xs f Q I r h;obtain ⟨i,j,rfl,q⟩:=h;obtain ⟨u,n,rfl,⟨t,rfl⟩,⟨o,rfl⟩⟩:=IU r;refine min_two_ints (I.ok.hd e) λl m k=>(_,H,I.kept k,?_,q)
 by_cases hj:j<i
 ·rw[qK hj,qK hj];exact (_,rfl)
 ·rw[qI hj,qI hj];exact (_,rfl)
theorem SS:EC X (.type "int") (λxs H Q=>(∃i,xs=[.int i]/\Q (.int i) H)\/∃k,xs=[.bl k]/\Q (.int (if k then 1 else 0)) H):=by
 intro d s g H xs f Q I r h;rcases h with ⟨i,rfl,q⟩|⟨k,rfl,q⟩
 ·obtain ⟨u,rfl,t,rfl⟩:=Fw r;exact call_int_int (.int i,H,I,(_,rfl),q)
 ·obtain ⟨u,rfl,e⟩:=Fw r
  cases e
  exact call_int_bool (.int (if k then 1 else 0),H,I.tok _,(_,rfl),q)
end
structure DZ (h:Heap) (x dx C:Addr) (mA:Str->Option Value):Prop where
 obj:h.get? x=some (PySem.W.instObj C dx)
 ns:h.Ns1 dx mA
 ne:dx≠x
theorem Zk{h:Heap}(n:h.Ns1 f d):∃g,h.get? f=some g/\∀b,PySem.W.lookIn b g=some (d b):=by
 obtain ⟨o,i,s,k,m,p,_,l⟩:=n;refine (o,k,λb=>?_);have e:=l b;unfold nsFind findBy at e;rw[<-Array.find?_toList] at e;unfold PySem.W.lookIn;rw[m]
 dsimp only
 split
 ·rename_i y q
  rw[q] at e;exact qW some e
 ·rename_i q
  rw[q] at e;have a:i.toList.any (·.refKey)=false:=by
   rw[List.any_eq_false];intro y r;obtain ⟨z,t,c⟩:=p y<|Array.mem_toList_iff.mp r
   simp[DictEntry.refKey,c]
  have j:¬i.toList.any (·.refKey)=true:=by rw[a];exact W1
  rw[qI j];exact qW some e
theorem DZ.look(I:DZ h x d C c):∃b,PySem.W.InstAt h x (PySem.W.instObj C d) C (some b)/\∀a,PySem.W.lookIn a b=some (c a) :=
 let ⟨b,ho,hl⟩:=Zk I.ns
 (b,(I.obj,rfl,rfl,ho),hl)
section
variable{prog:Program}{w:World}{A:Around}{E:Value->Shared->Prop}{s:Shared}{K:Ac}{x dx C f:Addr}{mA:Str->Option Value}{name:Str}{v:Value}
theorem Yq{Q:Value->Shared->Prop}(X:K.In s.heap)(I:DZ s.heap x dx C mA)(e:PySem.W.plainGet K C name=true)(g:PySem.W.hasDictIn K C=true)
 (d:PySem.W.findIn K (.ref C) name=some none) (i:mA name=some v) (b:PySem.W.handedIn v=true) (h:Q v { s with toks:=s.toks+1 }) :
 wpAny (model prog w) A (getAttr (.ref x) name a) Q E s:=by
 obtain ⟨j,J,c⟩:=I.look;exact PySem.W.get_value X J (PySem.W.plainGet_of e).1 (PySem.W.findObj_own g d rfl (by rw[c,i])) b h
theorem kG{Q:Value×List Value->Shared->Prop}(X:K.In s.heap)(I:DZ s.heap x dx C mA)(a:PySem.W.plainGet K C name=true)
 (e:PySem.W.findIn K (.ref C) name=some (some<|.ref f)) (d:PySem.W.isFn K (.ref f)=true) (g:mA name=none) (h:Q (.ref f,[.ref x]) s) :
 wpAny (model prog w) A (getMethod (.ref x) name pl) Q E s:=by
 obtain ⟨c,J,b⟩:=I.look;exact PySem.W.method_fn X J (PySem.W.plainGet_of a).1 (PySem.W.plainGet_of a).2 e (sV.mp d) (by show (PySem.W.lookIn name c).map (·.isSome)=some false; rw[b,g]; rfl) h
theorem Ym{k:List Str}{Q:Unit->Shared->Prop}(X:K.In s.heap)(I:DZ s.heap x dx C mA)
 (m:PySem.W.findIn K (.ref C) "__setattr__" = some (some<|.builtin "object.__setattr__")) (hp:PySem.W.plainOver K C=true) (n:PySem.W.takerIn K C name=some none) (u:PySem.W.hasDictIn K C=true)
 (hw:PySem.Within mA k) (p:k.length<=sizeLine)
 (h:∀h',DZ h' x dx C (λy=>if y=name then some v else mA y)->Heap.SameBut dx s.heap h'->Q () { s with heap:=h',toks:=s.toks+2 }) :
 wpAny (model prog w) A (setAttr (.ref x) name v) Q E s:=by
 obtain ⟨B,J,F⟩:=I.look;refine PySem.W.set_plain X J m<|PySem.W.osa_open (s:={ s with toks:=s.toks+1 }) (r:=none) X J hp n λb=>?_;obtain ⟨D,l,g⟩:=PySem.W.any_some u;have t:=I.obj;refine qM<|qS<|qM<|qM<|wpAny_loadPart t<|qM<|PySem.W.Looks.here (s:={ s with toks:=s.toks+1 }) (PySem.W.looks_clsIn X l) ?_;rw[g];refine qS (a:=some dx)<|qM<|qS<|qM ?_;refine wpAny_nsSet1 (s:={ s with toks:=s.toks+1 }) I.ns λh' d c=>?_;obtain ⟨z,q,o,e,j,i⟩:=d.count<|PySem.Within.cons name v hw;refine qM<|wpAny_lookBehind e (by rw[j]; exact pastItsLine_dict<|Q0 i (by rw[Ws]; omega)) ?_;exact qS<|h _ ((c.2 _<|rC I.ne).trans I.obj,d,I.ne) c
theorem aX{vs:List Value}{b:List (Str×Value)}(X:K.In s.heap)(e:PySem.W.makesIn K C=true)
 (i:PySem.W.findIn K (.ref C) "__init__" = some (some<|.ref f)) (c:PySem.W.typeIn K (.ref f)=some (.type "function"))
 (h:codeAny (model prog w) (A.under<|.builtin "type.__call__" (.ref C::vs,b)) (.call (.ref f) (.ref (s.heap.objs.size+1)::vs,b)) (PySem.W.InitBack (s.heap.objs.size+1) R)
  { s with heap:=(s.heap.push PySem.W.emptyDict).push (PySem.W.instObj C s.heap.objs.size) }) :
 codeAny (model prog w) A (.call (.ref C) (vs,b)) R s:=by
 obtain ⟨j,g,d,t,k⟩:=s;exact PySem.W.make_core (PySem.W.makes_of X e) (PySem.W.looks_findIn X i) (λa=>PySem.W.bind_fn X a c) (.inl rfl) h
theorem kY(X:K.In s.heap)(c:PySem.W.makesIn K C=true)
 (e:PySem.W.findIn K (.ref C) "__init__" = some (some<|.builtin "object.__init__"))
 (b:∀a,PySem.W.Looks (model prog w) s.heap (bindSpecial (.builtin "object.__init__") a) (.builtin "object.__init__", [a]))
 (h:codeAny (model prog w) (A.under<|.builtin "type.__call__" ([.ref C],[])) (.call (.builtin "object.__init__") ([.ref<|s.heap.objs.size+1],[])) (PySem.W.InitBack (s.heap.objs.size+1) R)
  { s with heap:=(s.heap.push PySem.W.emptyDict).push (PySem.W.instObj C s.heap.objs.size) }) :
 codeAny (model prog w) A (.call (.ref C) ([],[])) R s:=by
 obtain ⟨i,g,d,t,j⟩:=s;exact PySem.W.make_core (PySem.W.makes_of X c) (PySem.W.looks_findIn X e) b (.inr (rfl,rfl)) h
end
def DV(f:Str)(v:V):List (Str×V)->List (Str×V)
 | []=>[(f,v)]
 |(g,x)::r=>if g=f then (g,v)::r else (g,x)::DV f v r
theorem JM(f g:Str)(v:V):∀b:List (Str×V),(DV f v b).lookup g=if g=f then some v else b.lookup g
 | []=>by
  show List.lookup g [(f,v)]=_
  by_cases h:g=f
  ·have a:=sV.mpr h
   simp only[List.lookup,a,qK h]
  ·have a:=rO.mpr h
   simp only[List.lookup,a,qI h]
 |(k,x)::r=>by
  have c:=JM f g v r;rw[show DV f v ((k,x)::r)=(if k=f then (k,v)::r else (k,x)::DV f v r) from rfl]
  by_cases hk:k=f
  ·rw[qK hk]
   by_cases h:g=k
   ·have a:=sV.mpr h
    simp only[List.lookup,a,qK<|h.trans hk]
   ·have a:=rO.mpr h
    simp only[List.lookup,a,qI (λe:g=f=>h<|e.trans hk.symm)]
  ·rw[qI hk]
   by_cases h:g=k
   ·have a:=sV.mpr h
    simp only[List.lookup,a,qI (λe:g=f=>hk<|h.symm.trans e)]
   ·have a:=rO.mpr h
    simp only[List.lookup,a]
    exact c
theorem Os(f:Str)(v:V):∀a:List (Str×V),f∈(DV f v a).map (·.1)/\∀g,g∈a.map (·.1)->g∈(DV f v a).map (·.1)
 | []=>(by simp[DV],λg h=>by simp at h)
 |(k,x)::r=>by
  obtain ⟨c,b⟩:=Os f v r;rw[show DV f v ((k,x)::r)=(if k=f then (k,v)::r else (k,x)::DV f v r) from rfl]
  by_cases hk:k=f
  ·rw[qK hk];subst hk;exact (by simp,λg h=>by simpa using h)
  ·rw[qI hk];refine (?_,λg h=>?_)
   ·rw[Us];exact Wg _ c
   ·rw[Us] at h ⊢;rcases Qd.mp h with e|e
    ·exact Qd.mpr (.inl e)
    ·exact Wg _ (b g e)
theorem VY(f:Str)(v:V):∀a:List (Str×V),(DV f v a).length<=a.length+1
 | []=>by simp[DV]
 |(k,x)::r=>by
  have b:=VY f v r;rw[show DV f v ((k,x)::r)=(if k=f then (k,v)::r else (k,x)::DV f v r) from rfl]
  by_cases hk:k=f
  ·rw[qK hk,Ws,Ws];omega
  ·rw[qI hk,Ws,Ws];omega
theorem Dr.some_of{v:V}(r:Dr (some v) o):∃u,o=some u/\RelV v u:=by
 cases o with
 |none=>exact (show False from r).elim
 |some u=>exact (u,rfl,r)
theorem Dr.none_of(r:Dr none o):o=none:=by
 cases o with
 |none=>rfl
 |some u=>exact (show False from r).elim
theorem Zq(r:RelV v u):PySem.W.handedIn u=true:=by
 cases v with
 |non=>cases (show u=Value.none from r);rfl
 |bl b=>cases (show u=Value.bool b from r);rfl
 |int i=>obtain ⟨t,e⟩:=(show ∃t,u=Value.int i t from r);cases e;rfl
 |str x=>obtain ⟨t,e⟩:=(show ∃t,u=Value.str x t from r);cases e;rfl
 |byt b=>obtain ⟨t,e⟩:=(show ∃t,u=Value.bytes b t from r);cases e;rfl
 |flt b=>obtain ⟨t,e⟩:=(show ∃t,u=Value.float b t from r);cases e;rfl
 |ref a=>cases (show u=Value.ref a from r);rfl
 |ty n=>cases (show u=Value.type n from r);rfl
section
variable{P:Program}{w:World}{H H':Hp}{h h':Heap}{a C dx:Addr}{fs fs':List (Str×V)}
theorem Jl(c:Cm P w H h)(e:H a=some (.ins C dx fs)):∃b,DZ h a dx C b/\(∀f,Dr (fs.lookup f)<|b f)/\PySem.Within b (fs.map (·.1))/\fs.length<=1000/\H dx=some (.own a):=by
 obtain ⟨d,z,g,i,b,n,r,q⟩:=(show AG P w H h a (.ins C dx fs) from c a _ e);exact (b,(i,n,g),r,q,z,d)
end
structure BV (K:Ac) (C:Addr):Prop where
 pg:PySem.W.plainGet K C Str.empty=true
 hd:PySem.W.hasDictIn K C=true
 po:PySem.W.plainOver K C=true
 sa:PySem.W.findIn K (.ref C) "__setattr__"=some (some (.builtin "object.__setattr__"))
theorem BV.get{K:Ac}(c:BV K C)(f:Str):PySem.W.plainGet K C f=true:=c.pg
def AU(K:Ac)(C:Addr)(f:Str):Prop:=PySem.W.findIn K (.ref C) f=some none
theorem AU.taker{K:Ac}(n:AU K C f):PySem.W.takerIn K C f=some none:=by
 unfold PySem.W.takerIn;rw[show PySem.W.findIn K (.ref C) f=some none from n]
 rfl
structure Fa (K:Ac) (C:Addr) (m:Str) (f:Addr):Prop where
 at_:PySem.W.findIn K (.ref C) m=some (some (.ref f))
 fn:PySem.W.isFn K (.ref f)=true
 kp:PySem.W.keepIn K (.ref f)=true
section
variable{X:Cx}{pins:List (Addr×Obj)}{σ:St}{H:Hp}{s:Shared}{a C dx:Addr}{fs:List (Str×V)}{f:Str}{v:V}{A:Around}{E:Value->Shared->Prop}
theorem dL{Q:Value->Shared->Prop}(I:Inv X pins σ H s)(e:H a=some (.ins C dx fs))(c:BV X.K C)(n:AU X.K C f)(l:fs.lookup f=some v)
 (h:∀u g,Inv X pins σ H g->RelV v u->Q u g):wpAny (model X.prog X.w) A (getAttr (.ref a) f b) Q E s:=by
 obtain ⟨i,O,r,_,_,_⟩:=Jl I.hok e;obtain ⟨u,j,d⟩:=Dr.some_of (v:=v) (o:=i f) (by rw[<-l]; exact r f);exact Yq I.kIn O (c.get f) c.hd n j (Zq d)<|h u _ (I.tok _) d
theorem Vc{Q:Value×List Value->Shared->Prop}(I:Inv X pins σ H s)(e:H a=some (.ins C dx fs))(c:BV X.K C)(k:Fa X.K C m g)(l:fs.lookup m=none)
 (h:Q (.ref g,[.ref a]) s):wpAny (model X.prog X.w) A (getMethod (.ref a) m pl) Q E s:=by
 obtain ⟨d,O,r,_,_,_⟩:=Jl I.hok e;have b:=Dr.none_of (by rw[<-l]; exact r m);exact kG I.kIn O (c.get m) k.at_ k.fn b h
theorem fP{Q:Unit->Shared->Prop}(I:Inv X pins σ H s)(e:H a=some (.ins C dx fs))(c:BV X.K C)(n:AU X.K C f)(G:fs.length<1000)(w:RelV y u)
 (h:∀k,Inv X pins σ (As H a<|.ins C dx<|DV f y fs) k->Q () k):wpAny (model X.prog X.w) A (setAttr (.ref a) f u) Q E s:=by
 obtain ⟨l,O,r,i,_,j⟩:=Jl I.hok e;have F:(fs.map (·.1)).length<=sizeLine:=by rw[Q1,rX]; omega
 refine Ym I.kIn O c.sa c.po n.taker c.hd i F λp d t=>h _ ?_;have B:∃o,p.get? dx=some o:=let ⟨o,_,_,e',_⟩:=d.ns; (o,e');refine I.write (x:=a) (e:=dx) (by rw[e]; exact True.intro) (.inr j) (λb q D z=>(t.2 b D).trans z) B ?_;refine (by rw[AL O.ne]; exact j,?_,O.ne,d.obj,_,d.ns,λg=>?_,λg m=>?_)
 ·have:=VY f y fs; omega
 ·rw[JM]
  by_cases q:g=f
  ·rw[qK q,qK q]; exact w
  ·rw[qI q,qI q]; exact r g
 ·by_cases q:g=f
  ·rw[q]; exact (Os f y fs).1
  ·refine (Os f y fs).2 g (i g λz=>m ?_)
   show (if g=f then some u else l g)=none;rw[qI q]; exact z
theorem Inv.made(I:Inv X pins σ H s):Inv X pins σ (As (As H s.heap.objs.size<|.own<|s.heap.objs.size+1) (s.heap.objs.size+1)<|.ins C s.heap.objs.size [])
 { s with heap:=(s.heap.push PySem.W.emptyDict).push (PySem.W.instObj C s.heap.objs.size) }:=by
 have d:(s.heap.push PySem.W.emptyDict).get? s.heap.objs.size=some PySem.W.emptyDict:=qO s.heap rfl;have h:((s.heap.push PySem.W.emptyDict).push<|PySem.W.instObj C s.heap.objs.size).get? (s.heap.objs.size+1)=some (PySem.W.instObj C s.heap.objs.size):=by
  have:=qO (s.heap.push PySem.W.emptyDict) (o:=PySem.W.instObj C s.heap.objs.size) rfl
  rwa [sO] at this
 have k:(s.heap.push PySem.W.emptyDict).Ns s.heap.objs.size (λ_=>none):=(PySem.W.emptyDict,#[],_,d,rfl,(λe g=>absurd g (by simp)),λ_=>rfl);have j:=I.laid (a:=s.heap.objs.size) (o:=.own<|s.heap.objs.size+1) (h':=s.heap.push PySem.W.emptyDict) (t':=s.toks) (λb u q=>qJ _ q) (Q4 _) (_,d);refine j.laid (a:=s.heap.objs.size+1) (o:=.ins C s.heap.objs.size []) (t':=s.toks) (λb u q=>qJ _ q) (Wt<|sO _ _) ?_;have c:s.heap.objs.size≠s.heap.objs.size+1:=Qb<|Ut _;refine (by rw[AL c,A4],Qe _,c,h,λ_=>none,(Heap.Ns1.of_empty k).at λo q=>qJ _ q,λ_=>True.intro,λy i=>absurd rfl i)
theorem jY{f:Str}{pos:Pos}{s:Shared}(c:attributeBase e f env (eval e env)=eval e env)
 (h:wpAny (model prog w) A (eval e env) (λo b=>wpAny (model prog w) A (getAttr o f true) Q E b) E s):wpAny (model prog w) A (eval (.Attribute e f pos) env) Q E s :=
 Attribute_any_ h (by rw[arm_eval_Attribute,c])
end
inductive V9 (K:Ac) (f:Str) (x:V) (H1:Hp) (Q:VK):Prop
 |mk (a C:Addr) (dx:_) (fs:_) (v:V) (_:x = .ref a) (_:H1 a=some (.ins C dx fs)) (_:BV K C) (_:AU K C f) (_:fs.lookup f=some v) (_:Q v H1):V9 K f x H1 Q
def ZL(K:Ac)(b:TE)(f:Str):TE:=λa H Q=>b a H λx c=>V9 K f x c Q
def Zj(K:Ac)(g h:TE)(f:Str):TS:=λD b H=>h b H λy i=>g b i λx e=>∃a C d c,x = .ref a/\e a=some (.ins C d c)/\BV K C/\AU K C f/\c.length<1000 ∧
 D.nx b (As e a<|.ins C d<|DV f y c)
section
variable{X:Cx}{o e value:Expr}{f:Str}{pos pos' tpos:Pos}{ta tv:TE}
theorem F8(i:PE X e ta)(r:attributeBase e f X.env (eval e X.env)=eval e X.env):PE X (.Attribute e f pos) (ZL X.K ta f):=by
 intro b s k H Q I h;refine jY r<|Ax (i b s k H _ I h) λu B ⟨x,m,w,j,a,C,A,z,v,p,d,c,n,l,q⟩=>?_;subst p;obtain rfl:u=Value.ref a:=j;exact dL w d c n l λy D t g=>(v,m,t,g,q)
theorem R0(g:PE X o ta)(t:PE X value tv)(j:swapsWith value (some<|.Attribute o f pos') pos.line X.env=pure false):PS X (.Assign [.Attribute o f pos'] value pos) (Zj X.K ta tv f):=by
 intro b s d H D I h;refine plainObj_wpAny_Assign_Attribute (Ax (t b s d H _ I h) λu A ⟨y,B,E,w,q⟩=>Ax (g b A d B _ E q) λr L ⟨x,F,z,p,a,C,K,J,v,i,c,n,l,m⟩=>?_) j;subst v;obtain rfl:r=Value.ref a:=p;exact fP z i c n l w λG k=>(d,_,k,m)
end
section
variable{X:Cx}{pins:List (Addr×Obj)}{σ:St}{H:Hp}{s:Shared}{A:Around}{E:Value->Shared->Prop}{Q:Value->Shared->Prop}{c:Value}{b:Bool}
inductive Et (K:Ac) (H:Hp):V->Value->Prop where
 | non:Et K H .non (.type "NoneType")
 | bl (x:Bool):Et K H (.bl x) (.type "bool")
 | int (i:Int):Et K H (.int i) (.type "int")
 | str (x:Str):Et K H (.str x) (.type "str")
 | flt (x:UInt64):Et K H (.flt x) (.type "float")
 | lst {a:Addr} {xs:List V} (e:H a=some (.lst xs)):Et K H (.ref a) (.type "list")
 | frz {a:Addr} {o:Obj} {xs:List V} (e:H a=some (.frz o (.lst xs))):Et K H (.ref a) (.type "list")
 | tup {a:Addr} {xs:List V} (e:H a=some (.tup xs)):Et K H (.ref a) (.type "tuple")
 | dK {a:Addr} {kvs:List (DJ×V)} (e:H a=some (.dK kvs)):Et K H (.ref a) (.type "dict")
 | dT {a:Addr} {kvs:List (List DJ×V)} (e:H a=some (.dT kvs)):Et K H (.ref a) (.type "dict")
 | ins {a C dx:Addr} {fs:List (Str×V)} (e:H a=some (.ins C dx fs)) (cl:BV K C) (ha:PySem.W.findIn K (.ref C) "__class__" = some (some (.builtin "object.__class__")))
  (hn:PySem.W.specialIn K (.builtin "object.__class__") "__get__" = some (some (.builtin "getset_descriptor.__get__"))) (htk:PySem.W.takesIn K (.builtin "object.__class__")=some true)
  (hm:PySem.W.mroIn K C (.type "object")=some true):Et K H (.ref a) (.ref C)
theorem YS{u t:Value}(I:Inv X pins σ H s)(d:RelV x u)(k:Et X.K H x t)(e:PySem.W.kitOne X.K t c=some b)(h:∀m,Q (.bool b) { s with toks:=m }) :
 wpAny (model X.prog X.w) A (call (.builtin "isinstance") [u,c]) Q E s:=by
 cases k with
 | non=>cases (show u=Value.none from d); exact rD PySem.W.kitx_none I.kIn True.intro e (λz=>nomatch z) h
 | bl y=>cases (show u=Value.bool y from d); exact rD PySem.W.kitx_bool I.kIn True.intro e (λz=>nomatch z) h
 | int i=>obtain ⟨t,q⟩:=(show ∃t,u=Value.int i t from d); cases q; exact rD PySem.W.kitx_int I.kIn True.intro e (λz=>nomatch z) h
 | str y=>obtain ⟨t,q⟩:=(show ∃t,u=Value.str y t from d); cases q; exact rD PySem.W.kitx_str I.kIn True.intro e (λz=>nomatch z) h
 | flt y=>obtain ⟨t,q⟩:=(show ∃t,u=Value.float y t from d); cases q; exact rD PySem.W.kitx_float I.kIn True.intro e (λz=>nomatch z) h
 | @lst a g ea =>
  cases (show u=Value.ref a from d)
  obtain ⟨_,_,n,_,f⟩:=(show AG X.prog X.w H s.heap a (.lst g) from I.hok a _ ea);exact rD PySem.W.kitx_list I.kIn (_,f,rfl) e (λz=>nomatch z) h
 | @frz a ob g ea =>
  cases (show u=Value.ref a from d)
  obtain ⟨_,_,_,n,_,f⟩:=(show AG X.prog X.w H s.heap a (.frz ob<|.lst g) from I.hok a _ ea);exact rD PySem.W.kitx_list I.kIn (_,f,rfl) e (λz=>nomatch z) h
 | @tup a g ea =>
  cases (show u=Value.ref a from d)
  obtain ⟨_,_,_,p⟩:=(show AG X.prog X.w H s.heap a (.tup g) from I.hok a _ ea);obtain ⟨o,f,j,_⟩:=p;exact rD PySem.W.kitx_tuple I.kIn (o,f,j) e (λz=>nomatch z) h
 | @dK a kvs ea =>
  cases (show u=Value.ref a from d)
  obtain ⟨_,_,B,_,p⟩:=(show AG X.prog X.w H s.heap a (.dK kvs) from I.hok a _ ea);obtain ⟨o,r,l,f,j,_⟩:=p;exact rD PySem.W.kitx_dict I.kIn (o,f,j.1) e (λz=>nomatch z) h
 | @dT a kvs ea =>
  cases (show u=Value.ref a from d)
  obtain ⟨_,_,g,_,o,r,l,f,j,_⟩:=(show AG X.prog X.w H s.heap a (.dT kvs) from I.hok a _ ea);exact rD PySem.W.kitx_dict I.kIn (o,f,j.1) e (λz=>nomatch z) h
 | @ins a C dx fs ea cl ha hn htk hm =>
  cases (show u=Value.ref a from d)
  obtain ⟨v,O,_⟩:=Jl I.hok ea;obtain ⟨w,J,_⟩:=O.look;exact rD (PySem.W.kitx_own (cl.get _) cl.hd ha hn htk hm) I.kIn J e (λz=>nomatch z) h
end
structure Av (k:Nat) (A:Around):Prop where
 hd:A.handled=none
 dp:A.depth+3*k+5<recursionLimit
 un:A.units+16*k+200<cLine
theorem Av.mono{j k:Nat}(r:Av k A)(h:j<=k):Av j A:=(r.hd,by have:=r.dp;omega,by have:=r.un;omega)
theorem Av.deeper{k:Nat}{A:Around}(r:Av (k+1) A)(env:Env):Av k (A.deeper env) :=
 (r.hd,by have:=r.dp;show A.depth+1+3*k+5<_;omega,by have:=r.un;show A.units+3+16*k+200<_;omega)
theorem Av.in1{k:Nat}{A:Around}(r:Av (k+1) A):Av k A.in1 :=
 (r.hd,by have:=r.dp;show A.depth+3*k+5<_;omega,by have:=r.un;show A.units+1+16*k+200<_;omega)
theorem Xl{A:Around}{C:Addr}{us:List Value}{a:List (Str×Value)}:(A.under<|.builtin "type.__call__" (.ref C::us,a)).depth=A.depth+1:=by
 first|rfl|simp[Around.under,Code.weight,Code.isCreation,Code.isGuard,Code.isCaller,Code.frames,Code.isFrame,guardIds]
theorem fL{A:Around}{C:Addr}{us:List Value}{a:List (Str×Value)}:(A.under<|.builtin "type.__call__" (.ref C::us,a)).units=A.units+1:=by
 first|rfl|simp[Around.under,Code.cUnits,Code.frames,Code.isFrame]
theorem Av.make{k:Nat}{A:Around}(r:Av (k+1) A)(C:Addr)(us:List Value)(a:List (Str×Value)):Av k (A.under<|.builtin "type.__call__" (.ref C::us,a)) :=
 (r.hd,by have:=r.dp;rw[Xl];omega,by have:=r.un;rw[fL];omega)
theorem Av.depth{A:Around}(r:Av k A):A.depth<recursionLimit:=by have:=r.dp;omega
theorem Av.units{A:Around}(r:Av k A):A.units+64<cLine:=by have:=r.un;omega
def Ze:TA:=λ_ H Q=>Q [] H
def Yb(b:TE)(c:TA):TA:=λa H Q=>b a H λx f=>c a f λe d=>Q (x::e) d
section
variable{X:Cx}{e:Expr}{es:List Expr}{te:TE}{t:TA}{pos:Pos}
theorem An:PA X [] Ze:=λ_ _ _ _ H Q I h=>Calls.spliced_nil ([],H,I,.nil,h)
theorem Ag(c:PE X e te)(l:PA X es t)(d:starEach (e::es) X.env=(false,eval e X.env)::starEach es X.env:=by rfl):PA X (e::es) (Yb te t):=by
 intro pos a s b H Q I h;rw[d];refine Calls.spliced_cons<|Ax (c a s b H _ I h) λu n ⟨x,p,k,f,j⟩=>?_;exact Ax (l pos a n b p _ k j) λr v ⟨o,g,m,q,i⟩=>(x::o,g,m,.cons f q,i)
def Zf(t:TA):TE:=λc H Q=>t c H λa b=>a.length<=sizeLine/\∀p,b p=none->Q (.ref p) (As b p<|.tup a)
def Yw(t:TA):TE:=λc H Q=>t c H λa b=>a.length<=sizeLine/\∀p,b p=none->Q (.ref p) (As b p<|.lst a)
theorem DI{x1}(h:PA X es t):PE X (.Tuple es x1 pos) (Zf t):=by
 intro a s g H Q I i;refine wpAny_Tuple_spliced<|Ax (h pos a s g H _ I i) λf c ⟨k,l,d,r,z,q⟩=>(by rw[<-r.length];exact z,?_);have j:=d.hok.fresh<|Q4 _;refine (.ref c.heap.objs.size,As l c.heap.objs.size<|.tup k,d.laid (t':=c.toks) (λb u e=>qJ _ e) (Q4 _) ?_,rfl,q _ j);exact (z,f,r,(_,qO _ rfl,rfl,_,rfl))
theorem Jb(h:PA X es t):PE X (.List es pos) (Yw t):=by
 intro a s g H Q I i;refine wpAny_List_spliced<|Ax (h pos a s g H _ I i) λf c ⟨k,l,d,r,z,q⟩=>(by rw[<-r.length];exact z,?_);have j:=d.hok.fresh<|Q4 _;refine (.ref c.heap.objs.size,As l c.heap.objs.size<|.lst k,d.laid (t':=c.toks) (λb u e=>qJ _ e) (Q4 _) ?_,rfl,q _ j);exact (z,f,0,r,qO _ rfl)
end
abbrev Sp:=List V->Hp->VK->XK->Prop
abbrev Gs:=List Env->Hp->Shared->XK->Value->Shared->Prop
structure D7 (P:Program) (w:World) (K:Ac) (mg:Ai) (base:Heap) (A:Around) (outer:List Env) (s:Shared) (H:Hp):Prop where
 frames:A.frames=some outer
 mod:Mod K mg base
 bs:∀b o,base.get? b=some o->s.heap.get? b=some o/\H b=none
 bsz:base.objs.size<=s.heap.objs.size
 funs:s.heap.FunFrames base outer
 frf:∀b∈BH outer,H b=none
 hok:Cm P w H s.heap
 bare:AllBare s.gens
def CE(a:List Env)(P:Program)(w:World)(H:Hp)(s:Shared)(Q:VK)(u:Value)(b:Shared):Prop :=
 ∃v c,b.os=s.os/\AllBare b.gens/\Un (BH a) [] H c s.heap b.heap/\Cm P w c b.heap/\RelV v u/\Q v c
def CR(CX:Gs)(a:List Env)(P:Program)(w:World)(H:Hp)(s:Shared)(Q:VK)(E:XK)(r:Result)(b:Shared):Prop :=
 match r with
 | .ok (.ret u)=>CE a P w H s Q u b
 | .ok _=>False
 | .error e=>CX a H s E e b
structure AS (P:Program) (w:World) (K:Ac) (mg:Ai) (base:Heap) (CX:Gs) (k:Nat) (f:Addr) (fd:FuncData) (ps:List Str) (sp:Sp):Prop where
 len:∀vs H Q E,sp vs H Q E->vs.length=ps.length
 run:∀(A:Around) (outer:List Env) (s:Shared) (H:Hp) (args:Args) (us:List Value) (vs:List V) (Q:VK) (E:XK),Av k A->D7 P w K mg base A outer s H->BindsTo s fd args (ps.zip us)->Al vs us->sp vs H Q E →
  codeAny (model P w) A (.call (.ref f) args) (CR CX outer P w H s Q E) s
theorem AS.mono{K:Ac}{j k:Nat}(F:AS P w K mg base CX j f c ps sp)(h:j<=k) :
 AS P w K mg base CX k f c ps sp:=(F.len,λA a s H b d g Q E e=>F.run A a s H b d g Q E<|e.mono h)
theorem AS.imp{K:Ac}{sp c:Sp}(F:AS P w K mg base CX k f d ps sp)
 (h:∀vs H Q E,c vs H Q E->sp vs H Q E):AS P w K mg base CX k f d ps c :=
 (λvs H Q E q=>F.len vs H Q E<|h _ _ _ _ q,λA a s H b g vs Q E l i m j e=>F.run A a s H b g vs Q E l i m j<|h _ _ _ _ e)
theorem D7.make{K:Ac}{A:Around}(e:D7 P w K mg base A a s H)(C:Addr)(us:List Value)(b:List (Str×Value)) :
 D7 P w K mg base (A.under<|.builtin "type.__call__" (.ref C::us,b)) a s H:=(by first | exact e.frames | (simpa [Around.under,Code.envs,Code.isFrame,pushEnvs] using e.frames),e.mod,e.bs,e.bsz,e.funs,e.frf,e.hok,e.bare)
section
variable{X:Cx}{pins:List (Addr×Obj)}{σ:St}{H:Hp}{s s':Shared}
theorem Inv.env0(I:Inv X pins σ H s):D7 X.prog X.w X.K X.mg X.base X.A X.stack s H :=
 (I.ok.frames,I.ok.mod,I.bs,Q0 I.ok.bsz I.sz,I.stack,I.stkFree,I.hok,I.bare)
theorem Inv.after(I:Inv X pins σ H s)(h:CE X.stack X.prog X.w H s Q u s'):EP X pins σ Q u s':=by
 obtain ⟨v,j,f,a,i,e,r,q⟩:=h;obtain ⟨k,g,d,t,c⟩:=s';obtain rfl:c=s.os:=f;exact (v,j,I.call (h':=k) (g':=g) (d':=d) (t':=t) (ch:=[]) i e a<|λb z=>absurd z (by simp),r,q)
end
def Sv(sp:Sp)(dvs:List V)(E:XK)(t:TA):TE:=λa H Q=>t a H λb c=>sp (b++dvs) c Q E
def WX(C:Addr)(sp:Sp)(dvs:List V)(E:XK)(t:TA):TE:=λd H Q=>t d H λe b=>∀x a,b x=none->b a=none->a≠x →
 sp (.ref x::(e++dvs)) (As (As b a<|.own x) x<|.ins C a []) (λv c=>v = .non/\Q (.ref x) c) E
def AB(K:Ac)(b:FuncData)(ps:List Str)(ds:List Value):Prop :=
 ∀(s:Shared) (a:List Value),K.In s.heap->(a++ds).length=ps.length->BindsTo s b (a,[]) (ps.zip<|a++ds)
theorem AB.all{K:Ac}{ps:List Str}(h:∀us:List Value,us.length=ps.length->bindArgs a (us,[])=pure (ps.zip us)):AB K a ps []:=λs us _ b=>by
 rw[Wu] at b ⊢;exact .of_eq<|h us b
def JK(CX:Gs)(X:Cx)(E:XK):Prop:=∀(a:List (Addr×Obj)) (c:St) (H:Hp) (s:Shared) (e:Value) (b:Shared),Inv X a c H s->CX X.stack H s E e b->X.xe e b
section
variable{X:Cx}{CX:Gs}{k:Nat}{f C:Addr}{fd:FuncData}{ps:List Str}{sp:Sp}{dvs:List V}{ds:List Value}{E:XK}{x m:Str}{p pos apos:Pos}{e o:Expr}{es:List Expr}{ta:TE}{t:TA}
theorem WJ(F:AS X.prog X.w X.K X.mg X.base CX k f fd ps sp)(g:Av k X.A)(n:AB X.K fd ps ds)(i:Al dvs ds)(j:JK CX X E)
 (I:Inv X a σ H s) (r:Al vs us) (h:sp (vs++dvs) H Q E):wpAny (model X.prog X.w) X.A (call (.ref f) us) (EP X a σ Q) X.xe s:=by
 have c:=r.append i;have l:(us++ds).length=ps.length:=by rw[<-c.length]; exact F.len _ _ _ _ h
 refine wpAny_call<|codeAny_mono (F.run X.A X.stack s H (us,[]) (us++ds) (vs++dvs) Q E g I.env0 (n s us I.kIn l) c h) λr q b=>?_
 cases r with
 | error e=>exact j a σ H s e q I b
 | ok d =>
  cases d with
  | ret u=>exact I.after b
  | next=>exact False.elim b
  | brk=>exact False.elim b
  | cont=>exact False.elim b
theorem XS(F:AS X.prog X.w X.K X.mg X.base CX k f fd ps sp)(u:Av k X.A)(i:Gl X x)(n:X.mg x=some (.ref f))(y:PySem.W.keepIn X.K (.ref f)=true)(w:AB X.K fd ps ds)(v:Al dvs ds)(z:JK CX X E)
 (g:PA X (e::es) t) (b:(x==("__debug__" : Str))=false:=by decide) (j:starEach (e::es) X.env=(false,eval e X.env)::starEach es X.env:=by rfl) (c:(backTo pos<|starEach es X.env).any (·.1)=false:=by rfl) :
 PE X (.Call (.Name x p) (e::es) [] pos) (Sv sp dvs E t):=by
 intro a s l H Q I h;refine q8<|Ii I i n ?_ b;refine sU (h₀:=X.base) I.ok.mod.kin y (Ax (g pos a s l H _ I h) λA B ⟨D,G,d,r,q⟩=>(d.kIn,?_)) j c;exact WJ F u w v z d r q
structure Mk (K:Ac) (C f:Addr):Prop where
 makes:PySem.W.makesIn K C=true
 init:PySem.W.findIn K (.ref C) "__init__"=some (some (.ref f))
 fn:PySem.W.isFn K (.ref f)=true
 kp:PySem.W.keepIn K (.ref C)=true
theorem p5{Q:VK}(M:Mk X.K C f)(F:AS X.prog X.w X.K X.mg X.base CX k f fd ps sp)(A:Av (k+1) X.A)(D:AB X.K fd ps ds)(B:Al dvs ds)
 (G:JK CX X E) (I:Inv X b σ H s) (r:Al vs us)
 (h:∀x c,H x=none->H c=none->c≠x->sp (.ref x::(vs++dvs)) (As (As H c<|.own x) x<|.ins C c []) (λv j=>v = .non/\Q (.ref x) j) E) :
 wpAny (model X.prog X.w) X.A (call (.ref C) us) (EP X b σ Q) X.xe s:=by
 have g:=h (s.heap.objs.size+1) s.heap.objs.size (I.hok.fresh<|Ud _) (I.hok.fresh<|Q4 _)<|Qb<|Ut _;have d:=Inv.made (C:=C) I;have i:Al (V.ref (s.heap.objs.size+1)::(vs++dvs)) (Value.ref (s.heap.objs.size+1)::(us++ds)):=.cons rfl<|r.append B;have K:(Value.ref (s.heap.objs.size+1)::us++ds).length=ps.length:=by
  have e:=i.length;rw[F.len _ _ _ _ g] at e;exact e.symm
 refine wpAny_call<|aX (f:=f) I.kIn M.makes M.init (sV.mp M.fn)<|codeAny_mono (F.run _ X.stack _ _ (Value.ref (s.heap.objs.size+1)::us,[]) (Value.ref (s.heap.objs.size+1)::(us++ds)) _ _ E (A.make C us [])
  (d.env0.make C us []) (D _ (Value.ref (s.heap.objs.size+1)::us) d.kIn K) i g) λr l a=>?_
 cases r with
 | error e=>exact G b σ _ _ e l d a
 | ok w =>
  cases w with
  | ret u =>
   obtain ⟨v,J,n,q,z,y⟩:=d.after a;subst z;exact (q,(V.ref<|s.heap.objs.size+1,J,n,rfl,y))
  | next=>exact False.elim a
  | brk=>exact False.elim a
  | cont=>exact False.elim a
theorem iY(M:Mk X.K C f)(F:AS X.prog X.w X.K X.mg X.base CX k f fd ps sp)(u:Av (k+1) X.A)(i:Gl X x)(n:X.mg x=some (.ref C))(w:AB X.K fd ps ds)(v:Al dvs ds)(y:JK CX X E)
 (g:PA X (e::es) t) (b:(x==("__debug__" : Str))=false:=by decide) (j:starEach (e::es) X.env=(false,eval e X.env)::starEach es X.env:=by rfl) (c:(backTo pos<|starEach es X.env).any (·.1)=false:=by rfl) :
 PE X (.Call (.Name x p) (e::es) [] pos) (WX C sp dvs E t):=by
 intro a s l H Q I h;refine q8<|Ii I i n ?_ b;refine sU (h₀:=X.base) I.ok.mod.kin M.kp (Ax (g pos a s l H _ I h) λz A ⟨B,D,d,r,q⟩=>(d.kIn,?_)) j c;exact p5 M F u w v y d r q
end
structure Aa (N P:List Str) (sc:Scope):Prop where
 kind:sc.kind = .function
 co:sc.isCoroutine=false
 gen:sc.isGenerator=false
 nd:N.Nodup
 pre:N.take P.length=P
 par:∀x∈P,sc.names.lookup x=some .local\/sc.names.lookup x=some .cell
 nofree:∀y∈sc.names,y.2 ≠ .free
theorem SV{x:Str}:∀ {a:List (Str×Value)} {m:Str->Option Value},(∀v,(x,v)∉a)->bindL b a m x=m x
 | [],_,_=>rfl
 |(n,v)::r,m,h=>by
  unfold bindL;rw[SV λw c=>h w<|Wg _ c]
  split
  ·have:x≠n:=by rintro rfl;exact h v Wc
   simp[this]
  ·rfl
theorem UI{x:Str}:∀ {a:List (Str×Value)} {m:Str->Option Value},(∀v,(x,v)∉a)->bindC b a m x=m x
 | [],_,_=>rfl
 |(n,v)::r,m,h=>by
  unfold bindC;rw[UI λw c=>h w<|Wg _ c]
  split
  ·rfl
  ·have:x≠n:=by rintro rfl;exact h v Wc
   simp[this]
theorem RU{a:Str->Option NameKind}{x:Str}{v:Value}:∀ {P:List Str} {vs:List Value} {i:Nat} {m:Str->Option Value},P.Nodup->P[i]?=some x->vs[i]?=some v->a x=some .local →
 bindL a (P.zip vs) m x=some v
 | [],_,_,_,_,h,_,_=>by simp at h
 | _::_,[],_,_,_,_,h,_=>by simp at h
 | p::P,w::vs,0,m,nd,h1,h2,hk=>by
  simp at h1 h2; subst h1; subst h2
  show bindL a ((p,w)::P.zip vs) m p=_;unfold bindL;rw[SV λv b=>(List.nodup_cons.mp nd).1 (List.of_mem_zip b).1,qK hk]
  simp
 | p::P,w::vs,i+1,m,nd,h1,h2,hk=>by
  unfold bindL;exact RU (i:=i) (List.nodup_cons.mp nd).2 (by simpa using h1) (by simpa using h2) hk
theorem RZ{a:Str->Option NameKind}{x:Str}{v:Value}:∀ {P:List Str} {vs:List Value} {i:Nat} {m:Str->Option Value},P.Nodup->P[i]?=some x->vs[i]?=some v->a x≠some .local →
 bindC a (P.zip vs) m x=some v
 | [],_,_,_,_,h,_,_=>by simp at h
 | _::_,[],_,_,_,_,h,_=>by simp at h
 | p::P,w::vs,0,m,nd,h1,h2,hk=>by
  simp at h1 h2; subst h1; subst h2
  show bindC a ((p,w)::P.zip vs) m p=_;unfold bindC;rw[UI λv b=>(List.nodup_cons.mp nd).1 (List.of_mem_zip b).1,qI hk]
  simp
 | p::P,w::vs,i+1,m,nd,h1,h2,hk=>by
  unfold bindC;exact RZ (i:=i) (List.nodup_cons.mp nd).2 (by simpa using h1) (by simpa using h2) hk
def start(N:List Str)(vs:List V):St:=vs.map some++List.replicate (N.length-vs.length) none
def Gi(CX:Gs)(P:Program)(w:World)(K:Ac)(mg:Ai)(base:Heap)(N:List Str)(b:Str)(a:Scope)(f:Addr)(d:Value)(A:Around)(outer:List Env)(s:Shared)(H:Hp)(E:XK):Cx where
 prog:=P
 w:=w
 K:=K
 mg:=mg
 base:=base
 A:=A.deeper<|envOfC b a s.heap.objs.size f d
 N:=N
 s₀:=s
 H₀:=H
 env:=envOfC b a s.heap.objs.size f d
 outer:=outer
 stack:=envOfC b a s.heap.objs.size f d::outer
 ex:=[]
 calm:=true
 fn:=λ_=>true
 pn:=[]
 xe:=λe h=>wpAny (model P w) (A.deeper<|envOfC b a s.heap.objs.size f d) (leaving (envOfC b a s.heap.objs.size f d) e) (λ_ c=>CX outer H s E e c) (λg c=>CX outer H s E g c) h
theorem VE{a:Scope}(h:a.names.lookup x=some .cell):∃c,(cellsFrom n a.names []).lookup x=some c:=by
 have q:=PySem.W.cellsFrom_some a.names n []<|.inl h;exact Option.isSome_iff_exists.mp q
theorem X2{K:Ac}{N ps:List Str}{d:Scope}{A:Around}{s I:Shared}{vs:List V}
 (S:Aa N ps d) (O:A.handled=none) (m:D7 P w K mg base A g s H) (T:vs.length=ps.length) (r:Al vs us)
 (x:InCallC s s.heap.objs.size (bindL (envOfC j d s.heap.objs.size f D).kindOf (ps.zip us) λ_=>none) (cellsFrom (s.heap.objs.size+1) d.names []) (bindC (envOfC j d s.heap.objs.size f D).kindOf (ps.zip us) λ_=>none) I) :
 Inv (Gi CX P w K mg base N j d f D A g s H E) [] (start N vs) H I:=by
 have Q:ps.length<=N.length:=by have:=qW List.length S.pre; rw[Qn] at this; omega
 obtain ⟨F,U,rfl,G⟩:=x.done;have o:∀b:Addr,b∉(Gi CX P w K mg base N j d f D A g s H E).ex:=λb z=>absurd (show b∈([]:Ay) from z) (by simp);refine ((m.mod,S.kind,rfl,rfl,Q4 _,λy z c F l=>?_,λy hy=>?_,λy c _ h=>?_,λ_=>O,Around.frames_deeper m.frames,.inr (rfl,rfl),λb z=>absurd z<|o b,m.bs,m.bsz,λb _ _=>o b,λb z=>absurd z<|o b,m.funs,m.frf),
  rfl,m.bare,Un.kept G,(_,x.toInCall.ns,λi y v F l R=>?_),λy c h=>(_,x.cell y c h),m.hok.fresh<|Q4 _,λy c h=>?_,λp t=>absurd (show p∈([]:List (Addr×Obj)) from t) (by simp),m.hok.kept G,?_)
 ·exact name_of_addr x.apart (qY F) (qY l)
 ·have hy:d.names.lookup y=some .cell\/d.names.lookup y=some .free:=hy
  rcases hy with hy | hy
  ·exact VE hy
  ·exact absurd rfl (S.nofree _<|qY hy)
 ·exact Wf (x.above y c<|qY h)
 ·have C:i<vs.length:=by
   unfold start at l
   by_cases C:i<vs.length
   ·exact C
   ·rw[Ue (by simpa using C)] at l
    rw[sQ] at l
    split at l <;> cases l
  have L:vs[i]?=some v:=by
   unfold start at l;rw[U3 (by simpa using C),Q7] at l
   cases e:vs[i]? with
   | none=>rw[e] at l; cases l
   | some a=>rw[e] at l; cases l; rfl
  obtain ⟨u,J,M⟩:=r.get L;have t:ps[i]?=some y:=by
   rw[<-S.pre,List.getElem?_take_of_lt ⋯]; exact F
  have B:ps.Nodup:=by rw[<-S.pre]; exact S.nd.sublist<|List.take_sublist _ _
  refine (u,M,?_);rcases S.par y (Ql t) with k | k
  ·exact .inl (k,RU B t J k)
  ·obtain ⟨c,e⟩:=VE (n:=s.heap.objs.size+1) k
   refine .inr (.inl k,c,e,?_);have q:=x.cell y c e;rw[RZ B t J (by show d.names.lookup y≠_; rw[k]; decide)] at q;exact q
 ·exact m.hok.fresh (Wf<|x.above y c<|qY h)
 ·unfold start
  show _=N.length;rw[Qi,Q1,Wv];omega
theorem fn_of{K:Ac}{W kV D pm g Z oc:Value}{X od:Option Addr}
 {U:Array (Option Value)} {N ps:List Str} {sp:Sp} (lk:K.lookup f=some (oc,od,.func<|PySem.W.fnOf l d h body a W kV D pm X g Z,U)) (L:PySem.W.codeIn K g d=true) (S:Aa N ps a)
 (C:∀vs H Q E,sp vs H Q E->vs.length=ps.length)
 (m:∀(A:Around) (c:List Env) (s:Shared) (H:Hp) (vs:List V) (Q:VK) (E:XK),Av k (A.deeper<|envOfC d a s.heap.objs.size f g)->sp vs H Q E →
  ∃t,CT (Gi CX P w K mg base N d a f g A c s H E) body t/\t { nx:=λ_ j=>Q .non j,rt:=Q } (start N vs) H) :
 AS P w K mg base CX (k+1) f (PySem.W.fnOf l d h body a W kV D pm X g Z) ps sp:=by
 refine (C,λA c s H Y us vs Q E T G hb r B=>?_);have hl:=C _ _ _ _ B;have KX:K.In s.heap:=G.mod.kin.keeps λb o e=>(G.bs b o e).1;have M:s.heap.NoLimit:=G.mod.nolimit.keeps λb o e=>(G.bs b o e).1;have p:∀y∈ps.zip us,a.names.lookup y.1=some .local\/(a.names.lookup y.1=some .cell/\((cellsFrom (s.heap.objs.size+1) a.names []).lookup y.1).isSome=true):=λ⟨n,v⟩ hy=>by
  rcases S.par n (List.of_mem_zip hy).1 with q | q
  ·exact .inl q
  ·exact .inr (q,PySem.W.cellsFrom_some _ _ _<|.inl q)
 refine codeAny_call_function T.depth (KX _ _ lk) rfl S.co S.gen rfl (PySem.W.codeRec_of KX L)<|hb _ _ _ _ ?_;refine wpAny_newFunctionEnv_cells S.kind p λa0 he s1 x=>?_;subst he;refine (M.keeps x.toInCall.keep,codeAny_func ?_);obtain ⟨t,ht,hq⟩:=m A c s H vs Q E (T.deeper _) B;have I:Inv (Gi CX P w K mg base N d a f g A c s H E) [] (start N vs) H s1:=X2 S T.hd G hl r x;refine rE (ht [] s1 (start N vs) H _ I hq) (λfl O z=>?_) λe O z=>z;have F:∀ {i:St} {j:Hp} {v:V} {u:Value},Inv (Gi CX P w K mg base N d a f g A c s H E) [] i j O->RelV v u->Q v j->CE c P w H s Q u O :=
  fun {i j v u} J R q=>(v,j,J.os,J.bare,J.base,J.hok,R,q)
 cases fl with
 | ret u =>
  obtain ⟨v,i,j,J,R,q⟩:=z;exact F J R q
 | next =>
  obtain ⟨i,j,J,q⟩:=z;exact F (v:=V.non) (u:=Value.none) J rfl q
 | brk =>
  obtain ⟨_,_,_,q⟩:=z;exact False.elim q
 | cont =>
  obtain ⟨_,_,_,q⟩:=z;exact False.elim q
section
variable{X:Cx}{x:Str}{p pos:Pos}{e:Expr}{es:List Expr}{t:TA}{id T:String}{r:List V->Hp->VK->Prop}
def SO(r:List V->Hp->VK->Prop)(t:TA):TE:=λa H Q=>t a H λb c=>r b c Q
theorem Cf(f:EC X (.builtin id) r)(i:Gl X x)(n:X.mg x=none)(o:bootBuiltins x=some (.builtin id))(g:PA X (e::es) t)(q:x ≠ "__name__" := by decide) (b:(x==("__debug__" : Str))=false:=by decide)
 (l:starEach (e::es) X.env=(false,eval e X.env)::starEach es X.env:=by rfl) (c:(backTo pos<|starEach es X.env).any (·.1)=false:=by rfl):PE X (.Call (.Name x p) (e::es) [] pos) (SO r t):=by
 intro a s d H Q I h;refine q8<|EH I i n o ?_ q b;exact PyProof.Rows.callWith_builtin1 (Ax (g pos a s d H _ I h) λk u ⟨v,w,y,j,m⟩=>f a u d w v k Q y j m) l c
theorem Px(f:EC X (.type T) r)(i:Gl X x)(n:X.mg x=none)(o:bootBuiltins x=some (.type T))(g:PA X (e::es) t)(q:x ≠ "__name__" := by decide) (b:(x==("__debug__" : Str))=false:=by decide)
 (l:starEach (e::es) X.env=(false,eval e X.env)::starEach es X.env:=by rfl) (c:(backTo pos<|starEach es X.env).any (·.1)=false:=by rfl):PE X (.Call (.Name x p) (e::es) [] pos) (SO r t):=by
 intro a s d H Q I h;refine q8<|EH I i n o ?_ q b;exact qV (Ax (g pos a s d H _ I h) λk u ⟨v,w,y,j,m⟩=>f a u d w v k Q y j m) l c
end
end Lake.L2
namespace Lake.HT
open PySem PyProof.Rows
section
variable{prog:Program}{w:World}{A:Around}{E:Value->Shared->Prop}{s:Shared}
def sIx(n d:Nat):Option Int->Nat
 |none=>d
 |some v=>if v<0 then (v+(n:Int)).toNat else min v.toNat n
theorem sIx_none(n d:Nat):sIx n d none=d:=rfl
end
end Lake.HT
namespace Lake.L2
open PySem PySem.Spec PyProof.Rows
abbrev TO:=St->Hp->(Option Int->Hp->Prop)->Prop
def PO(X:Cx)(e:Option Expr)(t:TO):Prop :=
 ∀(a:List (Addr×Obj)) (s:Shared) (b:St) (H:Hp) (Q:Option Int->Hp->Prop),Inv X a b H s->t b H Q →
  wpAny (model X.prog X.w) X.A (evalPart e X.env) (λu d=>∃o c,Inv X a b c d/\IsPart u o/\Q o c) X.xe s
def bK:TO:=λ_ H Q=>Q none H
def nI(t:TE):TO:=λa H Q=>t a H λx b=>∃i,x = .int i/\Q (some i) b
section
variable{X:Cx}{e:Expr}{te:TE}{lo hi:Option Expr}{tl th:TO}{pos p2:Pos}
theorem O2:PO X none bK:=by
 intro a s b H Q I h;rw[evalPart_none];exact qS (none,H,I,.none,h)
theorem Oo(h:PE X e te):PO X (some e) (nI te):=by
 intro a s d H Q I f;rw[evalPart_some];refine Ax (h a s d H _ I f) λu k ⟨x,g,j,b,c⟩=>?_;obtain ⟨i,rfl,q⟩:=c;obtain ⟨t,rfl⟩:=b;exact (some i,g,j,.int i t,q)
def SU(X:Cx)(r:V->Option Int->Option Int->Hp->VK->Prop):Prop :=
 ∀(a:List (Addr×Obj)) (s:Shared) (c:St) (H:Hp) (x:V) (v d b:Value) (lo hi:Option Int) (f:Addr) (Q:VK),Inv X a c H s->RelV x v->s.heap.IsSliceOf f d b .none->IsPart d lo->IsPart b hi->r x lo hi H Q →
  ∃T g,typeLookup (.type T) "__getitem__"=pure (some<|.builtin g)/\s.TypeIs v T/\wpAny (model X.prog X.w) X.A (getItem v<|.ref f) (EP X a c Q) X.xe s
def nL(r:V->Option Int->Option Int->Hp->VK->Prop)(te:TE)(tl th:TO):TE:=λa H Q=>te a H λx d=>tl a d λl c=>th a c λu b=>r x l u b Q
theorem JV(w:SU X r)(m:PE X e te)(A:PO X lo tl)(J:PO X hi th):PE X (.Subscript e (.Slice lo hi none p2) pos) (nL r te tl th):=by
 intro a s d H Q I h;refine Subscript_<|Ax (m a s d H _ I h) λv G ⟨x,K,L,B,D⟩=>?_;refine wpAny_Slice<|Ax (A a G d K _ L D) λf z ⟨l,j,y,t,n⟩=>Ax (J a z d j _ y n) λvu c ⟨u,g,k,F,E⟩=>?_;rw[evalPart_none];refine qS ?_;have o:Inv X a d g { c with heap:=c.heap.push { cls:=.type "slice", data:=.fields #[f,vu,.none] } }:=k.kept (t':=c.toks) λb M q=>qJ _ q;obtain ⟨T,N,C,p,i⟩:=w a { c with heap:=c.heap.push { cls:=.type "slice", data:=.fields #[f,vu,.none] } } d g x v f vu l u c.heap.objs.size Q o B (Heap.IsSliceOf.new ..) t F E;exact tail_any (ops:=[.ref c.heap.objs.size,v]) p C i (by with_unfolding_all rfl)
def FB(xs:List V)(lo hi:Option Int):List V:=(xs.drop<|HT.sIx xs.length 0 lo).take<|HT.sIx xs.length xs.length hi-HT.sIx xs.length 0 lo
theorem YC(xs:List V)(lo hi:Option Int):(FB xs lo hi).length<=xs.length:=by
 unfold FB;rw[Qn,W6];omega
end
def DE(n:Nat)(i:Int):Option Nat:=if 0<=i then (if i<n then some i.toNat else none) else if -(n:Int)<=i then some (i+n).toNat else none
def CC{α:Type}(xs:List α)(i:Int):Option α:=(DE xs.length i).bind λj=>xs[j]?
theorem V2{j:Nat}(h:DE n i=some j):seqIndex? i n=some j/\j<n /\ -(n:Int)<=i/\i<n:=by
 unfold DE at h
 by_cases h0:0<=i
 ·rw[qK h0] at h
  by_cases h1:i<n
  ·rw[qK h1] at h;have e:=rA h;exact (by rw[seqIndex_of h0 h1,e],⋯,⋯,h1)
  ·rw[qI h1] at h;cases h
 ·rw[qI h0] at h
  by_cases h1:-(n:Int)<=i
  ·rw[qK h1] at h;have e:=rA h;exact (by rw[seqIndex_neg ⋯ h1,e],⋯,h1,⋯)
  ·rw[qI h1] at h;cases h
theorem UN{α:Type}{xs:List α}{v:α}(h:CC xs i=some v):∃j,seqIndex? i xs.length=some j/\xs[j]?=some v/\j<xs.length /\ -(xs.length:Int)<=i/\i<xs.length:=by
 unfold CC at h
 cases e:DE xs.length i with
 |none=>rw[e] at h;cases h
 |some j =>
  rw[e] at h;obtain ⟨b,c,a,d⟩:=V2 e;exact (j,b,h,c,a,d)
theorem FO{α:Type}{xs:List α}{j:Nat}{v:α}(h:xs[j]?=some v):CC xs (j:Int)=some v:=by
 have a:=(Qr.mp h).1;have e:DE xs.length (j:Int)=some j:=by
  unfold DE;rw[qK ⋯,qK ⋯];simp
 unfold CC;rw[e];exact h
def Oh(b:Expr):Prop:=∀o i,subscripted b false o i=operate [o,i] (getItem o i)
def Kb(X:Cx)(r:R2):Prop :=
 ∀(c a:Expr) (b:List (Addr×Obj)) (s:Shared) (d:St) (H:Hp) (x y:V) (v u:Value) (Q:VK),Inv X b d H s->RelV x v->RelV y u->r x y H Q →
  subscripted a false v u=operate [v,u] (getItem v u)->wpAny (model X.prog X.w) X.A (subscriptTail c a v u) (EP X b d Q) X.xe s
def WZ(X:Cx)(e:String)(r:V->List V->Hp->VK->Prop):Prop :=
 ∀(a:List (Addr×Obj)) (s:Shared) (d:St) (H:Hp) (x:V) (c:List V) (v:Value) (b:List Value) (Q:VK),Inv X a d H s->RelV x v->Al c b->r x c H Q →
  wpAny (model X.prog X.w) X.A (call (.builtin e) (v::b)) (EP X a d Q) X.xe s
section
variable{X:Cx}{a b:Expr}{ta tb:TE}{pos:Pos}
theorem AY(j:Kb X r)(d:PE X a ta)(l:PE X b tb)(e:Oh b):PE X (.Subscript a b pos) (IW r ta tb):=by
 intro c s i H Q I h;exact Subscript_<|Op d l I h λv u n x y f m g k q=>j a b c n i f x y v u Q m g k q<|e _ _
inductive Lh (K:Ac) (x y:V) (H:Hp) (Q:VK):Prop
 |mk (p:Addr) (xs:List V) (i:Int) (v:V) (_:x = .ref p) (_:y = .int i) (_:AR K H p xs) (_:CC xs i=some v) (_:Q v H):Lh K x y H Q
inductive Li (K:Ac) (x y:V) (H:Hp) (Q:VK):Prop
 |mk (p:Addr) (xs:List V) (i:Int) (v:V) (_:x = .ref p) (_:y = .int i) (_:AI K H p xs) (_:CC xs i=some v) (_:Q v H):Li K x y H Q
theorem FN:Kb X (Lh X.K):=by
 intro f k c s A H x y v u Q I K L h o;obtain ⟨p,P,i,z,rfl,rfl,D,C,q⟩:=h
 cases K
 obtain ⟨t,rfl⟩:=L;obtain ⟨l,r,g,R⟩:=I.list D;obtain ⟨j,e,F,O,E,G⟩:=UN C;obtain ⟨w,B,n⟩:=r.get F;have J:=r.length;have N:=LF;have d:EP X c A Q w s:=(z,H,I,n,q)
 by_cases h0:0<=i
 ·have m:i.toNat=j:=by
   rw[seqIndex_of h0 G] at e;exact rA e
  exact item_listR g.isList h0 ⋯ (by rw[m]; simpa using B) d o
 ·have m:(i+(l.toArray.size:Int)).toNat=j:=by
   rw[seqIndex_neg ⋯ E] at e;rw[Qh,<-J];exact rA e
  exact subscriptTail_builtinR (x:=w) g.isList.typeIs slot_list_getitem.lookup
   (wpAny_getItem_list_neg (Q:=λr M=>r=w/\EP X c A Q r M) g.isList ⋯ (by rw[Qh] <;> omega) ⋯ (by rw[m]; simpa using B) (rfl,d)) o
theorem A6:Kb X (Li X.K):=by
 intro d e c s l H x y v u Q I C G h m;obtain ⟨p,N,i,z,rfl,rfl,o,n,q⟩:=h
 cases C
 obtain ⟨t,rfl⟩:=G;obtain ⟨E,r,k,O⟩:=I.tuple o;obtain ⟨j,F,A,M,K,P⟩:=UN n;obtain ⟨w,D,g⟩:=r.get A;have B:=r.length;have L:=LF;have f:EP X c l Q w s:=(z,H,I,g,q);exact subscriptTail_builtinR (x:=w) k.typeIs slot_tuple_getitem.lookup
  (getItem_tuple (j:=j) (Q:=λr J=>r=w/\EP X c l Q r J) k ⋯ ⋯ (by rw[Qh,<-B];exact F) (by simpa using D) (rfl,f)) m
theorem gE(its:List Value)(n j:Nat)(u:Value):Obj.mapSeq (·.setIfInBounds j u) { cls:=.type "list", data:=.seq its.toArray n }={ cls:=.type "list", data:=.seq (its.set j u).toArray n }:=by
 simp[Obj.mapSeq]
theorem Inv.lst{s:Shared}{xs:List V}(I:Inv X c σ H s)(h:H p=some (.lst xs)) :
 ∃(its:List Value) (n:Nat),Al xs its/\s.heap.get? p=some { cls:=.type "list", data:=.seq its.toArray n }/\xs.length<=sizeLine:=by
 obtain ⟨z,its,n,r,e⟩:=I.hok p _ h;exact (its,n,r,e,z)
theorem Inv.lstUpd{s:Shared}{xs ys:List V}{its its':List Value}{n d:Nat}{f:Obj->Obj}(I:Inv X c σ H s)(h:H p=some (.lst xs))
 (i:s.heap.get? p=some { cls:=.type "list", data:=.seq its.toArray n }) (g:f { cls:=.type "list", data:=.seq its.toArray n }={ cls:=.type "list", data:=.seq its'.toArray d }) (r:Al ys its') (k:ys.length<=sizeLine) (t:Nat) :
 Inv X c σ (As H p<|.lst ys) { s with heap:=s.heap.update p f,toks:=t }:=by
 have e:(s.heap.update p f).get? p=some { cls:=.type "list", data:=.seq its'.toArray d }:=by
  rw[Heap.get?_update_self f i (by rw[g] <;> rfl),g]
 refine I.write (x:=p) (e:=p) (by rw[h]; trivial) (.inl rfl) (λb u j q=>(q9 _ _<|rC j).trans q) (_,e) ?_;exact (k,its',d,r,e)
inductive TD (o i v:V) (H:Hp) (Q:Hp->Prop):Prop
 |mk (p:Addr) (xs:List V) (k:Int) (j:Nat) (_:o = .ref p) (_:i = .int k) (_:H p=some (.lst xs)) (_:DE xs.length k=some j) (_:Q (As H p (.lst (xs.set j v)))):TD o i v H Q
theorem V6:Ve X TD:=by
 intro c s D H o i v J G u Q I z E A h;obtain ⟨p,B,k,j,rfl,rfl,x,F,q⟩:=h
 cases z
 obtain ⟨t,rfl⟩:=E;obtain ⟨d,n,r,g,C⟩:=I.lst x;obtain ⟨e,L,w,m⟩:=V2 F;have f:=r.length;have K:=LF;have y:Inv X c D (As H p<|.lst<|B.set j v) { s with heap:=s.heap.update p (Obj.mapSeq (·.setIfInBounds j u)) } :=
  I.lstUpd x g (gE d n j u) (r.set A j) (by rw[U7]; exact C) s.toks
 by_cases h0:0<=k
 ·have l:k.toNat=j:=by
   rw[seqIndex_of h0 m] at e;exact rA e
  exact PySem.W.ki_setAt g h0 ⋯ (by rw[Qh,<-f]; exact m) (by rw[l]; exact (_,y,q))
 ·have l:(k+(d.toArray.size:Int)).toNat=j:=by
   rw[seqIndex_neg ⋯ w] at e;rw[Qh,<-f];exact rA e
  exact PySem.W.ki_setBack g ⋯ (by rw[Qh,<-f]; exact w) ⋯ (by rw[l]; exact (_,y,q))
theorem cV(lo c:Option Int)(n:Nat):(sliceBounds lo c none n).1=((HT.sIx n 0 lo:Nat):Int)/\(sliceBounds lo c none n).2.1=((HT.sIx n n c:Nat):Int)/\(sliceBounds lo c none n).2.2=1:=by
 refine (?_,?_,rfl)
 ·cases lo with
  |none=>simp[sliceBounds,HT.sIx]
  |some i =>
   simp only[sliceBounds,HT.sIx,Option.getD_none,show (1:Int)>0 by decide,if_true]
   by_cases h:i<0
   ·simp only[h,if_true] <;> omega
   ·simp only[h,s9] <;> omega
 ·cases c with
  |none=>simp[sliceBounds,HT.sIx]
  |some i =>
   simp only[sliceBounds,HT.sIx,Option.getD_none,show (1:Int)>0 by decide,if_true]
   by_cases h:i<0
   ·simp only[h,if_true] <;> omega
   ·simp only[h,s9] <;> omega
theorem Ya(its:List Value)(lo c:Option Int):slicePick its.toArray lo c none=((its.drop<|HT.sIx its.length 0 lo).take<|HT.sIx its.length its.length c-HT.sIx its.length 0 lo).toArray:=by
 obtain ⟨f,d,e⟩:=cV lo c its.toArray.size;unfold slicePick;rw[f,d,e]
 simp only[sliceRange_one,pick_run,Qh] <;> rfl
inductive Vi (K:Ac) (x:V) (lo hi:Option Int) (H:Hp) (Q:VK):Prop
 |mk (a:Addr) (xs:List V) (_:x = .ref a) (_:AR K H a xs) (_:∀p,H p=none->Q (.ref p) (As H p (.lst (FB xs lo hi)))):Vi K x lo hi H Q
theorem JR:SU X (Vi X.K):=by
 intro g s y H x v A w e f z Q I k j m n h;obtain ⟨a,c,rfl,p,q⟩:=h
 cases k
 obtain ⟨l,r,i,t⟩:=I.list p;have d:=r.length;refine ("list", _,slot_list_getitem.lookup,i.isList.typeIs,?_);refine wpAny_getItem_list_slice i.isList j m n .none (by simp) ?_ (by rw[Qh] <;> omega);rw[Ya,<-d];refine (.ref s.heap.objs.size,_,I.laid (t':=s.toks) (o:=.lst<|FB c e f) (λb u q=>qJ _ q) (Q4 _) ?_,rfl,q _<|I.hok.fresh<|Q4 _);exact (Q0 (YC c e f) t,_,0,(r.drop<|HT.sIx c.length 0 e).take<|HT.sIx c.length c.length f-HT.sIx c.length 0 e,qO _ rfl)
theorem E7:EC X (.builtin "len") (λxs H Q=>∃p ys,xs=[.ref p]/\(AR X.K H p ys\/AI X.K H p ys)/\Q (.int ys.length) H):=by
 intro g s l H xs k Q I r h;obtain ⟨p,ys,rfl,hq,q⟩:=h;obtain ⟨u,rfl,i⟩:=Fw r
 cases i
 have m:=LF;rcases hq with hq|hq
 ·obtain ⟨e,d,f,j⟩:=I.list hq;have c:=d.length;exact Calls.call_len_list f.isList (by simp only[Qh] <;> omega) (.int ys.length,H,I.tok _,(s.toks+1,by rw[Qh,c]),q)
 ·obtain ⟨e,d,f,j⟩:=I.tuple hq;have c:=d.length;exact len_tuple f (by simp only[Qh] <;> omega) (.int ys.length,H,I.tok _,(s.toks+1,by rw[Qh,c]),q)
theorem Yl:EC X (.type "list") (λxs H Q=>∃p ys,xs=[.ref p]/\(AR X.K H p ys\/AI X.K H p ys)/\∀l,H l=none->Q (.ref l) (As H l<|.lst ys)):=by
 intro k s B H xs C Q I r h;obtain ⟨p,ys,rfl,hq,q⟩:=h;obtain ⟨u,rfl,A⟩:=Fw r
 cases A
 have t:∀(c:List Value),Al ys c->ys.length<=sizeLine->∀(d:Heap) (g:Nat),(∀b z,s.heap.get? b=some z->d.get? b=some z) →
  d.get? s.heap.objs.size=some { cls:=.type "list", dict:=none,data:=.seq c.toArray g,slots:=#[] }->EP X k B Q (.ref s.heap.objs.size) { s with heap:=d }:=λc f i d g j e =>
  (.ref s.heap.objs.size,_,I.laid (t':=s.toks) j (Q4 _) (show AG X.prog X.w _ d _ (.lst ys) from (i,c,g,f,e)),rfl,q _<|I.hok.fresh<|Q4 _)
 rcases hq with hq | hq
 ·obtain ⟨c,f,v,i⟩:=I.list hq
  have m:=f.length;obtain ⟨o,y,x,n,w⟩:=v.isList;exact call_list_seq p (.inl rfl) y x w (λd g j e=>t c f i d g j e) (by simp only[Qh] <;> omega)
 ·obtain ⟨c,f,v,i⟩:=I.tuple hq
  have m:=f.length;obtain ⟨o,y,x,n,w⟩:=v;exact call_list_seq p (.inr rfl) y x w (λd g j e=>t c f i d g j e) (by simp only[Qh] <;> omega)
def SY(K:Ac)(T:String)(x:V)(H:Hp):Prop:=match x with
 | .str _=>T = "str"
 | .int _=>T = "int"
 | .ref p=>(T = "list" /\ ∃d,AR K H p d)\/(T = "tuple" /\ ∃o,K.lookup p=some o/\o.cls = .type "tuple" /\ o.dict=none) ∨
  (T = "dict" /\ ((∃c,H p=some (.dK c))\/∃c,H p=some (.dT c)))\/(T = "set" /\ ∃S n,H p=some (.set S n))
 | _=>False
theorem pS{s:Shared}(I:Inv X f σ H s)(r:RelV x v)(g:SY X.K T x H) :
 s.TypeIs v T/\∀a,v = .ref a->∃k,s.heap.get? a=some k/\k.dict=none:=by
 cases x with
 | str z =>
  obtain ⟨t,rfl⟩:=r
  cases (show T = "str" from g)
  exact (typeIs_str s z t,λ_ e=>nomatch e)
 | int i =>
  obtain ⟨t,rfl⟩:=r
  cases (show T = "int" from g)
  exact (typeIs_int s i t,λ_ e=>nomatch e)
 | ref p =>
  cases r
  rcases g with ⟨rfl,xs,hq⟩ | ⟨rfl,o,hk,hc,j⟩ | ⟨rfl,hk⟩ | ⟨rfl,S,n,hk⟩
  ·obtain ⟨m,_,l,_⟩:=I.list hq
   refine (l.isList.typeIs,λa e=>?_)
   cases e
   obtain ⟨o,n,e,c,j,_⟩:=l;exact (o,e,j)
  ·refine ((o,I.kIn p o hk,hc),λa e=>?_)
   cases e
   exact (o,I.kIn _ o hk,j)
  ·have z:∃o,s.heap.get? p=some o/\o.ExactDict:=by
    rcases hk with ⟨kvs,hk⟩ | ⟨kvs,hk⟩
    ·obtain ⟨_,_,_,_,o,_,_,e,d,_⟩:=I.hok p _ hk
     exact (o,e,d)
    ·obtain ⟨_,_,_,_,o,_,_,e,d,_⟩:=I.hok p _ hk
     exact (o,e,d)
   obtain ⟨o,e,d⟩:=z;refine ((o,e,d.1),λa h=>?_)
   cases h
   exact (o,e,d.2.1)
  ·obtain ⟨o,_,_,_,e,d,_⟩:=I.hok p _ hk
   refine ((o,e,d.1),λa h=>?_)
   cases h
   exact (o,e,d.2.1)
 | _=>exact False.elim g
def kX(K:Ac)(T:String)(r:V->List V->Hp->VK->Prop)(f:TE)(t:TA):TE:=λc H Q=>f c H λx d=>SY K T x d/\t c d λg e=>r x g e Q
variable{o e:Expr}{es:List Expr}{to:TE}{t:TA}{name:Str}{apos cpos:Pos}{T id:String}{r:V->List V->Hp->VK->Prop}
theorem Lr(E:PlainAttrs T)(i:Slot T name id)(k:typeOf (.builtin id)=pure (.type "method_descriptor")) (D:WZ X id r) (w:PE X o to) (q:PA X (e::es) t)
 (g:attributeBase o name X.env (eval o X.env)=eval o X.env:=by rfl)
 (j:((backTo cpos<|starEach (e::es) X.env).all (λx=>!x.1)&&(backToKw cpos<|keywordEach [] X.env).all (λx=>x.1.isSome)
  && decide ((e::es).length+([]:List Keyword).length+(if ([]:List Keyword).isEmpty then 0 else 1)<30))=true:=by rfl)
 (f:(apos.endLine==cpos.line)=true:=by rfl) (u:starEach (e::es) X.env=(false,eval e X.env)::starEach es X.env:=by rfl) (d:(backTo cpos<|starEach es X.env).any (·.1)=false:=by rfl) :
 PE X (.Call (.Attribute o name apos) (e::es) [] cpos) (kX X.K T r to t):=by
 intro c s l H Q I h;refine wpAny_Call_method_late g j f rfl<|Ax (w c s l H _ I h) λv K ⟨x,O,p,m,y,C⟩=>?_;obtain ⟨F,M⟩:=pS p m y;refine (T,id,E,i,k,F,M,?_);have n:=q cpos c K l O _ p C;rw[u] at n ⊢;refine Calls.callWith_builtin (by show (false||(backTo cpos<|starEach es X.env).any (·.1))=false; rw[d] <;> rfl)<|Calls.evalArgs_plain ?_;exact Ax n λz L ⟨N,A,J,G,B⟩=>D c L l A x N v z Q J m G B
/- xs.append(e),list.index on a module's tuple .. are WZ facts of 06m -/
end
def RC(X:Cx)(e:String)(r:V->List V->Hp->VK->Prop):Prop :=
 ∀(a:List (Addr×Obj)) (s:Shared) (d:St) (H:Hp) (x:V) (c:List V) (v:Value) (b:List Value) (Q:VK),Inv X a d H s->RelV x v->Al c b->r x c H Q →
  wpAny (model X.prog X.w) X.A (call (.builtin e) (v::b)) (EP X a d Q) X.xe s
theorem Al.one:∀ {x:V} {us:List Value},Al [x] us->∃u,us=[u]/\RelV x u
 |_,_,.cons r .nil=>(_,rfl,r)
section
variable{X:Cx}{pins:List (Addr×Obj)}{σ:St}{H:Hp}{s:Shared}{l b:Addr}{xs ys zs:List V}
theorem Inv.lset{its its':List Value}{n:Nat}{f:Array Value->Array Value}{t':Nat}(I:Inv X pins σ H s)(d:H l=some (.lst xs))
 (e:s.heap.get? l=some { cls:=.type "list", data:=.seq its.toArray n }) (i:f its.toArray=its'.toArray) (g:Al ys its') (c:ys.length<=sizeLine) :
 Inv X pins σ (As H l<|.lst ys) { s with heap:=s.heap.update l<|Obj.mapSeq f,toks:=t' }:=by
 have q:=PySem.IsL.update e f;rw[i] at q;refine I.write (x:=l) (e:=l) (by rw[d]; exact trivial) (.inl rfl) (λj u a h=>(q9 s.heap (Obj.mapSeq f)<|rC a).trans h) (_,q) ?_;exact (c,its',_,g,q)
theorem Inv.lnew{its:List Value}{t':Nat}(I:Inv X pins σ H s)(c:Al ys its)(a:ys.length<=sizeLine) :
 Inv X pins σ (As H s.heap.objs.size<|.lst ys) { s with heap:=s.heap.push { cls:=.type "list", data:=.seq its.toArray },toks:=t' } :=
 I.laid (λ_ _ q=>qJ _ q) (Q4 _) (a,its,0,c,qO _ rfl)
theorem Inv.fresh(I:Inv X pins σ H s):H s.heap.objs.size=none:=I.hok.fresh<|Q4 _
theorem Inv.lstM(I:Inv X pins σ H s)(a:H l=some (.lst xs)):xs.length<=sizeLine/\∃(its:List Value) (n:Nat),Al xs its/\xs.length=its.length/\s.heap.get? l=some { cls:=.type "list", data:=.seq its.toArray n }:=by
 obtain ⟨z,its,n,r,e⟩:=I.hok l _ a;exact (z,its,n,r,r.length,e)
theorem Ye{n:Nat}(h:n<=sizeLine):Builtin.List.listTooLong n=false:=by
 unfold Builtin.List.listTooLong;exact q7 ⋯
end
section
variable{X:Cx}
inductive VW (x:V) (vs:List V) (H:Hp) (Q:VK):Prop
 |mk (l:Addr) (xs:List V) (y:V) (_:x = .ref l) (_:vs=[y]) (_:H l=some (.lst xs)) (_:xs.length<sizeLine) (_:Q .non (As H l (.lst (xs++[y])))):VW x vs H Q
theorem JT:RC X "list.append" VW:=by
 intro b s j H x o v i Q I g f h;obtain ⟨l,k,y,rfl,rfl,c,m,q⟩:=h
 cases g
 obtain ⟨u,rfl,d⟩:=f.one;obtain ⟨z,a,n,r,p,e⟩:=I.lstM c;refine call_meets F.slot_list_append (_,e,rfl) F.entry_list_append (F.args_list_append_2 _ _) (PySem.list_append l a.toArray n u (by rw[Qh];omega)) (e,?_);refine (.non,_,I.lset (its':=a++[u]) c e (by simp) (r.append<|.cons d .nil) ?_,rfl,q);rw[Qi,List.length_singleton];omega
inductive Rk (x:V) (vs:List V) (H:Hp) (Q:VK):Prop
 |mk (l b:Addr) (xs zs:List V) (_:x = .ref l) (_:vs=[.ref b]) (_:H l=some (.lst xs)) (_:H b=some (.lst zs)) (_:xs.length+zs.length<=sizeLine) (_:Q .non (As H l (.lst (xs++zs)))):Rk x vs H Q
theorem qH:RC X "list.extend" Rk:=by
 intro i s J H x E v A Q I w k h;obtain ⟨l,b,C,B,rfl,rfl,g,o,D,q⟩:=h
 cases w
 obtain ⟨u,rfl,t⟩:=k.one
 cases t
 obtain ⟨z,c,n,r,G,e⟩:=I.lstM g;obtain ⟨K,a,j,p,y,m⟩:=I.lstM o;have f:c.toArray.size+a.toArray.size<=sizeLine:=by rw[Qh,Qh];omega
 have d:¬(!c.toArray.isEmpty&&Builtin.List.listTooLong (c.toArray.size+a.toArray.size))=true:=by
  rw[Ye f,Bool.and_false];exact W1
 refine call_meets F.slot_list_extend (_,e,rfl) F.entry_list_extend (F.args_list_extend_2 _ _)
  (AutoSeq1.list_extend_list_list_0 l c.toArray n b a.toArray j d (by rw[Qh];omega) ⋯) (e,m,?_)
 refine (.non,_,I.lset (its':=c++a) g e (by simp) (r.append p) ?_,rfl,q);rw[Qi];omega
inductive RG (x y:V) (H:Hp) (Q:VK):Prop
 |mk (l b:Addr) (xs zs:List V) (_:x = .ref l) (_:y = .ref b) (_:H l=some (.lst xs)) (_:H b=some (.lst zs)) (_:xs.length+zs.length<=sizeLine) (_:∀p,H p=none->Q (.ref p) (As H p (.lst (xs++zs)))):RG x y H Q
theorem RO:B3 X (binaryOp .Add) RG:=by
 intro d s A H x y v u Q I g m h;obtain ⟨l,b,C,w,rfl,rfl,i,o,D,q⟩:=h
 cases g
 cases m
 obtain ⟨z,c,n,r,E,e⟩:=I.lstM i;obtain ⟨B,a,t,p,k,j⟩:=I.lstM o;refine PySem.P.add_list e j ?_ (by rw[Qh,Qh];omega);have f:c.toArray++a.toArray=(c++a).toArray:=by simp
 rw[f];exact (.ref _,_,I.lnew (t':=s.toks) (r.append p) (by rw[Qi];omega),rfl,q _ I.fresh)
end
end Lake.L2
namespace Lake.Att
open PySem PySem.W PySem.Calls PyProof.Rows
theorem Xi:∀(c:List Int) (vs:List Value),WellAll P h vs (c.map WData.int)->IntsAre vs c:=by
 intro c
 induction c with
 |nil =>
  intro vs w;rw[List.map_nil] at w
  cases w
  exact .nil
 |cons n c d =>
  intro vs w;rw[Us] at w
  cases w with
  |cons a b =>
   cases a
   exact .cons _ _<|d _ b
theorem script_of{l:OpenLaw}{n:Nat}(p:l.most=some n){P:Params}{h:Heap}{args:List WData}{e:List Value}
 (c:l.row.toRowW.claim.pre args=true) (k:WellAll P h e args) :
 ∃a vs b,e=[Value.ref a]/\args=[WData.list<|b.map WData.int]/\h.get? a=some { cls:=.type "list", data:=.seq vs.toArray }/\IntsAre vs b/\b.length<=n:=by
 have m:=(pre_splitW c).1;have o:l.pre.holds [] { args:=args }=true:=(pre_splitW c).2;obtain ⟨d,r,rfl,y,u⟩:=hasAllW_cons m;obtain rfl:=hasAllW_nil u;obtain ⟨z,rfl,s⟩:=hasW_list y;obtain ⟨b,rfl⟩:=items_int s;have f:b.length<=n:=by
  unfold OpenLaw.pre at o;have i:(WTm.not<|.lt (.lit<|.int (n:Int))<|.len<|.arg 0).holds [] { args:=[.list<|b.map .int] }=true:=by
   have i:=(holds_andW o).1;rw[p] at i;exact i
  have j:=condW_of i<|w_not<|w_lt w_lit<|w_len_list<|w_arg rfl;rw[Q1] at j;refine Uf λq=>?_;have t:(n:Int)<((b.length:Nat):Int):=⋯
  first
   | (rw[rG t] at j; exact absurd j ∅)
   | (simp at j; omega)
 cases k with
 | cons x v =>
  cases v
  cases x with
  | list w g=>exact (_,_,b,rfl,rfl,w,Xi b _ g,f)
theorem post_true(l:OpenLaw)(args:List WData):l.row.toRowW.claim.post args (.bool true) args=true :=
 postW_of (r:=l.row.toRowW) (X:=(true==true))
  (show WShape.has [] (.bool true) .bool=true by first|rfl|decide|simp[WShape.has,WShape.arms,WShape.armsAll])
  (show (WTm.eq .res<|.lit<|.bool true).value [] { args:=args,res:=some<|.bool true,after:=args }=some (.bool<|true==true) from w_eq_bool (w_res rfl) w_lit) rfl
end Lake.Att
namespace Lake.L2
open PySem PySem.Spec PyProof.Rows
theorem S4:∀ {vs:List Value} {a:List Int},IntsAre vs a->Al (a.map V.int) vs
 |_,_,.nil => .nil
 |_,_,.cons n t h => .cons (t,rfl)<|S4 h
end Lake.L2
/- THE LAST THEOREM (shape; LID,My.* are yours):
   My.Adr: a structure of the addresses that your layer names (classes,functions); My.Txt K t: a structure (Prop) of the equations over K;
   My.txt_mk:{K} {implicit addresses ..} (e1:nsIn K mainGlobals "law" = some (some (.ref f))) (e2:K.lookup f=some ⟨oc,od,.func (fnOf "law" "law" params body scope dV kV doc pm an cdv ct),sl⟩) (e3:codeIn K cdv "law" = true) ..:∃t,My.Txt K t
set_option maxRecDepth 100000 in
set_option maxHeartbeats 0 in
theorem PySem.Challenge.cw_LID_holds : PySem.Challenge.rw_LID.Holds := by
 w_on;o_law;k_head;(case hw=>w_witness2)
 k_fill
 refine L2.walk_of (l:=PySem.Challenge.rw_LID) (n:=63) (k:=40) (x :="script") (CX:=λw => ..) (sp:=λ_=>My.sp_law) rfl ∅ rfl ⟨rfl,∅,∅⟩ (λw h Y=>PySem.W.kIn_of Y) ?F ?S ?C
 case F =>
  intro w mg fa h KX G hmg;have T:∃t,My.Txt (L2.KOf KX) t:=by
   dsimp only[L2.KOf]                          -- K must stand as «<heap const> w.params» for k_is
   refine' My.txt_mk ?e1 ?e2 ?e3 ..
   (case e1=>PySem.W.k_is)                    -- in the order: a name -> its address -> its object -> its parts
   (case e2=>PySem.W.k_is)
   ..
  obtain ⟨t,T⟩:=T;have e0:=hmg.symm.trans (sK KX G T.law)
  cases e0                                       -- fa is the law's own address
  exact ⟨_,λs u => .of_eq rfl,λbase kb nb=>My.law_fn T kb nb⟩     -- if «.of_eq rfl» comes too early: refine' ⟨_,?b,λbase kb nb=>My.law_fn T kb nb⟩;exact λs u => .of_eq rfl
 case S=>exact λw H a ns hl hO hS => ..
 case C=>exact ..
(the tactic k_is has no namespace: write k_is) -/
namespace Lake.L2
open PySem PySem.Spec PyProof.Rows
def CW(s:Stmt)(j:Nat):Stmt:=match s with
 | .ClassDef _ _ _ body _ _ _ _ _ _ _=>body.getD j<|.Pass (0,0,0,0)
 |_ => .Pass (0,0,0,0)
def Ei(s:Stmt):Arguments:=match s with
 | .FunctionDef _ a _ _ _ _ _ _ _ _=>a
 |_=>{ posonlyargs:=[],args:=[],vararg:=none,kwonlyargs:=[],kw_defaults:=[],kwarg:=none,defaults:=[] }
def CL(s:Stmt):List Stmt:=match s with
 | .FunctionDef _ _ b _ _ _ _ _ _ _=>b
 |_=>[]
def Ao(s:Stmt):Scope:=match s with
 | .FunctionDef _ _ _ _ _ _ sc _ _ _=>sc
 |_=>{ kind:=.function,names:=[],isGenerator:=false,isCoroutine:=false }
abbrev DW:Gs:=λ_ _ _ _ _ _=>False
abbrev E0:XK:=λ_ _ _=>False
theorem N8:JK DW X E0:=λ_ _ _ _ _ _ _ h=>h.elim
structure BT (K:Ac) (x qual:Str) (st:Stmt) (f:Addr) (fd:FuncData):Prop where
 ex:∃(oc:Value) (od:Option Addr) (kV doc pm:Value) (an:Option Addr) (cdv ct:Value) (osl:Array (Option Value)),
  fd=PySem.W.fnOf x qual (Ei st) (CL st) (Ao st) .none kV doc pm an cdv ct/\K.lookup f=some ⟨oc,od,.func fd,osl⟩/\PySem.W.codeIn K cdv qual=true
 kp:PySem.W.keepIn K (.ref f)=true
section
variable{P:Program}{w:World}{K:Ac}{mg:Ai}{base:Heap}
theorem BT.ok{st:Stmt}{N ps:List Str}{sp:Sp}(F:BT K x b st f j)(S:Aa N ps (Ao st))(i:∀vs H Q E,sp vs H Q E->vs.length=ps.length)
 (d:∀(c:Value) (A:Around) (a:List Env) (s:Shared) (H:Hp) (vs:List V) (Q:VK) (E:XK),Av k (A.deeper<|envOfC b (Ao st) s.heap.objs.size f c)->sp vs H Q E →
  ∃t,CT (Gi DW P w K mg base N b (Ao st) f c A a s H E).nox (CL st) t/\t { nx:=λ_ m=>Q .non m,rt:=Q } (start N vs) H):AS P w K mg base DW (k+1) f j ps sp:=by
 obtain ⟨v,r,kV,n,pm,u,c,y,o,rfl,p,e⟩:=F.ex;refine fn_of p e S i λA a s H vs Q E l g=>?_;obtain ⟨t,h,q⟩:=d c A a s H vs Q E l g;exact (t,h.nox,q)
theorem BT.binds{st:Stmt}{ps:List Str}(F:BT K x a st f g)
 (h:∀(kV b pm:Value) (e:Option Addr) (c d:Value) (us:List Value),us.length=ps.length->bindArgs (PySem.W.fnOf x a (Ei st) (CL st) (Ao st) .none kV b pm e c d) (us,[])=pure (ps.zip us)):AB K g ps []:=by
 obtain ⟨k,l,kV,b,pm,e,c,d,j,rfl,m,i⟩:=F.ex;exact .all<|h kV b pm e c d
theorem PH{st:Stmt}{i:Value}{j g:Option Addr}{e:Array (Option Value)}{kV d pm b h:Value}(l:K.lookup f=some (i,j,.func<|PySem.W.fnOf x a (Ei st) (CL st) (Ao st) .none kV d pm g b h,e))
 (c:PySem.W.codeIn K b a=true) (k:PySem.W.keepIn K (.ref f)=true):BT K x a st f (PySem.W.fnOf x a (Ei st) (CL st) (Ao st) .none kV d pm g b h):=((i,j,kV,d,pm,g,b,h,e,rfl,l,c),k)
end
theorem FX{n:Nat}(h:n<=1000):n<sizeLine:=Q5 h ∅
section
variable{X:Cx}
def NU:Option NameKind->Bool
 |some .local=>true
 |some .cell=>true
 |some .free=>true
 |_=>false
theorem Y8{a:Scope}(h:NU (a.names.lookup x)=true):ET a x:=by
 unfold NU at h
 split at h
 ·exact .inl (by assumption)
 ·exact .inr (.inl (by assumption))
 ·exact .inr (.inr (by assumption))
 ·cases h
theorem pv(i:Nat){x:Str}{pos:Pos}(b:X.N[i]?=some x:=by rfl)(c:NU (X.env.scope.names.lookup x)=true:=by rfl)(d:(x==("__debug__" : Str))=false:=by decide)
 (a:(x==("__classdict__" : Str))=false:=by decide):PE X (.Name x pos) (LK i):=FH b (Y8 c) d a
end
theorem Ek{A B:Prop}(h:B):if false=true then A else B:=by
 rw[qI W1];exact h
theorem FE{A B:Prop}(h:A):if true=true then A else B:=by
 rw[qK rfl];exact h
theorem fJ{c A B:Prop}[Decidable c](b:c->A)(a:¬c->B):if c then A else B:=by
 by_cases h:c
 ·rw[qK h];exact b h
 ·rw[qI h];exact a h
def Ad(H a:Hp):Prop:=∀b o,H b=some o->a b=some o
theorem Ad.refl(H:Hp):Ad H H:=λ_ _ h=>h
theorem Ad.trans(a:Ad H d)(b:Ad d e):Ad H e:=λc o h=>b c o<|a c o h
theorem Ad.free(e:Ad H a){l:Addr}(h:a l=Option.none):H l=Option.none:=by
 cases q:H l with
 |none=>rfl
 |some o =>
  rw[e l o q] at h
  cases h
end Lake.L2
set_option maxHeartbeats 4000000
namespace Lake.L2
open PySem PySem.Spec PyProof.Rows
theorem JB{k:Int}{n:Nat}(h:k.natAbs<2^n):Builtin.Int.intBits k<=n:=by
 unfold Builtin.Int.intBits
 split
 ·exact Qe _
 ·rename_i b
  have a:k.natAbs≠0:=by
   intro z
   apply b
   have:k=0:=⋯
   simp[this]
  have:k.natAbs.log2<n:=(Nat.log2_lt a).mpr h;omega
theorem N5:10^150<2^600:=by decide +kernel
theorem Di{i j:Int}(h:i.natAbs<=10^150)(h':j.natAbs<=10^150):IntMulOk i j :=
 .of_bits (Q0 (JB (n:=600)<|Q5 h N5) ∅) (Q0 (JB (n:=600)<|Q5 h' N5) ∅)
theorem hQ{j:Int}(h:j.natAbs<=10^150):j.natAbs.log2<9000:=by
 rcases Nat.eq_zero_or_pos j.natAbs with z|z
 ·rw[z];decide
 ·exact Wh ((Nat.log2_lt<|Nat.ne_of_gt z).mpr<|Q5 h N5) ∅
section
variable{X:Cx}
theorem BM:B3 X (binaryOp .Mult) (rI IntMulOk λi j => .int<|i*j):=FI λ_ _ _ _ _ _ _ a q=>mul_int q a
theorem Jn:B3 X (binaryOp .FloorDiv) (rI (λ_ j=>j≠0/\j.natAbs<=10^150) λi j => .int<|i.fdiv j):=FI λ_ _ _ _ _ _ _ a q=>floordiv_int a.1 q<|.inl<|rQ<|hQ a.2
theorem DU{T:String}{pos:Pos}(b:Gl X x)(d:X.mg x=none)(e:bootBuiltins x=some (.type T))(a:x ≠"__name__":= by decide) (c:(x==("__debug__":Str))=false:=by decide):PE X (.Name x pos) (tC<|.ty T):=g8 b d e rfl a c
theorem Hu:EC X (.builtin "isinstance") (λxs H Q=>∃x T t b,xs=[x,.ty T]/\Et X.K H x t/\PySem.W.kitOne X.K t (.type T)=some b/\Q (.bl b) H):=by
 intro a s i H xs g Q I r h;obtain ⟨x,T,t,b,rfl,c,e,q⟩:=h;obtain ⟨u,k,rfl,d,f⟩:=IU r
 cases f
 exact YS I d c e λj=>(.bl b,H,I.tok _,rfl,q)
end
theorem Gg(K:Ac)(t:Value)(h:(t==t)=true:=by rfl):PySem.W.kitOne K t t=some true:=by
 unfold PySem.W.kitOne;rw[qK h]
theorem JC(K:Ac){t T:String}{b:Bool}(c:((Value.type t)==(Value.type T))=false)(a:PySem.W.kitMeta T=true)(h:(PySem.fastBuiltinMro t).map (·.contains (Value.type T))=some b):PySem.W.kitOne K (.type t) (.type T)=some b:=by
 unfold PySem.W.kitOne PySem.W.kitCls;rw[qI (by rw[c];exact W1)];show (if PySem.W.kitMeta T=true then PySem.W.subIn K (Value.type t) (Value.type T) else none)=some b;rw[qK a];exact h
theorem Vd(K:Ac):PySem.W.kitOne K (.type "int") (.type "bool")=some false:=JC K ‹4› ‹4› ‹4›
section
variable{A B:Prop}
theorem Ex[Decidable p](b:p->A)(a:¬p->B):if decide p=true then A else B:=fJ (λc=>b<|of_decide_eq_true c) λc=>a<|of_decide_eq_false<|Bool.eq_false_iff.mpr c
theorem fC[Decidable p](b:¬p->A)(a:p->B):if (!decide p)=true then A else B:=by
 by_cases h:p
 ·rw[rG h];exact Ek<|a h
 ·rw[q7 h];exact FE<|b h
theorem EI{a b:Int}(d:a=b->A)(c:a≠b->B):if decide (V.int a=V.int b)=true then A else B:=Ex (λe=>d<|V.int.inj e) λe=>c λz=>e (by rw[z])
theorem Hz{a b:Int}(d:a≠b->A)(c:a=b->B):if (!decide (V.int a=V.int b))=true then A else B:=fC (λe=>d λz=>e (by rw[z])) λe=>c<|V.int.inj e
end
theorem XU{a b:Int}(h:a=b):decide (V.int a=V.int b)=true:=rG (by rw[h])
theorem ND(a b:Int):decide (V.int a=V.int b)=decide (a=b):=by
 by_cases h:a=b
 ·rw[rG h,XU h]
 ·rw[q7 h,q7 λz=>h<|V.int.inj z]
structure Ae (K:Ac) (mg:Ai) (x:Str) (st:Stmt):Prop where
 ex:∃(f:Addr) (fd:FuncData),BT K x x st f fd/\mg x=some (.ref f)
structure AF (P:Program) (w:World) (K:Ac) (mg:Ai) (base:Heap) (x:Str) (k:Nat) (ps:List Str) (sp:Sp):Prop where
 ex:∃(f:Addr) (fd:FuncData),AS P w K mg base DW k f fd ps sp/\mg x=some (.ref f)/\PySem.W.keepIn K (.ref f)=true/\AB K fd ps []
section
variable{P:Program}{w:World}{K:Ac}{mg:Ai}{base:Heap}{x:Str}{st:Stmt}{k j:Nat}{ps:List Str}{sp:Sp}
theorem AF.mono(h:AF P w K mg base x j ps sp)(e:j<=k):AF P w K mg base x k ps sp :=
 let ⟨f,fd,a,b,c,d⟩:=h.ex
 (f,fd,a.mono e,b,c,d)
theorem Ae.has(h:Ae K mg x st)(b:∀f a,BT K x x st f a->AB K a ps [])(c:∀f a,BT K x x st f a->AS P w K mg base DW k f a ps sp):AF P w K mg base x k ps sp :=
 let ⟨f,a,F,m⟩:=h.ex
 (f,a,c f a F,m,F.kp,b f a F)
theorem here_mk{h:Heap}{f:Addr}{i:Value}{n g:Option Addr}{e:Array (Option Value)}{kV d pm b m:Value}(X:K.In h)(G:h.Ns mainGlobals mg)(a:PySem.W.nsIn K mainGlobals x=some (some<|.ref f))
 (l:K.lookup f=some (i,n,.func<|PySem.W.fnOf x x (Ei st) (CL st) (Ao st) .none kV d pm g b m,e))
 (c:PySem.W.codeIn K b x=true) (k:PySem.W.keepIn K (.ref f)=true):Ae K mg x st:=(f,_,PH l c k,sK X G a)
end
theorem BJ{X:Cx}{e:Expr}{a:List Expr}{t:TA}{p pos:Pos}(h:AF X.prog X.w X.K X.mg X.base x k ps sp)(l:Av k X.A)(g:Gl X x)(d:PA X (e::a) t)(b:(x==("__debug__" : Str))=false:=by decide)
 (i:starEach (e::a) X.env=(false,eval e X.env)::starEach a X.env:=by rfl) (c:(backTo pos<|starEach a X.env).any (·.1)=false:=by rfl):PE X (.Call (.Name x p) (e::a) [] pos) (Sv sp [] E0 t):=by
 obtain ⟨f,o,F,j,n,m⟩:=h.ex;exact XS F l g j n m .nil N8 d b i c
theorem Bg{H:Hp}(h:H p=none)(o:HO):Ad H (As H p o):=λb u q=>by rw[AL<|Dj q h];exact q
theorem Ad.tup{K:Ac}(e:Ad H b)(h:AI K H a xs):AI K b a xs:=by
 rcases h with (h|⟨o,h⟩)|h
 ·exact .inl (.inl<|e _ _ h)
 ·exact .inl (.inr (o,e _ _ h))
 ·exact .inr h
def DY(b:List (Str×Addr)):List (Str×NameKind)->List (Str×Addr)->List (Str×Addr)
 | [],cs=>cs
 |(n,k)::r,cs=>DY b r (if k=NameKind.free then (match b.lookup n with|some a=>(n,a)::cs|none=>cs) else cs)
theorem KP{b:List (Str×Addr)}:∀(d:List (Str×NameKind)) (c:List (Str×Addr)),(∀p∈c,b.lookup p.1=some p.2)->∀p∈DY b d c,b.lookup p.1=some p.2
 | [],_,h=>h
 |(n,k)::r,c,h=>by
  refine KP r _ λp hp=>?_
  by_cases hk:k=NameKind.free
  ·rw[qK hk] at hp
   cases e:b.lookup n with
   |none=>rw[e] at hp;exact h p hp
   |some a =>
    rw[e] at hp;rcases Qd.mp hp with rfl|hp
    ·exact e
    ·exact h p hp
  ·rw[qI hk] at hp;exact h p hp
theorem WY:∀(d:List (Str×NameKind)) (c:List (Str×Addr)),∀p∈c,p∈DY b d c
 | [],_,_,h=>h
 |(n,k)::r,c,p,h=>by
  refine WY r _ p ?_
  by_cases hk:k=NameKind.free
  ·rw[qK hk]
   cases e:b.lookup n with
   |none=>exact h
   |some a=>exact Wg _ h
  ·rw[qI hk];exact h
theorem LI{a:List (Str×Addr)}{x:Str}:∀(d:List (Str×NameKind)) (f:List (Str×Addr)),(x,NameKind.free)∈d->(∃c,a.lookup x=some c)->∃c,(x,c)∈DY a d f
 |(n,k)::r,f,h,b=>by
  rcases Qd.mp h with e|h
  ·cases e
   obtain ⟨c,b⟩:=b;refine (c,WY r _ _ ?_);rw[qK rfl,b];exact Wc
  ·exact LI r _ h b
theorem K3{b:Type}{x:Str}{c:b}:∀ {l:List (Str×b)},(x,c)∈l->∃d,l.lookup x=some d
 |(n,a)::r,h=>by
  by_cases hx:x=n
  ·exact (a,by simp[U4,hx])
  ·rcases Qd.mp h with e|h
   ·cases e;exact absurd rfl hx
   ·obtain ⟨d,g⟩:=K3 h;refine (d,?_);have f:=rO.mpr hx
    simp only[U4,f]
    exact g
theorem WR{env:Env}{α:Type}(k:List (Str×Addr)->Sem α):∀(d:List (Str×NameKind)) (b:List (Str×Addr)),(∀y,(y,NameKind.free)∈d->∃c,env.cells.lookup y=some c) →
 (forIn d b (λ(x:Str×NameKind) (r:List (Str×Addr))=>if (x.2==NameKind.free)=true then (do let a ← cellOf env x.1; pure (ForInStep.yield ((x.1,a)::r))) else pure (ForInStep.yield r)):Sem _)=pure (DY env.cells d b)
 | [],b,_=>rfl
 | (n,kd)::r,b,h=>by
  have f:=λb=>WR k r b λy j=>h y<|Wg _ j;rw[List.forIn_cons]
  by_cases hk:kd=NameKind.free
  ·subst hk
   obtain ⟨c,g⟩:=h n Wc;show ((cellOf env n >>= λa=>pure<|ForInStep.yield ((n,a)::b)) >>= _:Sem _)=_;have e:cellOf env n=pure c:=by unfold cellOf; rw[g]
   rw[e];show (forIn r ((n,c)::b) _:Sem _)=_;rw[f];show _=pure (DY env.cells r (if NameKind.free=NameKind.free then (match env.cells.lookup n with | some a=>(n,a)::b | none=>b) else b));rw[qK rfl,g]
  ·have i:(kd==NameKind.free)=false:=by simpa using hk
   show ((if (kd==NameKind.free)=true then (do let a ← cellOf env n; pure (ForInStep.yield ((n,a)::b))) else pure (ForInStep.yield b)) >>= _:Sem _)=_;rw[i,qI W1];show (forIn r b _:Sem _)=_;rw[f];show _=pure (DY env.cells r (if kd=NameKind.free then _ else b));rw[qI hk]
theorem Lx{b:Scope}{env:Env}(h:∀y,(y,NameKind.free)∈b.names->∃c,env.cells.lookup y=some c):closureFor b env=pure (DY env.cells b.names []):=by
 unfold closureFor;have:=WR (env:=env) (α:=List<|Str×Addr) pure b.names [] h;show (forIn b.names [] (λ(x:Str×NameKind) (r:List (Str×Addr))=>if (x.2==NameKind.free)=true then (do let a ← cellOf env x.1;pure (ForInStep.yield ((x.1,a)::r))) else pure (ForInStep.yield r)) >>= λd=>pure d:Sem _)=_;rw[this]
 rfl
theorem JZ{a:Scope}{env:Env}(h:(a.names.all λy=>!(y.2==NameKind.free)||(env.cells.lookup y.1).isSome)=true):∀y,(y,NameKind.free)∈a.names->∃c,env.cells.lookup y=some c:=λy b=>by
 have e:=List.all_eq_true.mp h (y,NameKind.free) b;exact Option.isSome_iff_exists.mp e
def AV(X:Cx)(a:Scope):List (Nat×Str)->Prop
 | []=>True
 |p::r=>(X.N[p.1]?=some p.2/\a.names.lookup p.2=some .free/\(X.env.kindOf p.2=some .cell\/X.env.kindOf p.2=some .free))/\AV X a r
theorem AV.mem{X:Cx}{a:Scope}:∀ {caps:List (Nat×Str)},AV X a caps->∀p∈caps,X.N[p.1]?=some p.2/\a.names.lookup p.2=some .free/\(X.env.kindOf p.2=some .cell\/X.env.kindOf p.2=some .free)
 | [],_,_,h=>nomatch h
 |_::_,⟨h1,h2⟩,p,h=>by
  rcases Qd.mp h with rfl|h
  ·exact h1
  ·exact h2.mem p h
def A9(X:Cx)(a:Scope)(N:List Str)(s₀:Shared)(H₀:Hp)(C:Addr)(b:Ay):Cx where
 prog:=X.prog
 w:=X.w
 K:=X.K
 mg:=X.mg
 base:=X.base
 A:=X.A
 N:=N
 s₀:=s₀
 H₀:=H₀
 env:=compEnvC a (DY X.env.cells a.names []) C X.env
 outer:=X.stack
 stack:=X.stack
 ex:=b
 fn:=λ_=>false
 calm:=X.calm
 pn:=[]
 xe:=λ_ _=>False
def CY(k:Nat)(caps:List (Nat×Str))(σ:St):St:=List.replicate k none++caps.map λp=>(σ[p.1]?).join
theorem XV{R:Result->Shared->Prop}{k a i:Expr}{d:Scope}{pos:Pos}{it l:Value}(I:Nat->Shared->Prop)
 (q:∀n s,I n s->wpAny (model prog w) A (pyNext it) (λr b=>match r with
  | none=>R (.ok .next) b
  | some v=>wpAny (model prog w) A (letOwnedTupleGo a it v) (λ_ b=>wpAny (model prog w) A (assign a env v) (λ_ f=>wpAny (model prog w) A (eval k env) (λx g =>
   wpAny (model prog w) A (call (.builtin "list.append") [l,x]) (λ_ j=>∃m,m<n/\I m j) (λ_ _=>False) g)
   (λ_ _=>False) f) (λ_ _=>False) b) (λ_ _=>False) b) (λ_ _=>False) s)
 (n:Nat) (h:I n s) :
 codeAny (model prog w) A (.compLoop (.ListComp k [(a,i,[],0)] d pos) 0 it l env) R s:=by
 refine codeAny_loop rfl I (λn s u=>?_) n h;show wpAny _ _ ((compTurn (.ListComp k [(a,i,[],0)] d pos) 0 it l env).onRaise (λx=>do noteFrame x env; theTreesLotGoes x)) _ _ s;refine wpAny_noted ?_;rw[compTurn_list1];refine qM<|wpAny_standAt<|qM<|rE (q n s u) (λr b c=>?_) λ_ _ e=>False.elim e
 cases r with
 | none=>exact qS c
 | some v =>
  refine qM<|rE c (λ_ b c=>?_) λ_ _ e=>False.elim e;exact qM<|rE c (λ_ f o=>qM<|qM<|rE o (λx g t=>qM<|rE t
   (λ_ j p=>qS<|qS (rfl,p)) λ_ _ e=>False.elim e) λ_ _ e=>False.elim e) λ_ _ e=>False.elim e
def Jz(k:Nat)(caps:List (Nat×Str))(g:TG)(te:TE)(σ:St)(J:It)(H:Hp)(Q:List V->Hp->Prop):Prop :=
 ∃W:Nat->Nat->List V->Hp->Prop,(∃m,W 0 m [] H)/\∀i m b c,W i m b c->b.length<=sizeLine/\((J.stop i c/\Q b c) ∨
  (J.go i c/\b.length<sizeLine/\∃N:V->Hp->Prop,(∀v f,N v f->∃e,e<m/\W (i+1) e (b++[v]) f) ∧
   ∀x d,J.yld i c x d->g x (CY k caps σ) d λa h=>(∀(i:Nat) v,(CY k caps σ)[i]?=some (some v)->a[i]?=some (some v))/\te a h N))
def Jk(k:Nat)(caps:List (Nat×Str))(c:TI)(g:TG)(te:TE):TE:=λb H Q=>c b H λJ e=>Jz k caps g te b J e λd a=>∀D,a D=none->Q (.ref D) (As a D<|.lst d)
section
variable{X:Cx}{tg iter elt:Expr}{scope:Scope}{pos:Pos}{wi:TI}{g:TG}{te:TE}{own:List Str}{caps:List (Nat×Str)}
theorem SX{scope:Scope}(a:scope.names.lookup x=some .free):(relabel scope env).names.lookup x=some .cell\/(relabel scope env).names.lookup x=some .free:=by
 unfold relabel;show (scope.names.map _).lookup x=_\/(scope.names.map _).lookup x=_;generalize scope.names=c at a
 induction c with
 |nil=>simp at a
 |cons p r d =>
  obtain ⟨n,k⟩:=p;rw[Us]
  by_cases hn:x=n
  ·subst hn
   simp only[U4,beq_self_eq_true] at a
   cases a
   by_cases hc:((NameKind.free==NameKind.free)&&env.scope.kind == .function&&env.kindOf x==some .cell)=true
   ·left
    show List.lookup x ((if _=true then (x,NameKind.cell) else (x,NameKind.free))::_)=_;rw[qK hc]
    simp[U4]
   ·right
    show List.lookup x ((if _=true then (x,NameKind.cell) else (x,NameKind.free))::_)=_;rw[qI hc]
    simp[U4]
  ·have b:(x==n)=false:=rO.mpr hn
   simp only[U4,b] at a
   have:=d a;show List.lookup x ((if _=true then (n,NameKind.cell) else (n,k))::_)=_\/List.lookup x ((if _=true then (n,NameKind.cell) else (n,k))::_)=_
   split <;> (simp only[U4,b];exact this)
theorem WN{scope:Scope}{x:Str}(d:∀y∈scope.names,y.2 ≠ .cell)(a:(relabel scope env).names.lookup x=some .cell\/(relabel scope env).names.lookup x=some .free):(x,NameKind.free)∈scope.names:=by
 unfold relabel at a;have a:=a;generalize scope.names=h at a d
 induction h with
 |nil=>simp at a
 |cons p r i =>
  obtain ⟨n,k⟩:=p;rw[Us] at a;have j:=λz=>i z<|λy l=>d y<|Wg _ l
  by_cases hn:x=n
  ·subst hn
   by_cases hk:k=NameKind.free
   ·subst hk;exact Wc
   ·have f:(k==NameKind.free)=false:=by simpa using hk
    have c:List.lookup x ((x,k)::List.map (λ(p:Str×NameKind)=>match p with|(n,k)=>if (k==NameKind.free&&env.scope.kind == .function&&env.kindOf n==some .cell)=true then (n,NameKind.cell) else (n,k)) r)=some .cell\/List.lookup x ((x,k)::List.map (λ(p:Str×NameKind)=>match p with|(n,k)=>if (k==NameKind.free&&env.scope.kind == .function&&env.kindOf n==some .cell)=true then (n,NameKind.cell) else (n,k)) r)=some .free:=by
     simpa [f] using a
    simp only[U4,beq_self_eq_true,Option.some.injEq] at c
    rcases c with e|e
    ·exact absurd e (d (x,k) Wc)
    ·exact absurd e hk
  ·have f:=rO.mpr hn;refine Wg _<|j ?_;have b:List.lookup x ((if (k==NameKind.free&&env.scope.kind == .function&&env.kindOf n==some .cell)=true then (n,NameKind.cell) else (n,k))::List.map (λ(p:Str×NameKind)=>match p with|(n,k)=>if (k==NameKind.free&&env.scope.kind == .function&&env.kindOf n==some .cell)=true then (n,NameKind.cell) else (n,k)) r)=some .cell\/List.lookup x ((if (k==NameKind.free&&env.scope.kind == .function&&env.kindOf n==some .cell)=true then (n,NameKind.cell) else (n,k))::List.map (λ(p:Str×NameKind)=>match p with|(n,k)=>if (k==NameKind.free&&env.scope.kind == .function&&env.kindOf n==some .cell)=true then (n,NameKind.cell) else (n,k)) r)=some .free:=a
   split at b <;> (simp only[U4,f] at b;exact b)
theorem RQ{s:Shared}{m:Ay}{C:Addr}(I:Inv X d σ H s)(f:scope.kind = .function)(a:∀y∈scope.names,y.2 ≠ .cell)
 (i:∀y,(y,NameKind.free)∈scope.names->∃c,X.env.cells.lookup y=some c) (q:s.heap.objs.size<=C) (l:∀b∈m,Cv X d H b) (n:∀b∈m,b<s.heap.objs.size):(A9 X scope N s H C m).Ok:=by
 have j:∀x c,(DY X.env.cells scope.names []).lookup x=some c->X.env.cells.lookup x=some c:=λx c e=>KP scope.names [] (λp v=>(nomatch v)) (x,c)<|qY e;refine (I.ok.mod,f,I.ok.glob,I.ok.blt,q,λx y c u w=>I.ok.inj x y c (j x c u)<|j y c w,λx r=>?_,λx c h=>(W1 h).elim,I.ok.hd,I.ok.frames,.inl rfl,λb k=>(?_,λx c e=>(l b k).2.2.2.2.1 x c<|j x c e),I.bs,Q0 I.ok.bsz I.sz,λb o e k=>?_,λb k z=>?_,I.stack,I.stkFree)
 ·obtain ⟨c,t⟩:=LI scope.names [] (WN a r)<|i x<|WN a r
  exact K3 t
 ·exact Qb (Q9 (n b k) q)
 ·rcases (l b k).2.2.2.1 with z | z
  ·exact I.ok.noex b o e z
  ·exact absurd (Q9 (qN e)<|Q0 I.ok.bsz z) (Qs _)
 ·rcases Qd.mp (I.stkSub b z) with e | e
  ·exact (l b k).2.1 e
  ·exact (l b k).2.2.1 e
theorem UC(k:Nat)(caps:List (Nat×Str))(σ:St):(CY k caps σ).length=k+caps.length:=by
 unfold CY;rw[Qi,Wv,Q1]
theorem Rx{caps:List (Nat×Str)}{i:Nat}{v:V}(h:(CY k caps σ)[i]?=some (some v)):k<=i/\∃p,caps[i-k]?=some p/\σ[p.1]?=some (some v):=by
 unfold CY at h
 by_cases hi:i<k
 ·rw[U3 (by rw[Wv];exact hi),sQ,qK hi] at h
  cases h
 ·have b:=Nat.not_lt.mp hi;refine (b,?_);rw[Ue (by rw[Wv];exact b),Wv,Q7] at h
  cases e:caps[i-k]? with
  |none=>rw[e] at h;cases h
  |some p =>
   rw[e] at h;refine (p,rfl,?_);have a:(σ[p.1]?).join=some v:=rA h
   cases q:σ[p.1]? with
   |none=>rw[q] at a;cases a
   |some o=>rw[q] at a;cases o with
    |none=>cases a
    |some w=>cases a;rfl
theorem TR{s:Shared}{E:Value->Shared->Prop}{RR:Value->Addr->Result->Shared->Prop}{QL:List V->Hp->Prop}
 (I:Inv X N σ H s) (hc:X.calm=true) (T:DB X.prog X.w X.K tg J L it tn) (st:tn 0 s.heap) (hf:∀b∈L,Cv X N H b)
 (U:scope.kind = .function) (P:∀y∈scope.names,y.2 ≠ .cell) (a9:∀y,(y,NameKind.free)∈scope.names->∃c,X.env.cells.lookup y=some c) (b3:AV X scope caps)
 (hg:∀M Z C,PG (A9 X scope (own++caps.map (·.2)) M Z C L) tg g) (he:∀M Z C,PE (A9 X scope (own++caps.map (·.2)) M Z C L) elt te)
 (hB:Jz own.length caps g te σ J H QL)
 (d5:∀D C O m ys B,s.heap.objs.size<=C->D≠C->O.heap.Ns C m->Inv X N σ (As B D<|.lst ys) O->B D=none->B C=none->QL ys B->RR (.ref D) C (.ok .next) O) :
 wpAny (model X.prog X.w) X.A (newList []) (λc3 A=>wpAny (model X.prog X.w) X.A (newFunctionEnv scope X.env.globals (DY X.env.cells scope.names []) [] X.env.qual none .none<|some X.env) (λa7 c5 =>
  codeAny (model X.prog X.w) X.A (.compStart (.ListComp elt [(tg,iter,[],0)] scope pos) 0 (.ref it) c3 { a7 with scope:=relabel scope X.env }) (RR c3 a7.locals) c5) E A) E s:=by
 refine wpAny_newObj_type (wpAny_newFunctionEnv P (by intro y hy; simp at hy) (λF t h=>?_) U)
 dsimp only at t h ⊢
 generalize hH2:s.heap.push { cls:=.type "list", dict:=none,data:=.seq ([]:List Value).toArray }=H2 at t h ⊢;have hC:H2.objs.size=s.heap.objs.size+1:=by rw[<-hH2,sO]
 generalize hCC:H2.objs.size=C at *;have Q:s.heap.objs.size<=C:=by rw[hC]; exact Ud _
 generalize hDD:s.heap.objs.size=D at *;have a4:D≠C:=by rw[hC]; exact Qb<|Ut _
 have j:∀b,b<D->b≠C/\b≠D:=λb a=>(by rw[hC]; exact Qb<|Nat.lt_succ_of_lt a,Qb a);have K:∀ {b o},s.heap.get? b=some o->b<D:=fun {b o} e=>by rw[<-hDD]; exact qN e
 have G:∀b o,s.heap.get? b=some o->F.get? b=some o:=λb o e=>h.extBut b o (j b<|K e).1<|qJ _<|hH2 ▸ qJ _ e;have b5:F.get? D=some { cls:=.type "list", data:=.seq ([]:List Value).toArray 0 }:=h.extBut _ _ a4<|qJ _<|hH2 ▸ (hDD ▸ qO _ rfl);have a0:∀b∈L,b<D:=λb a=>let ⟨o,e,_⟩:=T.obj 0 _ st b a; K e;have c7:∀b,D<=b->s.heap.get? b=none:=λb a=>by
  cases e:s.heap.get? b with
  | none=>rfl
  | some o=>exact absurd (K e)<|Nat.not_lt.mpr a
 have nH:∀b,D<=b->H b=none:=λb a=>I.hok.fresh (by rw[hDD]; exact a)
 let Y:Cx:=A9 X scope (own++caps.map (·.2)) s H C L
 have a3:Y.Ok:=RQ I U P a9 (by rw[hDD]; exact Q) hf (by rw[hDD]; exact a0);have a1:∀x c,(DY X.env.cells scope.names []).lookup x=some c->X.env.cells.lookup x=some c:=λx c e=>KP scope.names [] (λp w=>(nomatch w)) (x,c)<|qY e;have a2:∀x c,X.env.cells.lookup x=some c->c<D:=λx c e=>by
  obtain ⟨v,o,ho,_⟩:=I.cell x c e;exact K ho
 have b1:∀b∈BH X.stack,b<D:=λb a=>by
  rcases Qd.mp (I.stkSub b a) with e | e
  ·rw[e,<-hDD]; exact I.lt
  ·obtain ⟨_,o,ho,_⟩:=I.funs.mem e
   exact K ho
 have I0:Inv Y [] (CY own.length caps σ) H { s with heap:=F,toks:=s.toks+([]:List (Str×Value)).length }:=by
  refine (a3,rfl,I.bare,Un.kept G,(_,t,λi x v h1 h2 h3=>?_),λx c e=>?_,nH C Q,λx c e=>I.freeC x c<|a1 x c e,λp w=>?_,I.hok.kept G,?_)
  ·obtain ⟨hk,p,w,hv⟩:=Rx h2
   have b7:caps[i-own.length]?.map (·.2)=some x:=by
    have:(own++caps.map (·.2))[i]?=some x:=h1;rw[Ue hk,Q7] at this;exact this
   rw[w] at b7
   cases b7
   obtain ⟨q1,q2,q3⟩:=b3.mem p<|Ql w;obtain ⟨m,hn,hl⟩:=I.loc;obtain ⟨u,r,l⟩:=hl p.1 p.2 v q1 hv (by rcases q3 with z | z; exact .inr<|.inl z; exact .inr<|.inr z);refine (u,r,.inr (SX q2,?_));rcases l with ⟨z,_⟩ | ⟨_,c,hc',z⟩
   ·rcases q3 with y | y <;> (rw[y] at z; cases z)
   ·have hm:(p.2,NameKind.free)∈scope.names:=qY q2
    obtain ⟨d,hd⟩:=LI scope.names [] hm (c,hc');obtain ⟨d',b2⟩:=K3 hd;have e:=a1 _ _ b2;rw[hc'] at e
    cases e
    obtain ⟨oc,ho,d7⟩:=z;exact (c,b2,oc,G _ _ ho,d7)
  ·obtain ⟨v,o,ho,hd⟩:=I.cell x c<|a1 x c e
   exact (v,o,G _ _ ho,hd)
  ·exact absurd (show p∈([]:List (Addr×Obj)) from w) (by simp)
  ·rw[UC]
   show _=(own++caps.map (·.2)).length;rw[Qi,Q1]
 have a5:∀ {f:List Value} {n:Nat} {a8:St} {B:Hp} {O:Shared},Inv Y [] a8 B O->B D=none->O.heap.get? D=some { cls:=.type "list", data:=.seq f.toArray n }->Inv Y [(D,{ cls:=.type "list", data:=.seq f.toArray n })] a8 B O:=fun {f n a8 B O} J hn e =>
  J.pins_of λp w=>by
   have ep:p=(D,{ cls:=.type "list", data:=.seq f.toArray n }):=Qf.mp w;subst ep;refine (e,hn,a4,λz=>?_,λv z=>by cases z);exact absurd (b1 D z)<|Qs _
 obtain ⟨W,⟨m0,w0⟩,S⟩:=hB;have b6:∀ {B:Hp} {pins':List (Addr×Obj)},(∀b∈L,B b=none)->(∀p∈pins',∀b∈L,p.1≠b)->∀b∈L,Cv Y pins' B b:=fun {B pins'} hn w b a =>
  (hn b a,(a3.exf b a).1,a3.exfs b a,.inl a,(a3.exf b a).2,λp q=>w p (by simpa [Y,A9] using q) b a)
 have a6:∀A:Shared,A={ s with heap:=F,toks:=s.toks+([]:List (Str×Value)).length } →
  codeAny (model X.prog X.w) X.A (.compLoop (.ListComp elt [(tg,iter,[],0)] scope pos) 0 (.ref it) (.ref D)<|compEnvC scope (DY X.env.cells scope.names []) C X.env) (RR (.ref D) C) A:=by
  rintro A rfl;refine XV (λk O=>∃(i:Nat) (ys:List V) (f:List Value) (n:Nat) (B:Hp),Inv Y [(D,{ cls:=.type "list", data:=.seq f.toArray n })] (CY own.length caps σ) B O/\tn i O.heap/\(∀b∈L,B b=none)/\Al ys f/\W i k ys B) ?_ m0
   (0,[],[],0,H,a5 I0 (nH D<|Q4 _) b5,T.keep _ _ _ st λb _ o e=>G b o e,λb a=>(hf b a).1,.nil,w0)
  rintro k s3 ⟨i,ys,f,n,H3,I3,c1,d9,rv,w3⟩;obtain ⟨pD,nD,_⟩:=I3.pin (D,{ cls:=.type "list", data:=.seq f.toArray n })<|Qm _ Wc;have ff:=b6 (pins':=[(D,{ cls:=.type "list", data:=.seq f.toArray n })]) d9 (λp w b a=>by
   rw[Qf.mp w]; exact (rC (j b<|a0 b a).2))
  obtain ⟨b9,S⟩:=S i k ys H3 w3;rcases S with ⟨stop,q⟩ | ⟨go,hsz',NN,hNN,step⟩
  ·refine Ax (T.done Y rfl rfl rfl hc i _ s3 _ H3 _ I3 ff c1 stop) λr s4 ⟨hr,I4⟩=>?_
   subst hr;obtain ⟨m4,c8,_⟩:=I4.loc;obtain ⟨e0,c4,_⟩:=I4.pin (D,{ cls:=.type "list", data:=.seq f.toArray n })<|Qm _ Wc;refine d5 D C s4 m4 ys H3 Q a4 c8 ?_ c4 I4.free q;have hk:=I4.base;have b8:Cm X.prog X.w H3 s4.heap:=I4.hok;have R:∀b u,H3 b=some u->b≠D:=λb u e z=>by rw[z,c4] at e; cases e
   refine I.call' (ch:=L) I4.os (λb o e n a hx=>hk.keep b o e n a hx,λb o e n a hx=>hk.slot b o e n a hx,λb o e n hx=>?_,λb o e hx=>hk.there b o e hx,λb xs e=>?_,λb o u e=>?_,λb ps e=>?_) ?_ I4.bare ?_
   ·rw[AL (j b<|K e).2]; exact hk.free b o e n hx
   ·have:=hk.tups b xs e
    rw[AL<|R b _ this]; exact this
   ·have:=hk.frzs b o u e
    rw[AL<|R b _ this]; exact this
   ·obtain ⟨c2,e'⟩:=hk.tbls b ps e
    exact (c2,by rw[AL<|R b _ e']; exact e')
   ·intro b u e
    by_cases a:b=D
    ·subst a
     rw[A4] at e
     cases e
     exact (b9,f,n,rv,e0)
    ·rw[AL a] at e
     exact (b8 b u e).stay (λc v _ q=>q) (λc q=>by rw[AL<|R c _ q]; exact q) λc xs q=>by rw[AL<|R c _ q]; exact q
   ·intro b a
    obtain ⟨_,f1,_,f3,f4,f5⟩:=hf b a;exact (f3,f1,f4,f5)
  ·refine Ax (T.item Y rfl rfl rfl hc i _ s3 _ H3 _ I3 ff c1 go) λr s4 ⟨u,hr,h4⟩=>?_
   subst hr;refine Ax h4 λ_ s5 ⟨x,H5,I5,r5,y5,b0,e1⟩=>?_;have d1:=b6 (pins':=[(D,{ cls:=.type "list", data:=.seq f.toArray n })]) e1 (λp w b a=>by
    rw[Qf.mp w]; exact (rC (j b<|a0 b a).2))
   have d2:=I5.pinned d1<|T.obj _ _ b0;refine Ax (hg s H C _ s5 _ H5 x u _ d2 r5<|step x H5 y5) λ_ s6 ⟨c6,H6,I6,wk,q6⟩=>?_;refine Ax (he s H C _ s6 c6 H6 _ I6 q6) λy s7 ⟨v,H7,I7,r7,n7⟩=>?_;obtain ⟨m',hm,w7⟩:=hNN v H7 n7;obtain ⟨d8,c0,_,_,_⟩:=I7.pin (D,{ cls:=.type "list", data:=.seq f.toArray n })<|Qm _<|sF _ Wc;refine append_at (n:=n) d8 (λh' b4 d6=>?_) (by rw[Qh,<-rv.length]; exact b9);have d3:tn (i+1) s7.heap:=T.keep _ _ _ b0 λb a o e=>(I7.pin (b,o)<|Qm _<|Qm _<|Go a e).1;have d4:∀b∈L,H7 b=none:=λb a=>by
    obtain ⟨o,e,d⟩:=T.obj _ _ b0 b a;exact (I7.pin (b,o)<|Qm _<|Qm _<|Go a e).2.1
   have I8:Inv Y [] c6 H7 s7:=I7.pins_of λp w=>(nomatch w);have I9:Inv Y [] (CY own.length caps σ) H7 s7:=I8.weak (by rw[I0.len,I8.len]) wk;have c9:Inv Y [] (CY own.length caps σ) H7 { s7 with heap:=h' }:=I9.turned (t':=s7.toks) (it:=D) (λb o a e=>b4.extBut b o a e) c0 a4 (.inr<|Wt hDD) (λx c e=>Qb<|a2 x c<|a1 x c e)<|λp w=>absurd (show p∈([]:List (Addr×Obj)) from w) (by simp);refine (m',hm,i+1,ys++[v],f++[y],n+1,H7,a5 c9 c0 ?_,?_,d4,rv.append<|.cons r7 .nil,w7)
   ·rw[d6,List.push_toArray]
   ·exact T.keep _ _ _ d3 λb a o e=>b4.extBut b o (j b<|a0 b a).2 e
 have d0:tn 0 F:=T.keep _ _ _ st λb _ o e=>G b o e;exact codeAny_compStart_list (a6 _ rfl)<|T.self _ 0 _ _ _ d0<|a6 _ rfl
theorem KO(own:List Str)(caps:List (Nat×Str))(hc:X.calm=true)(W:PI X tg iter wi)(O:∀r d i C,PG (A9 X scope (own++caps.map (·.2)) d i C r) tg g)(R:∀r d i C,PE (A9 X scope (own++caps.map (·.2)) d i C r) elt te)
 (u:AV X scope caps)
 (G:(scope.names.all λy=>!(y.2==NameKind.free)||(X.env.cells.lookup y.1).isSome)=true:=by rfl)
 (a:scope.kind = .function:=by rfl) (l:∀y∈scope.names,y.2 ≠ .cell:=by decide +kernel)
 (j:∀y∈scope.names,y.2 = .local->scope.names.lookup y.1=some .local:=by decide +kernel) (N:∀x,foldedSetIterable iter X.env x=pure x:=by intro _; rfl) :
 PE X (.ListComp elt [(tg,iter,[],0)] scope pos) (Jk own.length caps wi g te):=by
 intro k s L H Q I h;have f:=JZ G;have n:=Lx f;rw[eval_ListComp];refine sL (use:=none) rfl N n a j<|Ax (W k s L H _ I h) λv s1 h1=>Ax h1 λP s2 h2=>?_;obtain ⟨it,r,tn,J,H2,e,t,T,B,f2,hB⟩:=h2;subst e;refine TR (RR:=λF C=>compPost (model X.prog X.w) X.A X.xe none (EP X k L Q) F C) t hc T B f2 a l f u (O r) (R r) hB ?_;intro D C U m ys H' w A Y S M nC q;refine (m,Y,λh' E=>(.ref D,As H' D<|.lst ys,?_,rfl,q D M));exact S.turned (t':=U.toks) (it:=C) (λb o hb e=>E.extBut b o hb e) (by rw[AL<|rC A]; exact nC) (rC<|Qb<|Q9 t.lt w) (.inr<|Q0 t.sz w)
  (λx c e z=>by
   obtain ⟨v,o,K,_⟩:=t.cell x c e;rw[z] at K;exact absurd (Q9 (qN K) w)<|Qs _)
  (λp Z z=>by
   have:=(t.pin p Z).1;rw[z] at this;exact absurd (Q9 (qN this) w)<|Qs _)
theorem KM{i:Nat}{x:Str}{d t:Pos}(own:List Str)(caps:List (Nat×Str))(hN:X.N.Nodup)(N:X.N[i]?=some x)(Z:X.env.scope.names.lookup x=some .local)(hc:X.calm=true)(hi:PI X tg iter wi)
 (hg:∀A f n C,PG (A9 X scope (own++caps.map (·.2)) f n C A) tg g) (he:∀A f n C,PE (A9 X scope (own++caps.map (·.2)) f n C A) elt te)
 (B:AV X scope caps)
 (W:(scope.names.all λy=>!(y.2==NameKind.free)||(X.env.cells.lookup y.1).isSome)=true:=by rfl)
 (P:swapsWith (.ListComp elt [(tg,iter,[],0)] scope pos) (some<|.Name x d) t.line X.env=pure true:=by rfl)
 (k:scope.kind = .function:=by rfl) (w:∀y∈scope.names,y.2 ≠ .cell:=by decide +kernel)
 (r:∀y∈scope.names,y.2 = .local->scope.names.lookup y.1=some .local:=by decide +kernel) (hs:∀x,foldedSetIterable iter X.env x=pure x:=by intro _; rfl) :
 PS X (.Assign [.Name x d] (.ListComp elt [(tg,iter,[],0)] scope pos) t) (KU (Jk own.length caps wi g te)<|DK i):=by
 intro j s σ H Y I h;have l:=JZ W;have u:=Lx l;rw[exec_Assign_Name_used _ _ _ _ P];refine qM<|wpAny_standAt<|qM ?_;show wpAny _ X.A (do let _ ← comprehension (.ListComp elt [(tg,iter,[],0)] scope pos) scope X.env _ (newList []) false (eval iter X.env) (some<|assign (.Name x d) X.env)) _ _ s;refine qM<|rE (sL (use:=some<|assign (.Name x d) X.env) (Q:=λ_ G=>SP X j Y .next G) rfl hs u k r<|Ax (hi j s σ H _ I h) λv s1 h1=>Ax h1 λa0 s2 h2=>?_) (λ_ G hq=>qS<|qS hq) λ_ _ e=>e;obtain ⟨it,A,tn,J,H2,e,K,T,S,f2,hB⟩:=h2;subst e;refine TR (RR:=λO C=>compPost (model X.prog X.w) X.A X.xe (some<|assign (.Name x d) X.env) (λ_ G=>SP X j Y .next G) O C) K hc T S f2 k w l B (hg A) (he A) hB ?_;intro D C G m ys H' L R hn I3 nD nC q;show wpAny _ X.A (assign (.Name x d) X.env<|.ref D) _ _ _;have F:C≠X.env.locals:=rC<|Qb<|Q9 K.lt L;have E:∀x c,X.env.cells.lookup x=some c->c≠C:=λx c e z=>by
  obtain ⟨v,o,ho,_⟩:=K.cell x c e;rw[z] at ho;exact absurd (Q9 (qN ho) L)<|Qs _
 refine wpAny_assign_Name<|Np I3 hN N (.inl Z) (v:=.ref D) rfl (λs4 I4 ⟨a,sb,ha⟩=>?_)<|.inr Z;have U:C≠a:=by
  rcases ha with e | e
  ·rw[e]; exact F
  ·exact rC (E x a e)
 refine (m,hn.sameBut sb U,λh' M=>(_,_,?_,q D nD));exact I4.turned (t':=s4.toks) (it:=C) (λb o hb e=>M.extBut b o hb e) (by rw[AL<|rC R]; exact nC) F (.inr<|Q0 K.sz L) E
  (λp hp z=>by
   have:=(K.pin p hp).1;rw[z] at this;exact absurd (Q9 (qN this) L)<|Qs _)
theorem Ke{x:V}{a:List (Option V)}:∀(i:Nat) v,((none:Option V)::a)[i]?=some (some v)->((some x)::a)[i]?=some (some v)
 |0,v,h=>by simp at h
 |i+1,v,h=>by simpa using h
theorem pF{lo:Int}{n:Nat}{σ:St}{QL:List V->Hp->Prop}(a:Nat->List V->Hp->Prop)(o:n<=1000)(l:a 0 [] H)
 (f:∀i ys H,i<n->ys.length=i->a i ys H->te (some (.int<|lo+i)::caps.map λp=>(σ[p.1]?).join) H λv b=>a (i+1) (ys++[v]) b) (k:∀ys H,ys.length=n->a n ys H->QL ys H) :
 Jz 1 caps (DK 0) te σ (FW lo n) H QL:=by
 have j:=FX o;refine (λi m ys H=>m=n-i/\i<=n/\ys.length=i/\a i ys H,(_,rfl,Qe _,rfl,l),?_);rintro i m ys b ⟨rfl,r,c,p⟩;refine (⋯,?_)
 by_cases hlt:i<n
 ·refine .inr (hlt,⋯,λv d=>a (i+1) (ys++[v]) d,λv d h=>(n-(i+1),⋯,rfl,hlt,by rw[Qi,c]; rfl,h),λx q y=>?_)
  obtain ⟨e,y⟩:=y;subst e y;exact (Ke,f i ys _ hlt c p)
 ·have e:i=n:=⋯
  subst e;exact .inl (Q4 _,k ys b c p)
end
structure AC (P:Program) (w:World) (K:Ac) (mg:Ai) (base:Heap) (C:Addr) (m:Str) (k:Nat) (ps:List Str) (dvs:List V) (sp:Sp):Prop where
 ex:∃(f:Addr) (fd:FuncData) (ds:List Value),AS P w K mg base DW k f fd ps sp/\Fa K C m f/\AB K fd ps ds/\Al dvs ds
theorem AC.mono{K:Ac}{j k:Nat}(h:AC P w K mg base C m j ps dvs sp)(e:j<=k):AC P w K mg base C m k ps dvs sp :=
 let ⟨f,fd,ds,a,b,c,d⟩:=h.ex
 (f,fd,ds,a.mono e,b,c,d)
inductive Xf (P:Program) (w:World) (K:Ac) (mg:Ai) (base:Heap) (m:Str) (k:Nat) (x:V) (H1:Hp) (R:List V->Sp->Prop):Prop
 |mk (a C:Addr) (dx:_) (fs:_) (ps:List Str) (dvs:List V) (sp:Sp) (_:x = .ref a) (_:H1 a=some (.ins C dx fs)) (_:BV K C) (_:AC P w K mg base C m k ps dvs sp) (_:fs.lookup m=none) (_:R dvs sp):Xf P w K mg base m k x H1 R
def lC(P:Program)(w:World)(K:Ac)(mg:Ai)(base:Heap)(m:Str)(k:Nat)(d:TE)(t:TA):TE:=λb H Q=>d b H λx c=>Xf P w K mg base m k x c λa e=>t b c λg f=>e (x::(g++a)) f Q E0
section
variable{X:Cx}{k:Nat}{m x:Str}{p pos apos:Pos}{e o:Expr}{es:List Expr}{ta:TE}{t:TA}
theorem L0(y:PE X o ta)(D:Av k X.A)(w:PA X (e::es) t)
 (d:starEach (e::es) X.env=(false,eval e X.env)::starEach es X.env:=by rfl) (g:(backTo pos<|starEach es X.env).any (·.1)=false:=by rfl)
 (A:eval (.Call (.Attribute o m apos) (e::es) [] pos) X.env=(do
  let ov ← eval o X.env
  standAt apos.atName
  let (f,first) ← holding [ov] (getMethod ov m pl)
  callWith pos f first (backTo pos<|starEach (e::es) X.env) (backToKw pos<|keywordEach [] X.env)):=by rfl) :
 PE X (.Call (.Attribute o m apos) (e::es) [] pos) (lC X.prog X.w X.K X.mg X.base m k ta t):=by
 intro b s n H Q I h;refine PySem.W.methodCall_KW (pl:=pl) (Ax (y b s n H _ I h) λu M ⟨x,O,v,J,a,C,S,Y,Z,K,T,B,G,c,N,l,q⟩=>?_) A;subst B;obtain rfl:u=Value.ref a:=J;obtain ⟨f,W,P,F,i,L,E⟩:=N.ex;refine Vc v G c i l ?_;refine sU (first:=[.ref a]) (h₀:=X.base) I.ok.mod.kin i.kp (Ax (w pos b M n O _ v q) λus U ⟨vs,R,j,r,z⟩=>(j.kIn,?_)) d g;exact WJ (us:=.ref a::us) (vs:=.ref a::vs) F D L E N8 j (.cons rfl r) z
structure B5 (P:Program) (w:World) (K:Ac) (mg:Ai) (base:Heap) (C:Addr) (k:Nat) (ps:List Str) (sp:Sp):Prop where
 ex:∃(f:Addr) (fd:FuncData),Mk K C f/\AS P w K mg base DW k f fd ps sp/\AB K fd ps []
theorem Ka(h:B5 X.prog X.w X.K X.mg X.base C k ps sp)(g:Av (k+1) X.A)(i:Gl X x)(l:X.mg x=some (.ref C))(d:PA X (e::es) t)(a:(x==("__debug__" : Str))=false:=by decide)
 (j:starEach (e::es) X.env=(false,eval e X.env)::starEach es X.env:=by rfl) (c:(backTo pos<|starEach es X.env).any (·.1)=false:=by rfl):PE X (.Call (.Name x p) (e::es) [] pos) (WX C sp [] E0 t):=by
 obtain ⟨f,n,M,F,b⟩:=h.ex;exact iY M F g i l b .nil N8 d a j c
structure Am (K:Ac) (C:Addr) (m qual:Str) (st:Stmt):Prop where
 ex:∃(f:Addr) (fd:FuncData),BT K m qual st f fd/\Fa K C m f
theorem Am.hasM{K:Ac}{m a:Str}{st:Stmt}{k:Nat}(h:Am K C m a st)
 (b:∀f c,BT K m a st f c->AB K c ps []) (d:∀f c,BT K m a st f c->AS P w K mg base DW k f c ps sp):AC P w K mg base C m k ps [] sp :=
 let ⟨f,c,F,M⟩:=h.ex
 (f,c,[],d f c F,M,b f c F,.nil)
theorem hereM_mk{K:Ac}{C:Addr}{m b:Str}{st:Stmt}{f:Addr}{j:Value}{q r:Option Addr}{h:Array (Option Value)}{kV g pm d n:Value}(a:PySem.W.findIn K (.ref C) m=some (some<|.ref f))(i:PySem.W.isFn K (.ref f)=true)
 (l:K.lookup f=some (j,q,.func<|PySem.W.fnOf m b (Ei st) (CL st) (Ao st) .none kV g pm r d n,h))
 (c:PySem.W.codeIn K d b=true) (k:PySem.W.keepIn K (.ref f)=true):Am K C m b st:=(f,_,PH l c k,a,i,k)
structure C9 (K:Ac) (C:Addr) (qual:Str) (st:Stmt):Prop where
 ex:∃(f:Addr) (fd:FuncData),BT K "__init__" qual st f fd/\Mk K C f
theorem C9.hasI{K:Ac}{st:Stmt}{k:Nat}(h:C9 K C a st)
 (b:∀f c,BT K "__init__" a st f c->AB K c ps []) (d:∀f c,BT K "__init__" a st f c->AS P w K mg base DW k f c ps sp):B5 P w K mg base C k ps sp :=
 let ⟨f,c,F,M⟩:=h.ex
 (f,c,M,d f c F,b f c F)
theorem hereI_mk{K:Ac}{st:Stmt}{f:Addr}{n:Value}{s u:Option Addr}{h:Array (Option Value)}{kV g pm d r:Value}(q:PySem.W.makesIn K C=true)(a:PySem.W.findIn K (.ref C) "__init__" = some (some<|.ref f)) (i:PySem.W.isFn K (.ref f)=true)
 (j:PySem.W.keepIn K (.ref C)=true) (l:K.lookup f=some (n,s,.func<|PySem.W.fnOf "__init__" b (Ei st) (CL st) (Ao st) .none kV g pm u d r,h))
 (c:PySem.W.codeIn K d b=true) (k:PySem.W.keepIn K (.ref f)=true):C9 K C b st:=(f,_,PH l c k,q,a,i,j)
structure Nn (K:Ac) (C:Addr):Prop where
 makes:PySem.W.makesIn K C=true
 init:PySem.W.findIn K (.ref C) "__init__"=some (some (.builtin "object.__init__"))
 kp:PySem.W.keepIn K (.ref C)=true
def Yi(C:Addr):TE:=λ_ H Q=>∀x a,H x=none->H a=none->a≠x->Q (.ref x) (As (As H a<|.own x) x<|.ins C a [])
theorem cY{Q:VK}(M:Nn X.K C)(I:Inv X c σ H s)
 (h:∀x i,H x=none->H i=none->i≠x->Q (.ref x) (As (As H i<|.own x) x<|.ins C i [])):wpAny (model X.prog X.w) X.A (call (.ref C) []) (EP X c σ Q) X.xe s:=by
 have j:=h (s.heap.objs.size+1) s.heap.objs.size (I.hok.fresh<|Ud _) (I.hok.fresh<|Q4 _)<|Qb<|Ut _;have l:=Inv.made (C:=C) I;refine wpAny_call<|kY I.kIn M.makes M.init (λf=>PySem.W.Looks.of_pure<|PySem.W.oi_bind f) ?_;have Y:=PySem.W.makes_of (M:=model X.prog X.w) I.kIn M.makes;obtain ⟨a,g,d,t,r⟩:=s;have n:PySem.W.Looks (model X.prog X.w) ((a.push PySem.W.emptyDict).push<|PySem.W.instObj C a.objs.size) (typeOf<|.ref<|a.objs.size+1) (.ref C) :=
  (PySem.W.Looks.ld (o:=PySem.W.instObj C a.objs.size) (by have:=qO (a.push PySem.W.emptyDict) (o:=PySem.W.instObj C a.objs.size) rfl; rwa [sO] at this)).andThen .now
 have q:PySem.W.Looks (model X.prog X.w) ((a.push PySem.W.emptyDict).push<|PySem.W.instObj C a.objs.size) (isInstance (.ref<|a.objs.size+1)<|.type "object") true:=n.andThen<|Y.top.keeps λb o e=>qJ _<|qJ _ e;refine codeAny_call_builtin PySem.W.oi_plain PySem.W.entry_oi<|@PySem.W.check_slot (model X.prog X.w) _ _ _ "object.__init__" "object" "__init__" (.ref<|a.objs.size+1) [] [] _ PySem.W.oi_kind PySem.W.oi_split q (PySem.W.oi_args<|.ref<|a.objs.size+1) ?_;rw[PySem.W.oi_run];refine qS<|And.intro rfl ?_;exact (V.ref<|a.objs.size+1,_,l,rfl,j)
theorem Z1(M:Nn X.K C)(c:Gl X x)(d:X.mg x=some (.ref C))(a:(x==("__debug__":Str))=false:=by decide):PE X (.Call (.Name x p) [] [] pos) (Yi C):=by
 intro b s f H Q I h;refine q8<|Ii I c d ?_ a;exact PySem.W.callWith_K0 I.kIn M.kp<|cY M I h
end
end Lake.L2
namespace Lake.M1
theorem fmod_gcd(a b:Int):Int.gcd b (a.fmod b)=Int.gcd a b:=by
 have h:=Int.fmod_def a b;rw[h,Int.gcd_comm a b];have:a-b*a.fdiv b=a+b*(-(a.fdiv b)):=by rw[U8];omega
 rw[this]
 simp
theorem aK(i:Int):(if i<0 then -i else i)=(i.natAbs:Int):=by split <;> omega
theorem gcd_zero'(a:Int):(Int.gcd a 0:Int)=(if a<0 then -a else a):=by
 rw[aK,Int.gcd_zero_right]
theorem Rz(a:Int){b:Int}(h:b<0):a.fmod b<=0/\b<a.fmod b:=by
 have e:=Int.neg_fmod_neg a b;have c:=Int.fmod_nonneg_of_pos (-a) (b:=-b) ⋯;have d:=Int.fmod_lt_of_pos (-a) (b:=-b) ⋯;omega
theorem fmod_lt(a:Int){b:Int}(h:b≠0):(a.fmod b).natAbs<b.natAbs:=by
 rcases Int.lt_or_gt_of_ne h with h|h
 ·have c:=Rz a h;omega
 ·have c:=Int.fmod_nonneg_of_pos a h;have d:=Int.fmod_lt_of_pos a h;omega
theorem UA(a:Int){b:Int}(h:b≠0):(0<=b/\0<=a.fmod b)\/(b<=0/\a.fmod b<=0):=by
 rcases Int.lt_or_gt_of_ne h with h|h
 ·exact .inr (⋯,(Rz a h).1)
 ·exact .inl (⋯,Int.fmod_nonneg_of_pos a h)
structure Sh (x y a u1 v1 b u2 v2:Int):Prop where
 ea:a=u1*x+v1*y
 eb:b=u2*x+v2*y
 g:Int.gcd a b=Int.gcd x y
 st:(a=x/\u1=1/\v1=0/\b=y/\u2=0/\v2=1) ∨
  (a≠0/\((0<=a/\0<=b)\/(a<=0/\b<=0))/\a.natAbs<=y.natAbs/\b.natAbs<=y.natAbs/\u1.natAbs<=y.natAbs/\v1.natAbs<=x.natAbs+2*y.natAbs ∧
   u2.natAbs*a.natAbs+u1.natAbs*b.natAbs<=y.natAbs/\v2.natAbs*a.natAbs+v1.natAbs*b.natAbs<=x.natAbs+2*y.natAbs)
theorem Sh.start(x y:Int):Sh x y x 1 0 y 0 1:=(⋯,⋯,rfl,.inl (rfl,rfl,rfl,rfl,rfl,rfl))
theorem Kx{a b c:Nat}(h:a*b<=c)(d:b≠0):a<=c:=Q0 (Uu a<|Uv d) h
theorem Zm{X Y:Nat}:X<=X+2*Y+1:=⋯
theorem JG{X Y:Nat}:Y<=X+2*Y+1:=⋯
theorem Sj{X Y:Nat}:1<=X+2*Y+1:=⋯
theorem XJ{X Y:Nat}(h:1<=Y):1<=X+2*Y:=⋯
theorem Sh.bound{x y a f d b e g:Int}(h:Sh x y a f d b e g) :
 a.natAbs<=x.natAbs+2*y.natAbs+1/\f.natAbs<=x.natAbs+2*y.natAbs+1/\d.natAbs<=x.natAbs+2*y.natAbs+1 ∧
 b.natAbs<=x.natAbs+2*y.natAbs+1/\e.natAbs<=x.natAbs+2*y.natAbs+1/\g.natAbs<=x.natAbs+2*y.natAbs+1:=by
 rcases h.st with ⟨rfl,rfl,rfl,rfl,rfl,rfl⟩ | ⟨ha,_,h1,h2,h3,h4,h5,h6⟩
 ·exact (Zm,Sj,Qe _,JG,Qe _,Sj)
 ·have c:=Int.natAbs_ne_zero.mpr ha
  have i:=Kx (b:=a.natAbs) (Q0 (Uw _ _) h5) c;have j:=Kx (b:=a.natAbs) (Q0 (Uw _ _) h6) c;exact (Q0 h1 JG,Q0 h3 JG,Nat.le_succ_of_le h4,Q0 h2 JG,Q0 i JG,Nat.le_succ_of_le j)
theorem rest_eq(a b:Int):a-a.fdiv b*b=a.fmod b:=by rw[Int.fmod_def,Qx]
theorem fdiv_small(a:Int){b:Int}(f:b≠0):(a.fdiv b).natAbs<=a.natAbs+1:=by
 have e:=Int.mul_fdiv_add_fmod a b;have l:=fmod_lt a f;have k:(b*a.fdiv b).natAbs=b.natAbs*(a.fdiv b).natAbs:=Qj ..;have z:b*a.fdiv b=a-a.fmod b:=⋯;have i:b.natAbs*(a.fdiv b).natAbs<=a.natAbs+(b.natAbs-1):=by
  rw[<-k,z];have:=Int.natAbs_sub_le a<|a.fmod b;omega
 generalize (a.fdiv b).natAbs=q at *;generalize b.natAbs=c at *;have d:1<=c:=⋯;rcases Nat.lt_or_ge (a.natAbs+1) q with h|h
 ·have:c*(a.natAbs+2)<=c*q:=Qq c h;have g:c*(a.natAbs+2)=c*a.natAbs+c*2:=Wz ..;have j:a.natAbs<=c*a.natAbs:=Wi _ d;omega
 ·exact h
theorem gA{a b:Int}(h:(0<=a/\0<=b)\/(a<=0/\b<=0)):0<=a.fdiv b:=by
 rcases h with ⟨h1,h2⟩|⟨h1,h2⟩
 ·exact Int.fdiv_nonneg h1 h2
 ·rw[<-Int.neg_fdiv_neg];exact Int.fdiv_nonneg ⋯ ⋯
theorem XL{a b:Int}(c:b≠0)(h:(0<=a/\0<=b)\/(a<=0/\b<=0)):(a.fdiv b).natAbs*b.natAbs+(a.fmod b).natAbs=a.natAbs:=by
 have e:=Int.mul_fdiv_add_fmod a b;have q:=gA h;have s:=UA a c;rw[<-Qj,Qx];have d:(0<=b/\0<=b*a.fdiv b)\/(b<=0/\b*a.fdiv b<=0):=by
  rcases h with ⟨h1,h2⟩|⟨h1,h2⟩
  ·exact .inl (h2,Int.mul_nonneg h2 q)
  ·refine .inr (h2,?_);have:=Int.mul_nonneg (show 0 <= -b by omega) q;rw[Int.neg_mul] at this;omega
 rcases d with ⟨b1,p1⟩|⟨b1,p1⟩
 ·rcases s with ⟨_,s1⟩|⟨b2,_⟩
  ·rw[<-Int.natAbs_add_of_nonneg p1 s1,e]
  ·exact absurd (Int.le_antisymm b2 b1) c
 ·rcases s with ⟨b2,_⟩|⟨_,s1⟩
  ·exact absurd (Int.le_antisymm b1 b2) c
  ·rw[<-Int.natAbs_add_of_nonpos p1 s1,e]
theorem WS(u q v:Int):(u-q*v).natAbs<=u.natAbs+q.natAbs*v.natAbs:=by
 have:=Int.natAbs_sub_le u<|q*v;rw[Qj] at this;exact this
theorem Rt{d c q a b r u C:Nat}(f:u<=d+q*c)(e:q*b+r=a)(h:c*a+d*b<=C):u*b+c*r<=C:=by
 have g:=W2 b f;have j:(d+q*c)*b=d*b+c*(q*b):=by
  rw[Ug,Wj q c,W8]
 have i:c*a=c*(q*b)+c*r:=by rw[<-e,Wz]
 omega
theorem XZ{x y a b q e c d f:Int}(g:a=e*x+c*y)(h:b=d*x+f*y):a-q*b=(e-q*d)*x+(c-q*f)*y:=by
 rw[g,h,Int.sub_mul,Int.sub_mul,Int.mul_add,Qy,Qy];omega
theorem jT{M A R B:Nat}(h:M<=A+R)(l:R<B):M+R<=A+2*B:=⋯
theorem Sh.turn{x y a j n b g f:Int}(h:Sh x y a j n b g f)(d:b≠0) :
 Sh x y b g f (a-a.fdiv b*b) (j-a.fdiv b*g) (n-a.fdiv b*f):=by
 have m:=rest_eq a b;refine (h.eb,XZ h.ea h.eb,?_,.inr ?_)
 ·rw[m,fmod_gcd]; exact h.g
 ·have i:=fmod_lt a d
  have r:=UA a d;rw[m];refine (d,r,?_);rcases h.st with ⟨rfl,rfl,rfl,rfl,rfl,rfl⟩ | ⟨ha,hs,h1,h2,h3,h4,h5,h6⟩
  ·have o:(1:Int)-a.fdiv b*0=1:=⋯
   have q:(0:Int)-a.fdiv b*1 = -(a.fdiv b):=⋯;rw[o,q,Int.natAbs_neg];refine (Q4 _,Wf i,Qe _,XJ<|Uv<|Int.natAbs_ne_zero.mpr d,?_,?_)
   ·show 1*b.natAbs+0*(a.fmod b).natAbs<=b.natAbs
    rw[Qz,Nat.zero_mul];exact Q4 _
   ·show (a.fdiv b).natAbs*b.natAbs+1*(a.fmod b).natAbs<=a.natAbs+2*b.natAbs
    have e:=Int.mul_fdiv_add_fmod a b;have k:(b*a.fdiv b).natAbs=b.natAbs*(a.fdiv b).natAbs:=Qj ..;have z:b*a.fdiv b=a-a.fmod b:=⋯;rw[Wj,<-k,z,Qz];exact jT (Int.natAbs_sub_le a<|a.fmod b) i
  ·have l:=XL d hs
   have c:a.natAbs≠0:=Int.natAbs_ne_zero.mpr ha;have p:g.natAbs<=y.natAbs:=Kx (b:=a.natAbs) (Q0 (Uw _ _) h5) c;have s:f.natAbs<=x.natAbs+2*y.natAbs:=Kx (b:=a.natAbs) (Q0 (Uw _ _) h6) c;exact (h2,Q0 (Wf i) h2,p,s,Rt (WS ..) l h5,Rt (WS ..) l h6)
theorem Sh.done{x y a c b d e:Int}(h:Sh x y a c b 0 d e):(a.natAbs:Int)=Int.gcd x y/\a=x*c+y*b:=by
 have g:=h.g;rw[Int.gcd_zero_right] at g;refine (by rw[g],?_);rw[Qx x,Qx y];exact h.ea
end Lake.M1
namespace Lake.M2
def Prm(n:Int):Prop:=2<=n/\∀d:Int,2<=d->d*d<=n->¬d ∣ n
theorem sq_mono{a b:Int}(c:0<=a)(h:a<=b):a*a<=b*b:=Int.mul_le_mul h h c ⋯
theorem gQ:Prm 2:=(⋯,λd b c=>by have:=sq_mono (a:=2) ⋯ b;omega)
theorem ZU{n:Int}(h:2<=n)(a:n≠2)(e:n%2=0):¬Prm n:=λp=>p.2 2 ⋯ ⋯<|rR e
theorem prm_even{n:Int}(h:2<=n)(e:n%2=0):Prm n↔n=2:=by
 constructor
 ·intro p;refine Decidable.byContradiction λz=>ZU h z e p
 ·rintro rfl;exact gQ
def No(n t:Int):Prop:=∀d:Int,2<=d->d<t->¬d ∣ n
theorem No.odd{n:Int}(e:¬n%2=0):No n 3:=λd c b a=>by
 have:d=2:=⋯;subst this;exact e<|U9 a
theorem No.two:No n 2:=λd a b=>⋯
theorem No.one{n t:Int}(h:No n t)(a:¬t ∣ n):No n (t+1):=λd b c=>by
 rcases (by omega:d<t\/d=t) with z|z
 ·exact h d b z
 ·rw[z];exact a
theorem No.next{n t:Int}(h:No n t)(e:¬n%2=0)(g:t%2=1)(c:¬t ∣ n):No n (t+2):=λd f i a=>by
 rcases (by omega:d<t\/d=t\/d=t+1) with z|z|z
 ·exact h d f z a
 ·rw[z] at a;exact c a
 ·have b:(2:Int) ∣ d:=rR ⋯;exact e<|U9<|Int.dvd_trans b a
theorem No.done{n t:Int}(h:No n t)(e:2<=n)(c:0<=t)(f:¬t*t<=n):Prm n:=(e,λd a b=>h d a (by
 refine Int.lt_of_not_ge λz=>f ?_;exact Int.le_trans (sq_mono c z) b))
theorem found{n t:Int}(a:2<=t)(c:t*t<=n)(b:t ∣ n):¬Prm n:=λp=>p.2 t a c b
theorem le_of_sq{n t:Int}(a:2<=t)(b:t*t<=n):t+t<=n:=by
 have:t*2<=t*t:=rF a ⋯;omega
theorem fmod_dvd{n t:Int}(a:0<t):n.fmod t=0↔t ∣ n:=by
 rw[Wr n ⋯];exact (rR,U9)
theorem gC{p d:Int}(h:Prm p)(f:1<d)(c:d ∣ p):d=p:=by
 obtain ⟨k,a⟩:=c;have g:=h.1;refine Decidable.byContradiction λz=>?_;have b:0<k:=by
  refine Int.lt_of_not_ge λq=>?_;have:=Int.mul_nonneg (show 0<=d by omega) (show 0 <= -k by omega);rw[U8] at this;omega
 have e:k≠1:=λq=>z (by rw[a,q,U2]);rcases (by omega:d<=k\/k<=d) with q|q
 ·exact h.2 d ⋯ (by rw[a];exact rF q ⋯) (k,a)
 ·exact h.2 k ⋯ (by rw[a];exact Int.mul_le_mul_of_nonneg_right q ⋯) (d,by rw[a,Qx])
theorem prm_gcd{p b:Int}(h:Prm p)(f:¬p ∣ b):Int.gcd b p=1:=by
 have a:=W9 b p;have c:=U0 b p;have g:=h.1;have d:Int.gcd b p≠0:=λz=>by
  rw[z] at a;have:=Int.zero_dvd.mp a;omega
 refine Decidable.byContradiction λz=>f ?_;have e:=gC h (show (1:Int)<(Int.gcd b p:Int) by omega) a;rw[e] at c;exact c
end Lake.M2
namespace Lake.M3
theorem Kv{a b c:Int}(e:Int.gcd a c=1)(d:Int.gcd b c=1):Int.gcd (a*b) c=1:=by
 rw[Int.gcd_eq_natAbs_gcd_natAbs] at *;rw[Qj];exact Nat.Coprime.mul_left e d
theorem Hy{a b:Int}(h:Int.gcd a b=1):Int.gcd b a=1:=by rw[Int.gcd_comm];exact h
theorem Ly{a b c:Int}(e:Int.gcd c a=1)(d:Int.gcd c b=1):Int.gcd c (a*b)=1:=Hy<|Kv (Hy e)<|Hy d
theorem hZ{a b c:Int}(h:Int.gcd (a*b) c=1):Int.gcd a c=1:=by
 rw[Int.gcd_eq_natAbs_gcd_natAbs] at *;rw[Qj] at h;exact Nat.Coprime.coprime_dvd_left (b.natAbs,rfl) h
theorem IL{a b c:Int}(h:Int.gcd (a*b) c=1):Int.gcd b c=1:=hZ (b:=a) (by rw[Qx];exact h)
theorem Kk{a b c:Int}(h:Int.gcd c (a*b)=1):Int.gcd c b=1:=Hy<|IL<|Hy h
theorem Is{a b:Int}(f:Int.gcd a b≠0):∃x y:Int,a=(Int.gcd a b:Int)*x/\b=(Int.gcd a b:Int)*y/\Int.gcd x y=1:=by
 obtain ⟨x,c⟩:=U0 a b;obtain ⟨y,d⟩:=W9 a b;refine (x,y,c,d,?_);have e:Int.gcd ((Int.gcd a b:Int)*x) ((Int.gcd a b:Int)*y)=Int.gcd a b*Int.gcd x y:=by
  rw[Int.gcd_mul_left]
  simp
 rw[<-c,<-d] at e;have g:Int.gcd a b*Int.gcd x y=Int.gcd a b*1:=⋯;exact Nat.eq_of_mul_eq_mul_left (Uv f) g
theorem gcd_ne{a b:Int}(h:b≠0):Int.gcd a b≠0:=λz=>h (Int.gcd_eq_zero_iff.mp z).2
theorem Fm{g x:Int}(a:g≠0):(g*x).fdiv g=x:=sH x a
theorem IB{g x:Int}(a:0<g)(h:0<g*x):0<x:=by
 refine Int.lt_of_not_ge λz=>?_;have:=Int.mul_nonneg (Int.le_of_lt a) (show 0 <= -x by omega);rw[U8] at this;omega
theorem low{t b:Int}(h:0<b):Int.gcd (t.fdiv<|Int.gcd t b) (b.fdiv<|Int.gcd t b)=1/\0<b.fdiv (Int.gcd t b)/\t.fdiv (Int.gcd t b)*b=t*b.fdiv (Int.gcd t b) ∧
 (t.fdiv<|Int.gcd t b).natAbs<=t.natAbs/\(b.fdiv<|Int.gcd t b).natAbs<=b.natAbs:=by
 have f:=gcd_ne (a:=t) (b:=b) ⋯;obtain ⟨x,y,i,j,c⟩:=Is f;generalize Int.gcd t b=g at *;have d:(g:Int)≠0:=⋯;subst i j;rw[Fm d,Fm d];have e:=IB (show (0:Int)<g by omega) h;refine (c,e,by ac_rfl,?_,?_)
 ·rw[Qj]; exact Wi _ ⋯
 ·rw[Qj]; exact Wi _ ⋯
theorem Y2(g x:Int)(a:g≠0):x.natAbs<=(g*x).natAbs:=by
 rw[Qj];exact Wi _ ⋯
theorem plus_ok{n d o c:Int}(H:0<d)(E:0<c)(c1:Int.gcd n d=1)(c2:Int.gcd o c=1){top:Int}
 (m:top=n*c.fdiv (Int.gcd d c)+o*d.fdiv (Int.gcd d c)) :
 Int.gcd top (Int.gcd d c)≠0/\0<d.fdiv (Int.gcd d c)*c.fdiv (Int.gcd top<|Int.gcd d c) ∧
 Int.gcd (top.fdiv<|Int.gcd top<|Int.gcd d c) (d.fdiv (Int.gcd d c)*c.fdiv (Int.gcd top<|Int.gcd d c))=1 ∧
 top.fdiv (Int.gcd top<|Int.gcd d c)*(d*c)=(n*c+o*d)*(d.fdiv (Int.gcd d c)*c.fdiv (Int.gcd top<|Int.gcd d c)):=by
 have B:=gcd_ne (a:=d) (b:=c) ⋯;obtain ⟨p,q,i,h,k⟩:=Is B;generalize hG:Int.gcd d c=g at *;have e:(g:Int)≠0:=⋯;have y:d.fdiv g=p:=by rw[i]; exact Fm e
 have C:c.fdiv g=q:=by rw[h]; exact Fm e
 rw[y,C] at m;rw[y];have x:=gcd_ne (a:=top) (b:=(g:Int)) e;obtain ⟨t,r,f,v,s⟩:=Is x;generalize hL:Int.gcd top g=l at *;have j:(l:Int)≠0:=⋯;have J:top.fdiv l=t:=by rw[f]; exact Fm j
 have u:c=l*(r*q):=by rw[h,v]; ac_rfl
 have D:c.fdiv l=r*q:=by rw[u]; exact Fm j
 rw[J,D];have A:=IB (show (0:Int)<g by omega) (by rw[<-i]; exact H);have F:=IB (show (0:Int)<l by omega) (by rw[<-u]; exact E);have z:Int.gcd top p=1:=by
  rw[m,Int.gcd_add_mul_right_left];exact Kv (Kk (a:=g) (by rw[<-i]; exact c1))<|Hy k
 have w:Int.gcd top q=1:=by
  rw[m,Int.add_comm,Int.gcd_add_mul_right_left];exact Kv (Kk (a:=g) (by rw[<-h]; exact c2)) k
 rw[f] at z w;refine (x,Wk A F,Ly (IL z)<|Ly s<|IL w,?_);have G:n*c+o*d=g*(l*t):=by
  rw[<-f,m,Int.mul_add,i,h]
  congr 1 <;> ac_rfl
 rw[G,i,h];have I:(g:Int)*(l*t)*(p*(r*q))=g*t*p*q*(l*r):=by ac_rfl
 rw[I,<-v]
 ac_rfl
theorem times_ok{e c g d:Int}(u:0<c)(B:0<d)(c1:Int.gcd e c=1)(c2:Int.gcd g d=1) :
 0<c.fdiv (Int.gcd g c)*d.fdiv (Int.gcd e d) ∧
 Int.gcd (e.fdiv (Int.gcd e d)*g.fdiv (Int.gcd g c)) (c.fdiv (Int.gcd g c)*d.fdiv (Int.gcd e d))=1 ∧
 e.fdiv (Int.gcd e d)*g.fdiv (Int.gcd g c)*(c*d)=e*g*(c.fdiv (Int.gcd g c)*d.fdiv (Int.gcd e d)):=by
 have s:=gcd_ne (a:=e) (b:=d) ⋯;have v:=gcd_ne (a:=g) (b:=c) ⋯;obtain ⟨x,y,n,k,l⟩:=Is s;obtain ⟨z,w,o,j,m⟩:=Is v;generalize Int.gcd e d=f at *;generalize Int.gcd g c=r at *;have h:(f:Int)≠0:=⋯;have i:(r:Int)≠0:=⋯;have A:e.fdiv f=x:=by rw[n]; exact Fm h
 have q:d.fdiv f=y:=by rw[k]; exact Fm h
 have D:g.fdiv r=z:=by rw[o]; exact Fm i
 have p:c.fdiv r=w:=by rw[j]; exact Fm i
 rw[A,q,D,p];have t:=IB (show (0:Int)<f by omega) (by rw[<-k]; exact B);have C:=IB (show (0:Int)<r by omega) (by rw[<-j]; exact u);rw[n,j] at c1;rw[o,k] at c2;refine (Wk C t,Kv (Ly (Kk<|IL c1) l)<|Ly m<|Kk<|IL c2,?_);rw[n,k,o,j]
 ac_rfl
theorem fdiv_le{a:Int}{g:Int}(h:g ∣ a)(b:g≠0):(a.fdiv g).natAbs<=a.natAbs:=by
 obtain ⟨x,rfl⟩:=h;rw[Fm b];exact Y2 g x b
end Lake.M3
namespace Lake.L2
open PySem PySem.Spec PyProof.Rows
structure EJ (K:Ac) (C:Addr):Prop where
 ga:PySem.W.findIn K (.ref C) "__getattribute__"=some (some (.builtin "BaseException.__getattribute__"))
 ha:PySem.W.findIn K (.ref C) "__getattr__"=some none
 cl:PySem.W.findIn K (.ref C) "__class__"=some (some (.builtin "object.__class__"))
 hn:PySem.W.specialIn K (.builtin "object.__class__") "__get__"=some (some (.builtin "getset_descriptor.__get__"))
 tk:PySem.W.takesIn K (.builtin "object.__class__")=some true
 ob:PySem.W.mroIn K C (.type "object")=some true
 be:PySem.W.mroIn K C (.type "BaseException")=some true
 hd:PySem.W.hasDictIn K C=true
section
variable{prog:Program}{w:World}{A:Around}{E:Value->Shared->Prop}{s:Shared}{K:Ac}{x C:Addr}{ox:Obj}{od:Option Obj}
theorem mZ{K:Ac}{C:Addr}{od:Option Obj}{a g:Value}(c:(PySem.W.clsIn K C).isSome=true)(d:PySem.W.findIn K (.ref C) b=some (some a))(e:PySem.W.specialIn K a "__get__" = some (some g)) (f:PySem.W.takesIn K a=some true) :
 PySem.W.findObj K C od b=some (.bind g a):=by
 obtain ⟨h,c⟩:=Option.isSome_iff_exists.mp c;unfold PySem.W.findObj;rw[c,Option.bind_some,d,Option.bind_some]
 simp[e,f]
theorem dX(c:EJ K C){e:Tok}{R:Result->Shared->Prop}(X:K.In s.heap)(I:PySem.W.InstAt s.heap x ox C od)(h:R (.ok<|.ret<|.ref C) s) :
 codeAny (model prog w) A (.call (.builtin "BaseException.__getattribute__") ([.ref x,.str "__class__" e],[])) R s:=by
 have l:PySem.W.findObj K C od "__class__" = some (.bind (.builtin "getset_descriptor.__get__")<|.builtin "object.__class__"):=mZ (by obtain ⟨q,g,_⟩:=PySem.W.any_some c.hd; rw[g]; rfl) c.cl c.hn c.tk;obtain ⟨f,j,d,t,k⟩:=s;have b:=I.type (M:=model prog w);have n:=PySem.W.looks_find (M:=model prog w) X I l;have o:PySem.W.Looks (model prog w) f (isInstance (.ref x)<|.type "BaseException") true:=b.andThen<|PySem.W.looks_mroIn X c.be;have p:=PySem.W.looks_mroIn (M:=model prog w) X c.be;refine codeAny_call_builtin F.excAttr_ValueError.ga.plain F.entry_bexc_ga ?_;have m:builtinKind "BaseException.__getattribute__" = some .slot:=by decide +kernel
 have a:splitId "BaseException.__getattribute__" = some ("BaseException", "__getattribute__"):=by decide +kernel
 have i:=F.args_bexc_ga (.ref x)<|.str "__class__" e
 simp only[checkBuiltinCall,m,a]
 refine qM<|o.at ?_
 simp only[Bool.not_true,r9,s9]
 refine wpAny_of_eq i ?_;refine qM<|qS<|qM<|qS<|qM<|b.at<|qM<|n.at ?_;exact qM<|rY<|wpAny_call<|PySem.W.class_get (s:=(f,j,d,t,k)) X I c.ob<|qS h
theorem eX(c:EJ K C){Q:Option Value->Shared->Prop}(X:K.In s.heap)(I:PySem.W.InstAt s.heap x ox C od)(h:Q (some<|.ref C) { s with toks:=s.toks+1 }):wpAny (model prog w) A (getAttr? (.ref x) "__class__") Q E s:=by
 have a:=I.type (M:=model prog w);have e:=PySem.W.looks_findIn (M:=model prog w) X c.ga;have f:=PySem.W.looks_findIn (M:=model prog w) X c.ha;obtain ⟨b,g,d,t,i⟩:=s;unfold getAttr? getAttrBy? getAttrBy;refine qM<|wpAny_mkText<|qM<|wpAny_attempt<|rY<|qM<|a.at<|qM<|e.at ?_;unfold getAttrByItsOwn;refine qM<|f.at ?_;refine qM<|wpAny_attempt<|rY ?_;show wpAny _ _ (boundAndCalled _ _ _) _ _ _;unfold boundAndCalled;refine qM<|wpAny_of_eq (F.excAttr_ValueError.ga.bind<|.ref x) ?_;refine wpAny_call<|dX (s:=(b,g,d,t+1,i)) c X I ?_;exact PySem.W.handed_on rfl<|qS h
theorem oS(c:EJ K C):PySem.W.KitX K (.ref x) (.ref C) (λh=>∃ox od,PySem.W.InstAt h x ox C od) where
 ty:=λ_ _ _ ⟨_,_,I⟩=>I.type
 it:=λ_ _ X _=>by
  obtain ⟨g,a,_⟩:=PySem.W.any_some c.hd;unfold PySem.W.clsIn at a
  split at a
  ·rename_i l m i b d
   intro t o r y k q;unfold isType loadHead;exact qM<|wpAny_loadPart (k _ _<|X _ _ d)<|qS q
  ·cases a
 ne:=λh u v j n p X f=>by
  obtain ⟨g,a,_⟩:=PySem.W.any_some c.hd;refine Bool.eq_false_iff.mpr λq=>?_;have e:=Value.ref.inj<|sV.mp q;subst e;unfold PySem.W.clsIn at a
  split at a
  ·rename_i l m i b d
   exact nomatch (X _ _ d).symm.trans f
  ·cases a
 ca:=λX ⟨_,_,I⟩ k=>eX c X I k
end
def Tr(h B:Heap)(e:Addr)(b g:Value)(dd:Option Addr)(i:Value):Prop :=
 ∃a c T d f,h.get? e=some a/\a.cls=b/\a.dict=dd/\a.data = .fields c/\c[0]?=some g/\c[1]?=some (.ref T)/\B.get? T=none/\T≠e/\h.get? T=some d/\d.data = .fields f/\f[3]?=some i
theorem oR(o:Obj)(f):(o.mapFields f).dict=o.dict:=by
 obtain ⟨c,d,a,b⟩:=o
 cases a <;> rfl
theorem KJ{h:Heap}{a:Addr}{o:Obj}{vs:Array Value}(f:Array Value->Array Value)(c:h.get? a=some o)(d:o.data = .fields vs):h.UpToSlots (h.update a<|Obj.mapFields f):=λb u e n =>
 (u.slots,by
  rw[q9 _ _ λz=>by subst z;rw[c] at e;cases e;exact n vs d];exact e)
theorem JW{h h' B:Heap}(u:h.UpToSlots h')(f:h.FunFrames B l):h'.FunFrames B l:=f.of_keeps λb o e n=>let ⟨sl,q⟩:=u b o e n;(_,q,rfl)
section
variable{M:Model}{A:Around}{E:Value->Shared->Prop}{s:Shared}{B:Heap}{env:Env}{outer:List Env}{L e:Addr}{oe:Obj}{vs:Array Value}{cls a0:Value}{dd:Option Addr}{Q:Unit->Shared->Prop}
theorem VD(x:A.frames=some (env::outer))(m:s.heap.FunFrames B (env::outer))(I:env.frame=some L)(C:s.heap.get? e=some oe)(st:B.StaysIn s.heap)(H:B.get? e=none)(f:oe.data = .fields vs)
 (K:vs[0]?=some a0) (G:1<vs.size) (k:∀h',B.StaysIn h'->h'.FunFrames B (env::outer)->Tr h' B e oe.cls a0 oe.dict (rawInt L)->s.heap.UpToSlots h'->Q () { s with heap:=h' }) :
 wpAny M A (do let a ← frameOf env; let r ← entryPlaceOf L J; let b ← EntryCells.newEntry j a .none (rawInt L) .none r; setField (.ref e) 1 b) Q E s:=by
 have g:e∉(env::outer).filterMap (·.frame):=λv=>by
  obtain ⟨_,o,y,n⟩:=m.mem v;rw[C] at y; cases y; exact n vs f
 refine qM<|wpAny_frameOf_fun x m I λd u=>qM<|wpAny_entryPlaceOf λr t=>?_;have D:s.heap.UpToSlots d:=λb o q _=>u.2.2 b o q;have i:B.StaysIn d:=λb o q=>(u.2.1 b λv=>by rw[(m.mem v).1] at q; cases q).trans<|st b o q;have l:d.get? e=some oe:=(u.2.1 e g).trans C;unfold EntryCells.newEntry newFields;refine qM<|wpAny_newObj_type ?_<|t.sizeOk5 _ _ _ _ _;generalize ht:([j,Value.ref L,.none,rawInt L,.none]++(if r.isEmpty then List.replicate 6 Value.none else r)).toArray=p;have w:p[3]?=some (rawInt L):=by rw[<-ht]; simp
 have c:=qJ (h:=d) { cls:=.type "traceback", dict:=none,data:=.fields p } l;refine wpAny_setField c f G<|k _ ?_ ?_ ?_ ?_
 ·intro b o q
  rw[q9 _ _ λz=>by subst z; rw[H] at q; cases q];exact qJ _<|i b o q
 ·exact JW ((D.trans<|.of_keeps λb o q=>qJ _ q).trans<|KJ _ c f) m
 ·have F:d.objs.size≠e:=Nat.ne_of_gt<|qN l
  refine (_,_,d.objs.size,{ cls:=.type "traceback", dict:=none,data:=.fields p },p,Heap.get?_update_self _ c<|Obj.isFreed_of_fields<|Obj.data_mapFields f _,Obj.cls_mapFields _ _,oR _ _,Obj.data_mapFields f _,?_,?_,i.fresh,F,?_,rfl,w)
  ·rw[Array.getElem?_setIfInBounds_ne ∅]; exact K
  ·simp[G]
  ·rw[q9 _ _<|rC F]
   exact qO d rfl
 ·exact (D.trans<|.of_keeps λb o q=>qJ _ q).trans (KJ _ c f)
theorem kZ(a:A.frames=some (env::outer))(h:s.heap.FunFrames B (env::outer))(f:env.frame=some L)(d:s.heap.get? e=some oe)(st:B.StaysIn s.heap)(g:B.get? e=none)(c:oe.data = .fields vs)
 (i:vs[0]?=some a0) (b:vs[1]?=some .none) (k:∀h',B.StaysIn h'->h'.FunFrames B (env::outer)->Tr h' B e oe.cls a0 oe.dict (rawInt L)->s.heap.UpToSlots h'->Q () { s with heap:=h' }) :
 wpAny M A (noteFrame (.ref e) env) Q E s:=by
 unfold noteFrame
 simp only[f]
 refine qM<|wpAny_field d c b ?_;rw[qI ∅];exact VD a h f d st g c i (rZ.mp b).1 k
theorem eL(i:A.frames=some (env::outer))(v:s.heap.FunFrames B (env::outer))(l:env.frame=some L)(r:Tr s.heap B e cls a0 dd .none)(st:B.StaysIn s.heap)(t:B.get? e=none)
 (k:∀h',B.StaysIn h'->h'.FunFrames B (env::outer)->Tr h' B e cls a0 dd (rawInt L)->s.heap.UpToSlots h'->Q () { s with heap:=h' }):wpAny M A (noteFrame (.ref e) env) Q E s:=by
 obtain ⟨oe,vs,T,y,C,j,rfl,rfl,p,x,n,w,h,g,f,m⟩:=r;unfold noteFrame
 simp only[l]
 refine qM<|wpAny_field j p n ?_;rw[qK (show (Value.ref T != Value.none)=true from by simp)];refine qM<|wpAny_field g f m ?_;rw[qI (show ¬((Value.none==rawInt L)=true) from by simp[rawInt])];have u:=KJ (·.setIfInBounds 3 Value.none) g f;refine qM<|wpAny_setField g f (rZ.mp m).1<|VD (s:={ s with heap:=s.heap.update T (Obj.mapFields (·.setIfInBounds 3 Value.none)) }) i (JW u v) l (by rw[q9 _ _ h]; exact j) (λb o q=>?_) t p x (rZ.mp n).1 λh' a b c d=>k h' a b c<|u.trans d;rw[q9 _ _ λz=>by subst z; rw[w] at q; cases q];exact st b o q
theorem dR(r:s.heap.FunFrames B l)(p:Tr s.heap B e cls a0 dd h)(st:B.StaysIn s.heap)
 (k:∀h',B.StaysIn h'->h'.FunFrames B l->Tr h' B e cls a0 dd .none->s.heap.UpToSlots h'->Q () { s with heap:=h' }):wpAny M A (setFlight (.ref e) none) Q E s:=by
 obtain ⟨oe,vs,T,w,x,i,rfl,rfl,n,v,m,j,d,g,a,t⟩:=p;have c:=(rZ.mp t).1;have u:=KJ (·.setIfInBounds 3 ((none:Option Addr).elim Value.none λf=>rawInt f)) g a;unfold setFlight;refine qM<|wpAny_field i n m ?_;rw[qK (show (Value.ref T != Value.none)=true from by simp)];refine wpAny_setField g a c<|k _ (λb o q=>?_) (JW u r) (oe,vs,T,_,_,?_,rfl,rfl,n,v,m,j,d,Heap.get?_update_self _ g<|Obj.isFreed_of_fields<|Obj.data_mapFields a _,Obj.data_mapFields a _,by simp[c]) u
 ·rw[q9 _ _ λz=>by subst z; rw[j] at q; cases q]
  exact st b o q
 ·rw[q9 _ _ d]; exact i
end
structure Eh (P:Program) (w:World) (B:Heap) (l:List Env) (H:Hp) (h:Heap) (e t:Addr) (cls:Value) (dd:Option Addr) (fl:Value):Prop where
 hok:Cm P w H h
 st:B.StaysIn h
 nb:B.get? e=none
 fr:h.FunFrames B l
 tr:Tr h B e cls (.ref t) dd fl
 tk:∀b u,H b=some u->∃o,B.get? b=some o
theorem MA{B:Heap}(x:Cm P w H h)(st:B.StaysIn h)(c:B.StaysIn h')(i:∀b u,H b=some u->∃o,B.get? b=some o):Cm P w H h':=λa o e =>
 (x a o e).stay (λb u hb q=>by
  have:∃v,H b=some v:=by
   rcases hb with rfl|hb
   ·exact (o,e)
   ·exact (_,hb)
  obtain ⟨v,g⟩:=this;obtain ⟨d,z⟩:=i b v g;have f:=(st b d z).symm.trans q
  cases f
  exact c b _ z) (λ_ q=>q) λ_ _ q=>q
def EL(P:Program)(w:World):Gs:=λa H s E h d =>
 ∃(e t:Addr) (c:Value) (g:Option Addr) (f:Hp) (B:Heap),h = .ref e/\d.os=s.os/\AllBare d.gens/\Un (BH a) [] H f s.heap d.heap/\Eh P w B a f d.heap e t c g .none ∧
  (∀b o,s.heap.get? b=some o->H b=none->b∉BH a->B.get? b=some o)/\(∀b o,s.heap.get? b=some o->b∉BH a->∃i,B.get? b=some i)/\E c g f
section
variable{M:Model}{A:Around}{E:Value->Shared->Prop}{s:Shared}{P:Program}{w:World}{B:Heap}{env:Env}{outer:List Env}{H:Hp}{L e t:Addr}{cls:Value}{dd:Option Addr}{fl:Value}{Q:Unit->Shared->Prop}{B0:Heap}
theorem Eh.note(a:Eh P w B (env::outer) H s.heap e t cls dd .none)(b:A.frames=some (env::outer))(h:env.frame=some L)(k:∀h',Eh P w B (env::outer) H h' e t cls dd (rawInt L)->s.heap.UpToSlots h'->Q () { s with heap:=h' }) :
 wpAny M A (noteFrame (.ref e) env) Q E s :=
 eL b a.fr h a.tr a.st a.nb λh' c g d f=>k h' (MA a.hok a.st c a.tk,c,a.nb,g,d,a.tk) f
theorem Eh.off(a:Eh P w B l H s.heap e t cls dd fl)(k:∀h',Eh P w B l H h' e t cls dd .none->s.heap.UpToSlots h'->Q () { s with heap:=h' }):wpAny M A (setFlight (.ref e) none) Q E s :=
 dR a.fr a.tr a.st λh' b f c d=>k h' (MA a.hok a.st b a.tk,b,a.nb,f,c,a.tk) d
theorem Eh.leave(a:Eh P w B (env::outer) H s.heap e t cls dd .none)(c:A.frames=some (env::outer))(l:env.frame=some L)(k:∀h',Eh P w B outer H h' e t cls dd .none->s.heap.UpToSlots h'->Q () { s with heap:=h' }) :
 wpAny M A (leaving env<|.ref e) Q E s:=by
 unfold leaving;refine qM<|a.note c l λd g h=>?_;refine Eh.off (s:={ s with heap:=d }) g λj b f=>?_;obtain ⟨_,_,i⟩:=b.fr;exact k j (b.hok,b.st,b.nb,i,b.tr,b.tk)<|h.trans f
theorem iM{c:Heap}(g:Cm P w H c)(j:c.FunFrames B0 (env::outer))(d:Heap.MadeExcOf c s.heap e cls vs)(J:∀b∈BH (env::outer),H b=none)(m:A.frames=some (env::outer))(T:env.frame=some L)
 (k:∀h' t,Eh P w (PySem.W.hideAll c<|BH (env::outer)) (env::outer) H h' e t cls none (rawInt L)->c.UpToSlots h'->Q () { s with heap:=h' }):wpAny M A (noteFrame (.ref e) env) Q E s:=by
 obtain ⟨t,I,_,_⟩:=d.there;have CY:(PySem.W.hideAll c<|BH (env::outer)).StaysIn c:=λb o q=>PySem.W.of_hideAll _ q;have U:(PySem.W.hideAll c<|BH (env::outer)).StaysIn s.heap:=λb o q=>d.keeps b o<|CY b o q;have r:∀b u,H b=some u->∃o,(PySem.W.hideAll c<|BH (env::outer)).get? b=some o:=λb u q=>by
  have lt:=g.lt q;obtain ⟨o,ho⟩:∃o,c.get? b=some o:=by
   have x:=g b u q
   cases u with
   | lst N=>obtain ⟨_,_,_,_,z⟩:=x; exact (_,z)
   | tup N=>obtain ⟨_,_,_,o,z,_⟩:=x; exact (_,z)
   | dK l=>obtain ⟨_,_,_,_,o,_,_,z,_⟩:=x; exact (_,z)
   | dT l=>obtain ⟨_,_,_,_,o,_,_,z,_⟩:=x; exact (_,z)
   | set S n=>obtain ⟨o,_,_,_,z,_⟩:=x; exact (_,z)
   | ins C W R=>obtain ⟨_,_,_,z,_⟩:=x; exact (_,z)
   | own y=>obtain ⟨_,z⟩:=x; exact (_,z)
   | xd R=>obtain ⟨_,⟨_,_,_,z,_⟩,_⟩:=x; exact (_,z)
   | rng Z X=>obtain ⟨_,_,_,z⟩:=x; exact (_,z)
   | frz Y v=>obtain ⟨z,_⟩:=x; exact (_,z)
   | tbl ps=>exact Or.elim x (λz=>(_,z)) λ⟨_,_,_,_,_,_,_,_,_,z,_⟩=>(_,z)
   | met f y=>exact (_,(show c.get? b=some _ from x))
   | ext φ=>obtain ⟨_,⟨_,z⟩,_⟩:=x; exact (_,z)
  exact (o,PySem.W.hideAll_get _ ho λd=>by rw[J b d] at q; cases q)
 have p:(PySem.W.hideAll c<|BH (env::outer)).get? e=none:=by
  cases q:(PySem.W.hideAll c<|BH (env::outer)).get? e with
  | none=>rfl
  | some o=>have:=CY e o q; rw[d.new] at this; cases this
 have i:c.FunFrames (PySem.W.hideAll c<|BH (env::outer)) (env::outer):=PySem.W.funFrames_hide j λx K a D=>List.mem_filterMap.mpr (x,K,D);refine kZ m (JW (.of_keeps d.keeps) i) T I U p rfl rfl rfl λh' h O F G=>?_;exact k h' t (MA g CY h r,h,p,O,F,r)<|(Heap.UpToSlots.of_keeps d.keeps).trans G
end
theorem RL{env:Env}{a:List Env}{L b:Addr}(c:env.frame=some L):b∈BH (env::a)↔b=L\/b∈BH a:=by
 unfold BH;rw[rV,c,Qd]
section
variable{X:Cx}{pins:List (Addr×Obj)}{σ:St}{H1 H2:Hp}{s1:Shared}{B h2 h3:Heap}
theorem mB(U:Un (BH X.stack) [] H1 H2 s1.heap h2)(l:h2.FunFrames B X.stack)(k:h2.UpToSlots h3)(st:B.StaysIn h3)(j:∀b o,s1.heap.get? b=some o->H1 b=none->b∉BH X.stack->B.get? b=some o)
 (g:∀b o,s1.heap.get? b=some o->b∉BH X.stack->∃c,B.get? b=some c):Un (BH X.stack) [] H1 H2 s1.heap h3 where
 keep:=λb o q n a _=>st b o<|j b o q n a
 slot:=λb o q n a m=>by
  obtain ⟨p,e⟩:=U.slot b o q n a m;obtain ⟨_,c,d,i⟩:=l.mem a;rw[e] at d
  cases d
  obtain ⟨f,h⟩:=k b _ e i;exact (f,h)
 free:=U.free
 there:=λb o q m=>by
  by_cases a:b∈BH X.stack
  ·obtain ⟨_,c,d,i⟩:=l.mem a
   obtain ⟨p,h⟩:=k b _ d i;exact (_,h)
  ·obtain ⟨c,z⟩:=g b o q a
   exact (c,st b c z)
 tups:=U.tups
 frzs:=U.frzs
 tbls:=U.tbls
theorem Sb(I:Inv X pins σ H1 s1)(a:X.ex=[])(l:X.stack=X.env::X.outer)(m:X.env.frame=some X.env.locals)(U:Un (BH X.stack) [] H1 H2 s1.heap h2)(v:h2.FunFrames B X.stack)(t:h2.UpToSlots h3)(st:B.StaysIn h3)
 (h:∀b o,s1.heap.get? b=some o->H1 b=none->b∉BH X.stack->B.get? b=some o) (g:∀b o,s1.heap.get? b=some o->b∉BH X.stack->∃f,B.get? b=some f) :
 Un X.fs [] X.H₀ H2 X.s₀.heap h3/\(∀b o,X.s₀.heap.get? b=some o->X.H₀ b=none->b∉X.fs->B.get? b=some o)/\∀b o,X.s₀.heap.get? b=some o->b∉X.fs->∃f,B.get? b=some f:=by
 have V:=mB U v t st h g;have d:Un X.fs [] X.H₀ H1 X.s₀.heap s1.heap:=by have:=I.base; rw[a] at this; exact this
 have r:∀b o,X.s₀.heap.get? b=some o->b≠X.env.locals:=λb o q z=>by
  subst z;exact absurd (Q9 (qN q) I.ok.above)<|Qs _
 have j:∀b o,X.s₀.heap.get? b=some o->b∉X.fs->b∉BH X.stack:=λb o q c z=>by
  rw[l] at z;rcases (RL m).mp z with e | e
  ·exact r b o q e
  ·exact c e
 have k:∀b,b∈X.fs->b∈BH X.stack:=λb c=>by rw[l]; exact (RL m).mpr<|.inr c
 refine ((λb o q n c a=>?_,λb o q n c a=>?_,λb o q n a=>?_,λb o q a=>?_,λb p q=>V.tups b p<|d.tups b p q,λb o u q=>V.frzs b o u<|d.frzs b o u q,λb x q=>?_),λb o q n c=>?_,λb o q c=>?_)
 ·exact V.keep b o (d.keep b o q n c a) (d.free b o q n a) (j b o q c) a
 ·obtain ⟨D,e⟩:=d.slot b o q n c a
  obtain ⟨i,s⟩:=V.slot b _ e (d.free b o q n a) (k b c) a;exact (i,s)
 ·obtain ⟨f,e⟩:=d.there b o q a
  exact V.free b f e (d.free b o q n a) a
 ·obtain ⟨f,e⟩:=d.there b o q a
  exact V.there b f e a
 ·obtain ⟨C,A⟩:=d.tbls b x q
  obtain ⟨y,w⟩:=V.tbls b _ A;exact (C++y,by rw[w,Array.append_assoc])
 ·exact h b o (d.keep b o q n c (by simp)) (d.free b o q n (by simp)) (j b o q c)
 ·obtain ⟨f,e⟩:=d.there b o q (by simp)
  exact g b f e<|j b o q c
end
section
variable{P:Program}{w:World}{K:Ac}{mg:Ai}{base:Heap}{N:List Str}{qual:Str}{scope:Scope}{f:Addr}{cd:Value}{A:Around}{outer:List Env}{s:Shared}{H:Hp}{E:XK}
abbrev F1(P:Program)(w:World)(K:Ac)(mg:Ai)(base:Heap)(N:List Str)(qual:Str)(scope:Scope)(f:Addr)(cd:Value)(A:Around)(outer:List Env)(s:Shared)(H:Hp)(E:XK):Cx :=
 Gi (EL P w) P w K mg base N qual scope f cd A outer s H E
def Iq(X:Cx)(E:St->XK):Prop:=∀(a:List (Addr×Obj)) (b:St) (H:Hp) (s:Shared) (e:Value) (c:Shared),Inv X a b H s->EL X.prog X.w X.stack H s (E b) e c->X.xe e c
theorem i5:Iq (F1 P w K mg base N qual scope f cd A outer s H E) λ_=>E:=by
 intro j v x C y D I h;obtain ⟨e,t,d,r,l,B,rfl,n,b,U,a,i,c,q⟩:=h;have g:=I.ok.frames;refine Eh.leave (L:=s.heap.objs.size) a g rfl λz k m=>?_;obtain ⟨u,p,o⟩:=Sb I rfl rfl rfl U a.fr m k.st i c;exact (e,t,d,r,l,B,rfl,n.trans I.os,b,u,k,p,o,q)
theorem HV:Iq X λ_=>E0:=λ_ _ _ _ _ _ _ ⟨_,_,_,_,_,_,_,_,_,_,_,_,_,q⟩=>q.elim
def UU(X:Cx)(E:XK):Prop:=∀(a:List (Addr×Obj)) (d:St) (H:Hp) (s:Shared) (c:Heap) (e:Addr) (b:Value) (g:List Value),Inv X a d H s->Heap.MadeExcOf s.heap c e b g->E b none H->X.xe (.ref e) { s with heap:=c }
theorem JX:UU (F1 P w K mg base N qual scope f cd A outer s H E) E:=by
 intro j G D k n e d L I p q;show wpAny (model P w) (A.deeper<|envOfC qual scope s.heap.objs.size f cd) (leaving (envOfC qual scope s.heap.objs.size f cd)<|.ref e) _ _ _;have i:=I.ok.frames;unfold leaving;refine qM<|iM (s:={ k with heap:=n }) I.hok I.stack p I.stkFree i rfl λB t F v=>?_;refine Eh.off (s:={ k with heap:=B }) F λJ c C=>?_;obtain ⟨_,_,m⟩:=c.fr;have g:=PySem.W.funFrames_hide I.stack λx z a l=>List.mem_filterMap.mpr (x,z,l);obtain ⟨u,y,r⟩:=Sb I rfl rfl rfl .refl g (v.trans C) c.st (λb o e _ h=>PySem.W.hideAll_get _ e h)<|λb o e h=>(o,PySem.W.hideAll_get _ e h);exact (e,t,d,none,D,_,rfl,I.os,I.bare,u,(c.hok,c.st,c.nb,m,c.tr,c.tk),y,r,q)
theorem AS.toX{f:Addr}(F:AS P w K mg base DW k f b ps sp):AS P w K mg base (EL P w) k f b ps sp :=
 (F.len,λA outer s H a d m Q E j g l i c=>codeAny_mono (F.run A outer s H a d m Q E j g l i c) λr n q=>by
  cases r with
  |error e=>exact False.elim q
  |ok h=>cases h <;> exact q)
theorem BT.okx{x qual:Str}{st:Stmt}{f:Addr}{N ps:List Str}{sp:Sp}(F:BT K x qual st f g)(S:Aa N ps (Ao st))(e:∀vs H Q E,sp vs H Q E->vs.length=ps.length)
 (b:∀(a:Value) (A:Around) (outer:List Env) (s:Shared) (H:Hp) (vs:List V) (Q:VK) (E:XK),Av k (A.deeper<|envOfC qual (Ao st) s.heap.objs.size f a)->sp vs H Q E →
  ∃t,CT (F1 P w K mg base N qual (Ao st) f a A outer s H E) (CL st) t/\t { nx:=λ_ i=>Q .non i,rt:=Q } (start N vs) H):AS P w K mg base (EL P w) (k+1) f g ps sp:=by
 obtain ⟨p,n,kV,j,pm,o,a,q,l,rfl,m,c⟩:=F.ex;exact fn_of m c S e λA outer s H vs Q E h d=>b a A outer s H vs Q E h d
end
structure C1 (P:Program) (w:World) (K:Ac) (mg:Ai) (base:Heap) (x:Str) (k:Nat) (ps:List Str) (sp:Sp):Prop where
 ex:∃(f:Addr) (fd:FuncData),AS P w K mg base (EL P w) k f fd ps sp/\mg x=some (.ref f)/\PySem.W.keepIn K (.ref f)=true/\AB K fd ps []
structure Au (P:Program) (w:World) (K:Ac) (mg:Ai) (base:Heap) (C:Addr) (m:Str) (k:Nat) (ps:List Str) (dvs:List V) (sp:Sp):Prop where
 ex:∃(f:Addr) (fd:FuncData) (ds:List Value),AS P w K mg base (EL P w) k f fd ps sp/\Fa K C m f/\AB K fd ps ds/\Al dvs ds
section
variable{P:Program}{w:World}{K:Ac}{mg:Ai}{base:Heap}{x m qual:Str}{C:Addr}{st:Stmt}{j k:Nat}{ps:List Str}{dvs:List V}{sp:Sp}
theorem AF.toX(h:AF P w K mg base x k ps sp):C1 P w K mg base x k ps sp:=let ⟨f,fd,a,b,c,d⟩:=h.ex;(f,fd,a.toX,b,c,d)
theorem AC.toX(h:AC P w K mg base C m k ps dvs sp):Au P w K mg base C m k ps dvs sp:=let ⟨f,fd,ds,a,b,c,d⟩:=h.ex;(f,fd,ds,a.toX,b,c,d)
theorem C1.mono(h:C1 P w K mg base x j ps sp)(e:j<=k):C1 P w K mg base x k ps sp:=let ⟨f,fd,a,b,c,d⟩:=h.ex;(f,fd,a.mono e,b,c,d)
theorem Au.mono(h:Au P w K mg base C m j ps dvs sp)(e:j<=k):Au P w K mg base C m k ps dvs sp:=let ⟨f,fd,ds,a,b,c,d⟩:=h.ex;(f,fd,ds,a.mono e,b,c,d)
theorem Ae.hasX(h:Ae K mg x st)(b:∀f a,BT K x x st f a->AB K a ps [])(c:∀f a,BT K x x st f a->AS P w K mg base (EL P w) k f a ps sp):C1 P w K mg base x k ps sp :=
 let ⟨f,a,F,m⟩:=h.ex
 (f,a,c f a F,m,F.kp,b f a F)
theorem Am.hasMX(h:Am K C m qual st)(b:∀f a,BT K m qual st f a->AB K a ps [])(c:∀f a,BT K m qual st f a->AS P w K mg base (EL P w) k f a ps sp):Au P w K mg base C m k ps [] sp :=
 let ⟨f,a,F,M⟩:=h.ex
 (f,a,[],c f a F,M,b f a F,.nil)
end
section
variable{X:Cx}{k:Nat}{f C:Addr}{fd:FuncData}{ps:List Str}{sp:Sp}{dvs:List V}{ds:List Value}{E:St->XK}{x m:Str}{p pos apos:Pos}{e o:Expr}{es:List Expr}{ta:TE}{t:TA}
theorem WA(F:AS X.prog X.w X.K X.mg X.base (EL X.prog X.w) k f fd ps sp)(g:Av k X.A)(n:AB X.K fd ps ds)(i:Al dvs ds)(j:Iq X E)
 (I:Inv X a σ H s) (r:Al vs us) (h:sp (vs++dvs) H Q (E σ)):wpAny (model X.prog X.w) X.A (call (.ref f) us) (EP X a σ Q) X.xe s:=by
 have c:=r.append i;have l:(us++ds).length=ps.length:=by rw[<-c.length]; exact F.len _ _ _ _ h
 refine wpAny_call<|codeAny_mono (F.run X.A X.stack s H (us,[]) (us++ds) (vs++dvs) Q (E σ) g I.env0 (n s us I.kIn l) c h) λr q b=>?_
 cases r with
 | error e=>exact j a σ H s e q I b
 | ok d =>
  cases d with
  | ret u=>exact I.after b
  | next=>exact False.elim b
  | brk=>exact False.elim b
  | cont=>exact False.elim b
theorem KF(h:C1 X.prog X.w X.K X.mg X.base x k ps sp)(y:Iq X E)(u:Av k X.A)(j:Gl X x)(i:PA X (e::es) t)(b:(x==("__debug__" : Str))=false:=by decide)
 (l:starEach (e::es) X.env=(false,eval e X.env)::starEach es X.env:=by rfl) (c:(backTo pos<|starEach es X.env).any (·.1)=false:=by rfl) :
 PE X (.Call (.Name x p) (e::es) [] pos) (λσ H Q=>t σ H λvs d=>sp vs d Q<|E σ):=by
 obtain ⟨f,fd,F,n,w,v⟩:=h.ex;intro a s σ H Q I h;refine q8<|Ii I j n ?_ b;refine sU (h₀:=X.base) I.ok.mod.kin w (Ax (i pos a s σ H _ I h) λz A ⟨vs,d,g,r,q⟩=>(g.kIn,?_)) l c;exact WA (dvs:=[]) F u v .nil y g r (by rw[Wu]; exact q)
inductive Ra (P:Program) (w:World) (K:Ac) (mg:Ai) (base:Heap) (m:Str) (k:Nat) (x:V) (H1:Hp) (R:List V->Sp->Prop):Prop
 |mk (a C:Addr) (dx:_) (fs:_) (ps:List Str) (dvs:List V) (sp:Sp) (_:x = .ref a) (_:H1 a=some (.ins C dx fs)) (_:BV K C) (_:Au P w K mg base C m k ps dvs sp) (_:fs.lookup m=none) (_:R dvs sp):Ra P w K mg base m k x H1 R
def mV(P:Program)(w:World)(K:Ac)(mg:Ai)(base:Heap)(m:Str)(k:Nat)(E:St->XK)(ta:TE)(t:TA):TE:=λa H Q=>ta a H λx b=>Ra P w K mg base m k x b λdvs sp=>t a b λd c=>sp (x::(d++dvs)) c Q<|E a
theorem P4(y:PE X o ta)(J:Iq X E)(D:Av k X.A)(w:PA X (e::es) t)
 (d:starEach (e::es) X.env=(false,eval e X.env)::starEach es X.env:=by rfl) (g:(backTo pos<|starEach es X.env).any (·.1)=false:=by rfl)
 (A:eval (.Call (.Attribute o m apos) (e::es) [] pos) X.env=(do
  let ov ← eval o X.env
  standAt apos.atName
  let (f,first) ← holding [ov] (getMethod ov m pl)
  callWith pos f first (backTo pos<|starEach (e::es) X.env) (backToKw pos<|keywordEach [] X.env)):=by rfl) :
 PE X (.Call (.Attribute o m apos) (e::es) [] pos) (mV X.prog X.w X.K X.mg X.base m k E ta t):=by
 intro b s n H Q I h;refine PySem.W.methodCall_KW (pl:=pl) (Ax (y b s n H _ I h) λu N ⟨x,P,v,L,a,C,S,U,ps,dvs,sp,B,K,c,O,l,q⟩=>?_) A;subst B;obtain rfl:u=Value.ref a:=L;obtain ⟨f,fd,ds,F,i,M,G⟩:=O.ex;refine Vc v K c i l ?_;refine sU (first:=[.ref a]) (h₀:=X.base) I.ok.mod.kin i.kp (Ax (w pos b N n P _ v q) λus T ⟨vs,R,j,r,z⟩=>(j.kIn,?_)) d g;exact WA (us:=.ref a::us) (vs:=.ref a::vs) F D M G J j (.cons rfl r) z
end
abbrev Vm:List Value:=[.type "ValueError", .type "Exception", .type "BaseException", .type "object"]
structure CD (K:Ac) (mg:Ai) (x:Str) (C:Addr):Prop where
 cls:EJ K C
 mgx:mg x=some (.ref C)
 ein:PySem.W.excIn K C Vm "ValueError.__new__"=true
theorem CD.obj{K:Ac}(c:CD K mg x C){h:Heap}(X:K.In h):OwnCls x C Vm "ValueError.__new__" mg h:=by
 refine (c.mgx,?_);have q:=c.ein;unfold PySem.W.excIn at q
 split at q
 ·rename_i H u o B
  split at q
  ·rename_i J t y E z r n D g k
   simp only[sN,sV,Bool.not_eq_true'] at q
   obtain ⟨⟨⟨⟨⟨rfl,rfl⟩,a⟩,m⟩,b⟩,d⟩:=q;obtain ⟨A,w,F,i,I,s,G,f,j,e,p⟩:=u
   dsimp only at g a b d
   subst g a;obtain ⟨l⟩:=o;have v:=k;subst v;exact (t,i,A,I,w,s,G,f,j,e,H,y,E,z,r,D,_,X _ _ B,.of_isNs<|PySem.W.isNs_of_in X b,PySem.W.nsMap_none_of_in X b d,PySem.W.tail_of_in X m)
  ·cases q
 ·cases q
section
variable{X:Cx}{k:Nat}{C:Addr}{ps:List Str}{sp:Sp}{x m:Str}{p pos np cpos:Pos}{e:Expr}{es:List Expr}{t:TA}
theorem Kn(c:CD X.K X.mg x C)(o:UU X E)(b:X.calm=true)(n:Gl X x)(l:PA X (e::es) t)(O:(e::es).length<=1000:=by decide)
 (j:starEach (e::es) X.env=(false,eval e X.env)::starEach es X.env:=by rfl) (i:(backTo cpos<|starEach es X.env).any (·.1)=false:=by rfl) (f:(x==("__debug__" : Str))=false:=by decide) :
 PS X (.Raise (some<|.Call (.Name x np) (e::es) [] cpos) none pos) (λ_ σ H=>t σ H λvs L=>vs.length<=1000/\E (.ref C) none L):=by
 intro a s σ H D I h;obtain ⟨bm,N,nm,q,bs,hdct,sn,sub,ab,col,dd,k0,k1,k2,k3,k5,mN,K,A,g,T⟩:=(c.obj I.mod.kin).obj;refine wpAny_Raise_call_subT (C:=C) (nm:=nm) (q:=q) (N:=N) (bs:=bs) (bm:=bm) (hdct:=hdct) (sn:=sn) (sub:=sub) (ab:=ab) (col:=col) (dd:=dd) (k0:=k0) (k1:=k1) (k2:=k2) (k3:=k3) (k5:=k5) PySem.F.excBase_ValueError
  (mN:=mN) (T.hasType PySem.F.excBase_ValueError.hasBase) (I.ok.hd b) (by rw[j]; show (false||(backTo cpos<|starEach es X.env).any (·.1))=false; rw[i]; rfl) g (Ii I n c.mgx (rfl,?_) f)
 have z:=l cpos a s σ H _ I h;rw[j] at z ⊢;refine Calls.evalArgs_plain<|rE z (λM B ⟨vs,u,d,r,J,v⟩=>(rfl,?_,d.bk _ _ K,A.keeps d.bk,T.keeps d.bk,λG F w=>o a σ u B G F _ _ d w v)) λ_ _ y=>y;rw[<-r.length];exact Wf<|FX J
end
def SK(e C:Addr)(dd:Option Addr):HO:=.ext λh=>∃a b,h.get? e=some a/\a.cls = .ref C/\a.dict=dd/\a.data = .fields b
inductive Ob (K:Ac) (H:Hp):V->Value->Prop where
 |of {x:V} {t:Value} (h:Et K H x t):Ob K H x t
 |exc {e C:Addr} (h:H e=some (SK e C none)) (c:EJ K C):Ob K H (.ref e) (.ref C)
inductive Ld (K:Ac) (H:Hp) (t:Value):V->Bool->Prop where
 |ty {T:String} {b:Bool} (h:PySem.W.kitOne K t (.type T)=some b):Ld K H t (.ty T) b
 |ref {C:Addr} {b:Bool} (h:PySem.W.kitOne K t (.ref C)=some b):Ld K H t (.ref C) b
 |tup {tp:Addr} {cs:Ay} {b:Bool} (h:H tp=some (.tup (cs.map V.ref))) (q:PySem.W.kitAny K t (cs.map Value.ref)=some b):Ld K H t (.ref tp) b
theorem So:∀ {a:Ay} {us:List Value},Al (a.map V.ref) us->us=a.map Value.ref
 | [],_,.nil=>rfl
 |_::_,_,.cons r t=>by cases (show _=Value.ref _ from r);rw[So t];rfl
section
variable{X:Cx}
theorem Fb:EC X (.builtin "isinstance") (λxs H Q=>∃x c t b,xs=[x,c]/\Ob X.K H x t/\Ld X.K H t c b/\Q (.bl b) H):=by
 intro m s P H xs us Q I r h;obtain ⟨x,c,t,b,rfl,ty,v,q⟩:=h;obtain ⟨u,A,rfl,d,w⟩:=IU r;have l:∀D,EP X m P Q (.bool b) { s with toks:=D }:=λD=>(.bl b,H,I.tok _,rfl,q);obtain ⟨G,Z,g,hb⟩:∃G:Heap->Prop,PySem.W.KitX X.K u t G/\G s.heap/\u ≠ .builtin "__main__.__loader__#opaque":= by
  cases ty with
  |exc K c =>
   rename_i e C
   cases (show u=Value.ref e from d)
   obtain ⟨⟨oe,N,U,a2,E,S⟩,_,_⟩:=(show AG X.prog X.w H s.heap e (SK e C none) from I.hok e _ K);refine (_,oS c,(oe,none,U,a2,?_,?_),λz=>nomatch z)
   ·unfold PySem.W.notCls;rw[S]
   ·rw[E];trivial
  |of ty =>
   cases ty with
   |non=>cases (show u=Value.none from d);exact (_,PySem.W.kitx_none,True.intro,λz=>nomatch z)
   |bl y=>cases (show u=Value.bool y from d);exact (_,PySem.W.kitx_bool,True.intro,λz=>nomatch z)
   |int i=>obtain ⟨t,q⟩:=(show ∃t,u=Value.int i t from d);cases q;exact (_,PySem.W.kitx_int,True.intro,λz=>nomatch z)
   |str y=>obtain ⟨t,q⟩:=(show ∃t,u=Value.str y t from d);cases q;exact (_,PySem.W.kitx_str,True.intro,λz=>nomatch z)
   |flt y=>obtain ⟨t,q⟩:=(show ∃t,u=Value.float y t from d);cases q;exact (_,PySem.W.kitx_float,True.intro,λz=>nomatch z)
   | @lst a xs ea =>
    cases (show u=Value.ref a from d)
    obtain ⟨_,_,n,_,f⟩:=(show AG X.prog X.w H s.heap a (.lst xs) from I.hok a _ ea);exact (_,PySem.W.kitx_list,(_,f,rfl),λz=>nomatch z)
   | @frz a ob xs ea =>
    cases (show u=Value.ref a from d)
    obtain ⟨_,_,_,n,_,f⟩:=(show AG X.prog X.w H s.heap a (.frz ob<|.lst xs) from I.hok a _ ea);exact (_,PySem.W.kitx_list,(_,f,rfl),λz=>nomatch z)
   | @tup a xs ea =>
    cases (show u=Value.ref a from d)
    obtain ⟨_,_,_,p⟩:=(show AG X.prog X.w H s.heap a (.tup xs) from I.hok a _ ea);obtain ⟨o,f,j,_⟩:=p;exact (_,PySem.W.kitx_tuple,(o,f,j),λz=>nomatch z)
   | @dK a kvs ea =>
    cases (show u=Value.ref a from d)
    obtain ⟨_,_,N,_,p⟩:=(show AG X.prog X.w H s.heap a (.dK kvs) from I.hok a _ ea);obtain ⟨o,W,L,f,j,_⟩:=p;exact (_,PySem.W.kitx_dict,(o,f,j.1),λz=>nomatch z)
   | @dT a kvs ea =>
    cases (show u=Value.ref a from d)
    obtain ⟨_,_,xs,_,o,W,L,f,j,_⟩:=(show AG X.prog X.w H s.heap a (.dT kvs) from I.hok a _ ea);exact (_,PySem.W.kitx_dict,(o,f,j.1),λz=>nomatch z)
   | @ins a C dx fs ea cl ha hn htk hm =>
    cases (show u=Value.ref a from d)
    obtain ⟨mA,O,_⟩:=Jl I.hok ea;obtain ⟨M,J,_⟩:=O.look;exact (_,PySem.W.kitx_own (cl.get _) cl.hd ha hn htk hm,J,λz=>nomatch z)
 cases v with
 |ty k=>cases (show A=Value.type _ from w);exact rD Z I.kIn g k hb l
 |ref k=>cases (show A=Value.ref _ from w);exact rD Z I.kIn g k hb l
 | @tup tp cs b ht k =>
  cases (show A=Value.ref tp from w)
  obtain ⟨_,R,F,o,f,j,n,B⟩:=(show AG X.prog X.w H s.heap tp (.tup<|cs.map V.ref) from I.hok tp _ ht);obtain ⟨oc,M,Y,T⟩:=o
  dsimp only at j B
  subst j B;exact PySem.W.kia_tup Z I.kIn g f (by rw[So F];exact k) hb l
end
theorem kit_ref{K:Ac}{b:Bool}(c:(PySem.W.clsIn K D).isSome=true)(d:PySem.W.typeIn K (.ref D)=some (.type "type")) (e:PySem.W.mroIn K C (.ref D)=some b) (a:C≠D):PySem.W.kitOne K (.ref C) (.ref D)=some b:=by
 unfold PySem.W.kitOne PySem.W.kitCls;rw[qI<|λz=>a<|Value.ref.inj<|sV.mp z];show (if ((PySem.W.clsIn K D).isSome&&PySem.W.typeIn K (.ref D)==some (.type "type"))=true then PySem.W.subIn K (.ref C) (.ref D) else none)=some b;rw[c,d];exact e
theorem kit_self{K:Ac}{C:Addr}:PySem.W.kitOne K (.ref C) (.ref C)=some true:=by
 unfold PySem.W.kitOne;rw[qK<|sV.mpr rfl]
structure C7 (K:Ac) (x qual:Str) (st:Stmt) (f:Addr) (fd:FuncData) (T:Addr) (items:Array Value):Prop where
 ex:∃(oc:Value) (od:Option Addr) (kV doc pm:Value) (an:Option Addr) (cdv ct:Value) (osl:Array (Option Value)),
  fd=PySem.W.fnOf x qual (Ei st) (CL st) (Ao st) (.ref T) kV doc pm an cdv ct/\K.lookup f=some ⟨oc,od,.func fd,osl⟩/\PySem.W.codeIn K cdv qual=true
 tp:∃(tc:Value) (td:Option Addr) (n:Nat) (tsl:Array (Option Value)),K.lookup T=some ⟨tc,td,.seq items n,tsl⟩
 kp:PySem.W.keepIn K (.ref f)=true
section
variable{P:Program}{w:World}{K:Ac}{mg:Ai}{base:Heap}{x qual m:Str}{st:Stmt}{f C T:Addr}{fd:FuncData}{items:Array Value}{N ps:List Str}{k:Nat}{sp:Sp}{ds:List Value}{dvs:List V}
theorem C7.okx(F:C7 K x qual st f fd T items)(S:Aa N ps (Ao st))(d:∀vs H Q E,sp vs H Q E->vs.length=ps.length)
 (c:∀(b:Value) (A:Around) (a:List Env) (s:Shared) (H:Hp) (vs:List V) (Q:VK) (E:XK),Av k (A.deeper<|envOfC qual (Ao st) s.heap.objs.size f b)->sp vs H Q E →
  ∃t,CT (F1 P w K mg base N qual (Ao st) f b A a s H E) (CL st) t/\t { nx:=λ_ n=>Q .non n,rt:=Q } (start N vs) H):AS P w K mg base (EL P w) (k+1) f fd ps sp:=by
 obtain ⟨o,q,kV,h,pm,r,b,p,j,rfl,l,e⟩:=F.ex;exact fn_of l e S d λA a s H vs Q E i g=>c b A a s H vs Q E i g
theorem C7.binds(F:C7 K x qual st f fd T items)(h:∀ (kV a pm:Value) (d:Option Addr) (b c:Value) (us:List Value),(us ++ ds).length = ps.length →
 ∃g:Option (Array Value)->Sem (List<|Str×Value),bindArgs (PySem.W.fnOf x qual (Ei st) (CL st) (Ao st) (.ref T) kV a pm d b c) (us,[])=seqItems? (.ref T) >>= g/\g (some items)=pure (ps.zip<|us++ds)):AB K fd ps ds:=by
 obtain ⟨u,v,kV,a,pm,d,b,c,l,rfl,y,i⟩:=F.ex;obtain ⟨t,r,n,e,o⟩:=F.tp;intro s us KX q;obtain ⟨g,j,p⟩:=h kV a pm d b c us q;exact .of_defaults rfl (KX _ _ o) rfl j p
structure BC (K:Ac) (C:Addr) (m qual:Str) (st:Stmt) (items:Array Value):Prop where
 ex:∃(f:Addr) (fd:FuncData) (T:Addr),C7 K m qual st f fd T items/\Fa K C m f
theorem BC.hasM(h:BC K C m qual st items)(a:Al dvs ds)(b:∀f fd T,C7 K m qual st f fd T items->AB K fd ps ds)(c:∀f fd T,C7 K m qual st f fd T items->AS P w K mg base DW k f fd ps sp):AC P w K mg base C m k ps dvs sp :=
 let ⟨f,fd,T,F,M⟩:=h.ex
 (f,fd,ds,c f fd T F,M,b f fd T F,a)
theorem BC.hasMX(h:BC K C m qual st items)(a:Al dvs ds)(b:∀f fd T,C7 K m qual st f fd T items->AB K fd ps ds)(c:∀f fd T,C7 K m qual st f fd T items->AS P w K mg base (EL P w) k f fd ps sp):Au P w K mg base C m k ps dvs sp :=
 let ⟨f,fd,T,F,M⟩:=h.ex
 (f,fd,ds,c f fd T F,M,b f fd T F,a)
theorem hereD_mk{j:Value}{p q:Option Addr}{g:Array (Option Value)}{kV e pm b o tc:Value}{h:Option Addr}{n:Nat}{d:Array (Option Value)}(a:PySem.W.findIn K (.ref C) m=some (some<|.ref f))(i:PySem.W.isFn K (.ref f)=true)
 (l:K.lookup f=some (j,p,.func<|PySem.W.fnOf m qual (Ei st) (CL st) (Ao st) (.ref T) kV e pm q b o,g)) (r:K.lookup T=some (tc,h,.seq items n,d))
 (c:PySem.W.codeIn K b qual=true) (k:PySem.W.keepIn K (.ref f)=true):BC K C m qual st items:=(f,_,T,((j,p,kV,e,pm,q,b,o,g,rfl,l,c),(tc,h,n,d,r),k),a,i,k)
end
theorem Z8{us:List Value}(h:us.length=1):∃a,us=[a]:=match us,h with| [a],_=>(a,rfl)
theorem Kp{us:List Value}(h:us.length=2):∃a b,us=[a,b]:=match us,h with| [a,b],_=>(a,b,rfl)
theorem K8{us:List Value}(h:us.length=3):∃a b c,us=[a,b,c]:=match us,h with| [a,b,c],_=>(a,b,c,rfl)
theorem Xj{us:List Value}(h:us.length=4):∃a b c d,us=[a,b,c,d]:=match us,h with| [a,b,c,d],_=>(a,b,c,d,rfl)
section
variable{K:Ac}{x qual:Str}{st:Stmt}{f:Addr}{fd:FuncData}{p q r s:Str}
theorem BT.b1(F:BT K x qual st f fd)(h:∀(kV c pm:Value) (e:Option Addr) (b d a:Value),bindArgs (PySem.W.fnOf x qual (Ei st) (CL st) (Ao st) .none kV c pm e b d) ([a],[])=pure ([p].zip [a])):AB K fd [p] []:=F.binds λ_ _ _ _ _ _ i g=>by obtain ⟨_,rfl⟩:=Z8 g;exact h _ _ _ _ _ _ _
theorem BT.b2(F:BT K x qual st f fd)(h:∀(kV d pm:Value) (g:Option Addr) (c e a b:Value),bindArgs (PySem.W.fnOf x qual (Ei st) (CL st) (Ao st) .none kV d pm g c e) ([a,b],[])=pure ([p,q].zip [a,b])):AB K fd [p,q] []:=F.binds λ_ _ _ _ _ _ j i=>by obtain ⟨_,_,rfl⟩:=Kp i;exact h _ _ _ _ _ _ _ _
theorem BT.b3(F:BT K x qual st f fd)(h:∀(kV d pm:Value) (i:Option Addr) (e g a b c:Value),bindArgs (PySem.W.fnOf x qual (Ei st) (CL st) (Ao st) .none kV d pm i e g) ([a,b,c],[])=pure ([p,q,r].zip [a,b,c])):AB K fd [p,q,r] []:=F.binds λ_ _ _ _ _ _ k j=>by obtain ⟨_,_,_,rfl⟩:=K8 j;exact h _ _ _ _ _ _ _ _ _
theorem BT.b4(F:BT K x qual st f fd)(h:∀(kV e pm:Value) (j:Option Addr) (g i a b c d:Value),bindArgs (PySem.W.fnOf x qual (Ei st) (CL st) (Ao st) .none kV e pm j g i) ([a,b,c,d],[])=pure ([p,q,r,s].zip [a,b,c,d])):AB K fd [p,q,r,s] []:=F.binds λ_ _ _ _ _ _ l k=>by obtain ⟨_,_,_,_,rfl⟩:=Xj k;exact h _ _ _ _ _ _ _ _ _ _
end
section
variable{X:Cx}{pins:List (Addr×Obj)}{σ:St}{H:Hp}{s:Shared}{h':Heap}{fp:Ay}{t':Nat}
theorem Inv.multi(I:Inv X pins σ H s)(f:∀b∈fp,Cv X pins H b)(k:∀c o,c∉fp->s.heap.get? c=some o->h'.get? c=some o):Inv X pins σ H { s with heap:=h',toks:=t' }:=by
 refine I.call (ch:=fp) (λb o q n g e=>k b o e q,λb o q n g e=>(o.slots,k b o e q),λb o q n e=>n,λb o q e=>(o,k b o e q),λ_ _ q=>q,λ_ _ _ q=>q,λb h q=>(#[],by rw[q];simp)) (λb u q=>?_) I.bare λb g=>?_
 ·refine (I.hok b u q).stay (λc v hc z=>k c v (λm=>?_) z) (λ_ z=>z) λ_ _ z=>z;rcases hc with rfl|hc
  ·rw[(f c m).1] at q;cases q
  ·rw[(f c m).1] at hc;cases hc
 ·obtain ⟨_,a,_,b,c,d⟩:=f b g;exact (b,a,c,d)
theorem Inv.multiT{T:Addr}{xs:List V}{its:List Value}(I:Inv X pins σ H s)(h:∀b∈fp,Cv X pins H b)(k:∀c o,c∉fp->s.heap.get? c=some o->h'.get? c=some o)(i:s.heap.objs.size<=T)(j:IsTup h' T its.toArray)(r:Al xs its)(p:xs.length<=sizeLine) :
 Inv X pins σ (As H T<|.tup xs) { s with heap:=h',toks:=t' }:=by
 have l:=I.hok.fresh i;have g:∀b u,H b=some u->b≠T:=λb u q z=>by subst z; rw[l] at q; cases q
 refine I.call (ch:=fp) (λb o q n e f=>k b o f q,λb o q n e f=>(o.slots,k b o f q),λb o q n f=>?_,λb o q f=>(o,k b o f q),λb _ q=>by rw[AL<|g b _ q]; exact q,λb _ _ q=>by rw[AL<|g b _ q]; exact q,λb t q=>(#[],by rw[AL<|g b _ q,q]; simp)) (λb u q=>?_) I.bare λb e=>?_
 ·rw[AL<|Qb<|Q9 (qN q) i]; exact n
 ·by_cases e:b=T
  ·subst e
   rw[A4] at q
   cases q
   exact (p,its,r,j)
  ·rw[AL e] at q
   refine (I.hok b u q).stay (λc v hc z=>k c v (λm=>?_) z) (λc z=>by rw[AL<|g c _ z]; exact z) λc _ z=>by rw[AL<|g c _ z]; exact z
   rcases hc with rfl | hc
   ·rw[(h c m).1] at q; cases q
   ·rw[(h c m).1] at hc; cases hc
 ·obtain ⟨_,a,_,b,c,d⟩:=h b e
  exact (b,a,c,d)
end
def Ih(K:Ac)(a b:Addr):It :=
 (λi H=>∃c d x y,AR K H a c/\AR K H b d/\c[i]?=some x/\d[i]?=some y,
  λi H v e=>∃T,H T=none/\v = .ref T/\∃x y,(∀c,AR K H a c->c[i]?=some x)/\(∀d,AR K H b d->d[i]?=some y)/\e=As H T (.tup [x,y]),
  λi H=>∃c d,AR K H a c/\AR K H b d/\(c.length<=i\/d.length<=i))
theorem aJ{K:Ac}{J:List Expr}{k0}{pos:Pos}{a b z TI TO i1 i2:Addr}(D:ZipApart z TI TO i1 i2 a b) :
 DB P w K (.Tuple J k0 pos) (Ih K a b) [z,TI,TO,i1,i2] z (λi h=>IsZip h z TI TO .none/\IsPair h TI (.ref i1) (.ref i2)/\(∃p q,IsPair h TO p q)/\h.IsListIter i1 a i/\h.IsListIter i2 b i) where
 mem:=by simp
 obj:=λi h ⟨j,d,⟨p,q,f⟩,⟨o1,e1,_,d1⟩,⟨o2,N,_,d2⟩⟩ c g=>by
  simp only[Qd,Uh,or_false] at g
  rcases g with rfl | rfl | rfl | rfl | rfl
  ·exact (_,j,λv e=>nomatch (show Data.fields _=Data.cell v from e))
  ·exact (_,d,λv e=>nomatch (show Data.seq _ _=Data.cell v from e))
  ·exact (_,f,λv e=>nomatch (show Data.seq _ _=Data.cell v from e))
  ·exact (o1,e1,λv e=>by rw[d1] at e; cases e)
  ·exact (o2,N,λv e=>by rw[d2] at e; cases e)
 keep:=λi h h' ⟨j,d,⟨p,q,f⟩,C,B⟩ k =>
  (k z (by simp) _ j,k TI (by simp) _ d,(p,q,k TO (by simp) _ f),C.at λo e=>k i1 (by simp) o e,B.at λo e=>k i2 (by simp) o e)
 item:=by
  intro X O hw hK g i n s σ H E I L ⟨j,d,⟨p,q,f⟩,C,B⟩ U;subst O hw hK;obtain ⟨xs,ys,x,y,l,m,hx,hy⟩:=U;obtain ⟨its,Y,Z,_⟩:=I.list l;obtain ⟨R,t,A,_⟩:=I.list m;obtain ⟨u,hu,ru⟩:=Y.get hx;obtain ⟨v,hv,S⟩:=t.get hy;refine wpAny_pyNext_zip_item D j d f C B Z.isList A.isList (x:=u) (y:=v) (by simpa using hu) (by simpa using hv) λh' a1 a2 a3 a4 a5 a6 a7=>?_;refine (_,rfl,wpAny_letOwnedTupleGo_zip (s:={ s with heap:=h' }) a1 λG b1 F=>?_);have kz:∀c o,c∉[z,TI,TO,i1,i2]->s.heap.get? c=some o->G.get? c=some o:=λc o g e=>by
   simp only[Qd,Uh,or_false,not_or] at g
   obtain ⟨M,n2,W,n4,Q⟩:=g;exact F.extBut _ _ M<|a7 c o M W n4 Q e
  have T:=Nat.ne_of_gt<|qN j;have r:=I.hok.fresh<|Q4 s.heap.objs.size;have I2:Inv X n σ (As H s.heap.objs.size<|.tup [x,y]) { s with heap:=G }:=I.multiT (t':=s.toks) (its:=[u,v]) L kz (Q4 _) (_,F.extBut _ _ T a5,rfl,_,rfl) (.cons ru<|.cons S .nil) (by show 2<=sizeLine; decide);refine (.ref s.heap.objs.size,_,I2,rfl,(_,r,rfl,x,y,λa8 e=>by rw[I.list_inj e l]; exact hx,λa0 e=>by rw[I.list_inj e m]; exact hy,rfl),(b1,?_,(u,v,?_),a3.extBut F.extBut D.i1z,a4.extBut F.extBut D.i2z),λc g=>?_)
  ·exact F.extBut _ _ D.TIz (a7 _ _ D.TIz D.TITO D.TIi1 D.TIi2 d)
  ·exact F.extBut _ _ D.TOz a2
  ·have lt:c<s.heap.objs.size:=by
    simp only[Qd,Uh,or_false] at g
    obtain ⟨_,e1,_⟩:=id C;obtain ⟨_,N,_⟩:=id B;rcases g with rfl | rfl | rfl | rfl | rfl
    ·exact qN j
    ·exact qN d
    ·exact qN f
    ·exact qN e1
    ·exact qN N
   rw[AL<|Qb lt];exact (L c g).1
 done:=by
  intro X O hw hK g i n s σ H E I L ⟨j,d,⟨p,q,f⟩,C,B⟩ U;subst O hw hK;obtain ⟨xs,ys,l,m,hx⟩:=U;obtain ⟨its,Y,Z,_⟩:=I.list l;obtain ⟨R,t,A,_⟩:=I.list m;have l1:=Y.length;have l2:=t.length;refine wpAny_pyNext_zip_end (I.ok.hd g) D j d f C B Z.isList A.isList ?_ λh' k=>(rfl,I.multi (t':=s.toks) L λc o g e=>?_)
  ·rcases hx with hx | hx
   ·left; simp; omega
   ·right; simp; omega
  ·simp only[Qd,Uh,or_false,not_or] at g
   obtain ⟨M,n2,W,n4,Q⟩:=g;exact k c o M W n4 Q e
 self:=λ_ _ _ _ _ ⟨j,_⟩ h=>wpAny_pyIter_zip j h
section
variable{X:Cx}
inductive Va (K:Ac) (vs:List V) (H1:Hp) (R:It->Hp->Prop):Prop
 |mk (a b:Addr) (_:vs=[.ref a,.ref b]) (_:∃xs,AR K H1 a xs) (_:∃ys,AR K H1 b ys) (_:R (Ih K a b) H1):Va K vs H1 R
def YF(K:Ac)(b:TA):TI:=λa H R=>b a H λc d=>Va K c d R
theorem QP{e1 e2:Expr}{m:List Expr}{k0}{l:Pos}{p pos:Pos}(E:Gl X "zip") (G:X.mg "zip" = none) (C:PA X [e1,e2] B) (D:starEach [e1,e2] X.env=[(false,eval e1 X.env),(false,eval e2 X.env)]:=by rfl) (j:starEach [e2] X.env=[(false,eval e2 X.env)]:=by rfl) :
 PI X (.Tuple m k0 l) (.Call (.Name "zip" p) [e1,e2] [] pos) (YF X.K B):=by
 intro i s O H R I h;refine q8<|EH I E G PyProof.Rows.Boot.«zip»<|qV (Ax (C pos i s O H _ I h) λY d ⟨vs,W,n,L,N⟩=>?_) (by rw[D,j]) (by rw[j]; rfl);obtain ⟨a,b,e,⟨Z,t⟩,⟨ys,x⟩,q⟩:=N;subst e;obtain ⟨u,v,rfl,M,F⟩:=IU L
 cases (show u=Value.ref a from M)
 cases (show v=Value.ref b from F)
 obtain ⟨Q,_,y,_⟩:=n.list t;obtain ⟨U,_,g,_⟩:=n.list x;have K:a<d.heap.objs.size:=by obtain ⟨o,e,_⟩:=y.isList; exact qN e
 have lb:b<d.heap.objs.size:=by obtain ⟨o,e,_⟩:=g.isList; exact qN e
 refine call_zip_2 y.isList g.isList λP z w r T J S k=>?_;refine wpAny_pyIter_zip (s:={ d with heap:=P }) z ?_;refine (_,[d.heap.objs.size+4,d.heap.objs.size+2,d.heap.objs.size+3,d.heap.objs.size,d.heap.objs.size+1],_,_,W,rfl,n.kept (t':=d.toks) k,aJ<|zipApart_new K lb,(z,w,(_,_,r),T,J),λc A=>?_,q);have f:d.heap.objs.size<=c:=by
  simp only[Qd,Uh,or_false] at A
  rcases A with rfl | rfl | rfl | rfl | rfl <;> omega
 exact n.fpOk f<|n.hok.fresh f
end
theorem lB{K:Ac}{xs ys:List V}{g:TG}{n:TS}{D:Dz}(c:Nat->St->Hp->Prop)(t:c 0 σ H)(z:∀i σ H,c i σ H->AR K H a xs/\AR K H b ys)
 (o:∀i x y T σ H,xs[i]?=some x->ys[i]?=some y->H T=none->c i σ H->g (.ref T) σ (As H T<|.tup [x,y]) λd h=>n { D with nx:=c<|i+1,ct:=c<|i+1,bk:=D.nx } d h) (s:∀i σ H,i=min xs.length ys.length->c i σ H->D.nx σ H) :
 ∃W:Nat->Nat->St->Hp->Prop,(∃m,W 0 m σ H)/\∀i m σ H,W i m σ H →
  ((Ih K a b).stop i H/\D.nx σ H)\/((Ih K a b).go i H/\∃N:St->Hp->Prop,(∀f e,N f e->∃l,l<m/\W (i+1) l f e)/\∀x e,(Ih K a b).yld i H x e->g x σ e λd h=>n { D with nx:=N,ct:=N,bk:=D.nx } d h):=by
 refine (λi m σ H=>m=min xs.length ys.length-i/\i<=min xs.length ys.length/\c i σ H,(_,rfl,Qe _,t),?_);rintro i m σ H ⟨rfl,E,p⟩;obtain ⟨k,j⟩:=z i σ H p
 by_cases hlt:i<min xs.length ys.length
 ·have w:i<xs.length:=⋯
  have r:i<ys.length:=⋯;refine .inr ((xs,ys,xs[i],ys[i],k,j,by simp[w],by simp[r]),c<|i+1,λf e A=>(min xs.length ys.length-(i+1),⋯,rfl,hlt,A),λx e y=>?_);obtain ⟨T,B,rfl,u,v,C,q,rfl⟩:=y;exact o i u v T σ H (C xs k) (q ys j) B p
 ·exact .inl ((xs,ys,k,j,⋯),s i σ H ⋯ p)
section
variable{caps:List (Nat×Str)}{te:TE}
theorem OX{x y:V}{a:List (Option V)}:∀(i:Nat) v,((none:Option V)::none::a)[i]?=some (some v)->((some x)::(some y)::a)[i]?=some (some v)
 |0,v,h=>by simp at h
 |1,v,h=>by simp at h
 |i+2,v,h=>by simpa using h
end
theorem TK(n:Nat):(List.range n).all (λ_=>true)=true:=by simp
def Ak(n:Nat)(i:Int):Prop:=Builtin.Int.intBits i<=n
theorem Zx(i:Int):(PySem.W.WData.int i).weight=Builtin.Int.intBits i:=by
 simp only[PySem.W.WData.weight,Builtin.Int.intBits]
theorem UQ:∀(a:List Int) (n:Nat),PySem.W.WData.weightAll (a.map PySem.W.WData.int)<=n->∀i∈a,Ak n i
 | [],_,_,_,h=>nomatch h
 |j::a,n,hw,i,h=>by
  simp only[Us,PySem.W.WData.weightAll] at hw
  rcases Qd.mp h with rfl|h
  ·show Builtin.Int.intBits i<=n;rw[<-Zx];omega
  ·exact UQ a n ⋯ i h
theorem kP{l:PySem.W.OpenLaw}{n:Nat}{E:World->Heap->Prop}{d:DefRec}
 (M:l.most=some n) (C:d.params.defaults=[])
 (s:∀(w:World) (e b:Shared) (mg A:Str->Option Value) (v:Addr) (a:Addr) (vs:List Value) (c:List Int),
  PySem.W.Ground q g [] F w e mg A b.heap->E w b.heap->mg d.name=some (.ref v) →
  b.heap.get? a=some { cls:=.type "list", data:=.seq vs.toArray }->IntsAre vs c->c.length<=n->(∀i∈c,Ak 1048576 i)->b.gens=#[] →
  codeAny (model l.prog w) callerA (.call (.ref v) ([.ref a],[])) (λr x=>r = .ok (.ret<|.bool true)/\OldK b.heap x.heap/\x.os=b.os/\AllBare x.gens) b) :
 PySem.W.WalkO q g F E l.row.toRowW d [] (λf vs=>PySem.call f vs):=by
 refine λw e b mg A G Y v o pm X Q O kV Z W I D z H p u U m k S y R=>?_;have T:∀(a:Addr) (vs:List Value) (c:List Int),u=[Value.ref a]->p=[PySem.W.WData.list<|c.map PySem.W.WData.int]->∀i∈c,Ak 1048576 i:=by
  rintro a vs c-rfl;refine UQ c _ ?_;have B:=(PySem.W.layW_cons k).1;unfold PySem.W.WData.layable at B
  simp only[sN,decide_eq_true_eq] at B
  have:=B.2
  simp only[PySem.W.WData.weight] at this
  exact this
 obtain rfl:O = .none:=PySem.W.Dflts.none D C;obtain rfl:kV = .none:=PySem.W.Dflts.noKw D;obtain ⟨a,vs,c,rfl,rfl,t,h,j⟩:=Att.script_of M m y;refine PySem.W.enter_call<|codeAny_mono (s w e b mg A v a vs c G Y z t h j (T a vs c rfl rfl) H) λr x J=>?_;obtain ⟨rfl,P,N,K⟩:=J;exact (.inl (.bool true,.bool true,[],rfl,λ_=>rfl,.bool true,Att.post_true l _,λ_=>(List.Pairwise.nil,λ_ L=>(nomatch L))),P,N,K)
theorem Ak.lt{i:Int}(h:Ak n i):i.natAbs<2^n:=by
 unfold Ak Builtin.Int.intBits at h
 by_cases h0:i=0
 ·subst h0;exact Uv (by simp)
 ·have:i.natAbs.log2+1<=n:=by simpa [h0] using h
  exact (Nat.log2_lt ⋯).mp ⋯
theorem Ak.of{n:Nat}{i:Int}(h:i.natAbs<2^n):Ak n i:=JB h
theorem Ak.mul(h:Ak 2097152 i)(h':Ak 2097152 j):IntMulOk i j:=by
 have b:Builtin.Int.intBits i<=2097152:=h;have c:Builtin.Int.intBits j<=2097152:=h';have a:Builtin.Int.intTooBig (Builtin.Int.intBits i+Builtin.Int.intBits j)=false:=by
  unfold Builtin.Int.intTooBig;rw[bitsLine_eq];exact q7 ⋯
 unfold IntMulOk;rw[a]
 simp
theorem Y0{X:Cx}{pos:Pos}(K:Ac)(h:X.K=K){a:List Expr}{k:Nat}{t:HE}{n:Nat}(c:X.calm=true)(e:IM X a t)
 (d:(assignEach a X.env).length=n:=by rfl) (b:(assignEach a X.env).findIdx? (·.1)=none:=by rfl):PG X (.Tuple a k pos) (GQ K n t):=by subst h; exact Ia c e d b
theorem pU{caps:List (Nat×Str)}{te:TE}{K:Ac}{xs ys:List V}{σ:St}{QL:List V->Hp->Prop}(d:Nat->List V->Hp->Prop)(t:xs.length<=1000)(s:d 0 [] H)(z:∀i c H,d i c H->AR K H a xs/\AR K H b ys)
 (l:∀i x y T c H,xs[i]?=some x->ys[i]?=some y->c.length=i->H T=none->d i c H->te (some x::some y::caps.map λp=>(σ[p.1]?).join) (As H T<|.tup [x,y]) λv f=>d (i+1) (c++[v]) f)
 (r:∀c H,c.length=min xs.length ys.length->d (min xs.length ys.length) c H->QL c H) :
 Jz 2 caps (GQ K 2<|Fx (DK 0)<|Fx (DK 1) Jd) te σ (Ih K a b) H QL:=by
 have o:=FX t;refine (λi m c H=>m=min xs.length ys.length-i/\i<=min xs.length ys.length/\c.length=i/\d i c H,(_,rfl,Qe _,rfl,s),?_);rintro i m c f ⟨rfl,E,j,p⟩;obtain ⟨h,g⟩:=z i c f p;refine (⋯,?_)
 by_cases hlt:i<min xs.length ys.length
 ·have w:i<xs.length:=⋯
  have q:i<ys.length:=⋯;refine .inr ((xs,ys,xs[i],ys[i],h,g,by simp[w],by simp[q]),⋯,λv k=>d (i+1) (c++[v]) k,λv k A=>(min xs.length ys.length-(i+1),⋯,rfl,hlt,by rw[Qi,j]; rfl,A),λx D y=>?_);obtain ⟨T,B,rfl,u,v,C,n,rfl⟩:=y;exact (T,[u,v],rfl,AI.of A4,rfl,u,_,rfl,v,_,rfl,rfl,OX,l i u v T c f (C xs h) (n ys g) j B p)
 ·have e:i=min xs.length ys.length:=⋯
  subst e;exact .inl ((xs,ys,h,g,⋯),r c f j p)
section
variable{X:Cx}
theorem O1:∀ {a:List Int} {us:List Value},Al (a.map V.int) us->IntsAre us a
 | [],_,.nil => .nil
 |_::_,_,.cons r t=>by obtain ⟨k,rfl⟩:=r;exact .cons _ _<|O1 t
theorem Xs(g:X.calm=true):EC X (.builtin "sum") (λxs H Q=>∃(p:Addr) (a:List Int),xs=[.ref p]/\AR X.K H p (a.map V.int)/\Q (.int a.sum) H):=by
 intro c s v H xs t Q I r h;obtain ⟨p,a,rfl,k,q⟩:=h;obtain ⟨u,rfl,j⟩:=Fw r
 cases j
 obtain ⟨b,i,m,y⟩:=I.list k;have f:=O1 i;obtain ⟨xs,e⟩:=f.allInts.items;have d:(numsOf b).sum=a.sum:=by rw[f.numsOf]
 have l:b=(intItems xs).toList:=by rw[<-e]
 rw[l,nums_intItems] at d;refine sum_intListG (xs:=xs) (I.ok.hd g) (by rw[<-e];exact m.isList) λw x o n=>?_;rw[preSum_eq,Ux (by simp)];rw[d];exact (.int a.sum,H,I.kept n,(o,rfl),q)
end
@[irreducible] def qA (X:Cx) (e:Expr) (t:TE):Prop:=PE X e t
@[irreducible] def qB (X:Cx) (st:Stmt) (t:TS):Prop:=PS X st t
@[irreducible] def bZ (X:Cx) (st:List Stmt) (t:TS):Prop:=CT X st t
def Fl(H:Hp)(x:V)(d:PyData):Prop:=(x = .non/\d = .none)\/(∃b,x = .bl b/\d = .bool b)\/(∃i,x = .int i/\d = .int i)\/(∃y,x = .str y/\d = .str y)\/(∃a,x = .ref a/\d = .dict []/\H a=some (.dK []))
def Rp(H:Hp):Nat->V->PyData->Prop
 | 0,x,d=>Fl H x d
 | n+1,x,d=>Fl H x d\/(∃a c b,x = .ref a/\d = .list b/\H a=some (.lst c)/\c.length=b.length/\∀(i:Nat) u e,c[i]?=some u->b[i]?=some e->Rp H n u e) ∨
  (∃a c b,x = .ref a/\d = .tuple b/\H a=some (.tup c)/\c.length=b.length/\∀(i:Nat) u e,c[i]?=some u->b[i]?=some e->Rp H n u e)
theorem Fl.same(h:Fl H x d)(S:Ad H b):Fl b x d:=by
 rcases h with h|h|h|h|⟨a,e1,e2,h⟩
 ·exact .inl h
 ·exact .inr (.inl h)
 ·exact .inr (.inr<|.inl h)
 ·exact .inr (.inr<|.inr<|.inl h)
 ·exact .inr (.inr<|.inr<|.inr (a,e1,e2,S _ _ h))
theorem Rp.same(S:Ad H c):∀ {n:Nat} {x:V} {d:PyData},Rp H n x d->Rp c n x d
 |0,_,_,h=>Fl.same h S
 |n+1,x,d,h=>by
  rcases h with h|⟨a,xs,ds,e1,e2,h,l,r⟩|⟨a,xs,ds,e1,e2,h,l,r⟩
  ·exact .inl (Fl.same h S)
  ·exact .inr (.inl (a,xs,ds,e1,e2,S _ _ h,l,λi u e a b=>Rp.same S<|r i u e a b))
  ·exact .inr (.inr (a,xs,ds,e1,e2,S _ _ h,l,λi u e a b=>Rp.same S<|r i u e a b))
theorem Rp.up:∀ {n:Nat} {x:V} {d:PyData},Rp H n x d->Rp H (n+1) x d
 |0,_,_,h => .inl h
 |n+1,x,d,h=>by
  rcases h with h|⟨a,xs,ds,e1,e2,h,l,r⟩|⟨a,xs,ds,e1,e2,h,l,r⟩
  ·exact .inl h
  ·exact .inr (.inl (a,xs,ds,e1,e2,h,l,λi u e a b=>Rp.up<|r i u e a b))
  ·exact .inr (.inr (a,xs,ds,e1,e2,h,l,λi u e a b=>Rp.up<|r i u e a b))
theorem Rp.mono{n m:Nat}(h:Rp H n x d)(l:n<=m):Rp H m x d:=by
 induction m with
 | zero => obtain rfl:n = 0:=⋯
           exact h
 | succ m a =>
  by_cases e:n=m+1
  ·subst e; exact h
  ·exact (a ⋯).up
section
variable{X:Cx}{pins:List (Addr×Obj)}{σ:St}{H:Hp}{s:Shared}
theorem US(I:Inv X pins σ H s){a:Addr}(h:H a=some (.dK [])):(a==sysModules)=false/\s.heap.DictOf (G9 X.prog X.w) a []:=by
 obtain ⟨_,z,c,b,p⟩:=(show AG X.prog X.w H s.heap a (.dK []) from I.hok a _ h)
 cases b
 exact (z,p)
theorem J8{h:Heap}(d:h.DictOf (G9 P w) a []):h.DictOf (G9 g m) a []:=by
 obtain ⟨o,b,i,l,n,k,p,c,j⟩:=d;refine (o,b,i,l,n,k,?_,?_,j)
 ·have:b.toList=[]:=by cases q:b.toList with
   | nil=>rfl
   | cons x r=>rw[q] at c; cases c
  intro e f;rw[Array.mem_def,this] at f
  cases f
 ·cases q:b.toList with
  | nil=>exact .nil
  | cons x r=>rw[q] at c; cases c
theorem Fl.rc{A:Around}(I:Inv X pins σ H s)(o:A.units<cLine)(p:Fl H x d)(t:Fl H y d)(f:RelV x v)(g:RelV y u):SeqAt.RcAt A s v u true/\SeqAt.RcNeAt A s v u false:=by
 rcases p with ⟨rfl,rfl⟩|⟨b,rfl,rfl⟩|⟨i,rfl,rfl⟩|⟨z,rfl,rfl⟩|⟨a,rfl,rfl,ha⟩ <;> rcases t with ⟨rfl,e⟩|⟨b',rfl,e⟩|⟨i',rfl,e⟩|⟨z',rfl,e⟩|⟨a',rfl,e,ha'⟩ <;> cases e
 ·cases f;cases g;exact (SeqAt.RcAt.none_none,SeqAt.RcNeAt.none_none)
 ·cases f;cases g
  exact (by have:=SeqAt.RcAt.bool_bool (A:=A) (s:=s) b b;simpa using this,by have:=SeqAt.RcNeAt.bool_bool (A:=A) (s:=s) b b;simpa using this)
 ·obtain ⟨h,rfl⟩:=f;obtain ⟨j,rfl⟩:=g;exact (by have:=SeqAt.RcAt.int_int (A:=A) (s:=s) i h i j;simpa using this,by have:=SeqAt.RcNeAt.int_int (A:=A) (s:=s) i h i j;simpa using this)
 ·obtain ⟨h,rfl⟩:=f;obtain ⟨j,rfl⟩:=g;exact (by have:=SeqAt.RcAt.str_str (A:=A) (s:=s) z h z j;simpa using this,by have:=SeqAt.RcNeAt.str_str (A:=A) (s:=s) z h z j;simpa using this)
 ·cases f;cases g
  obtain ⟨m,n⟩:=US I ha;obtain ⟨l,k⟩:=US I ha';refine (λc w E Q q=>?_,λc w E Q q=>?_)
  ·exact PySem.W.keq_eq (knd:=G9 c w) (r:=true) m l (J8 n) (J8 k) o (λ_ => .nil) q
  ·exact PySem.W.keq_ne (knd:=G9 c w) (r:=true) m l (J8 n) (J8 k) o (λ_ => .nil) q
theorem Fl.at{A:Around}(I:Inv X pins σ H s)(l:A.units<cLine)(j:Fl H x d)(k:Fl H y d)(f:RelV x v)(c:RelV y u):SeqAt.EqAt A s v u true:=by
 have m:=(Fl.rc I l j k f c).1;rcases j with ⟨rfl,rfl⟩|⟨b,rfl,rfl⟩|⟨i,rfl,rfl⟩|⟨z,rfl,rfl⟩|⟨a,rfl,rfl,ha⟩ <;> rcases k with ⟨rfl,e⟩|⟨b',rfl,e⟩|⟨i',rfl,e⟩|⟨z',rfl,e⟩|⟨a',rfl,e,ha'⟩ <;> cases e
 ·cases f;cases c;exact SeqAt.EqAt.same _
 ·cases f;cases c;exact SeqAt.EqAt.same _
 ·obtain ⟨g,rfl⟩:=f;obtain ⟨h,rfl⟩:=c;have:=SeqAt.EqAt.int_int (A:=A) (s:=s) i g i h
  simpa using this
 ·obtain ⟨g,rfl⟩:=f;obtain ⟨h,rfl⟩:=c;have:=SeqAt.EqAt.str_str (A:=A) (s:=s) z g z h
  simpa using this
 ·cases f;cases c
  by_cases hab:a=a'
  ·subst hab;exact SeqAt.EqAt.same _
  ·exact SeqAt.EqAt.of_refs hab m
theorem Al.at2{its:List Value}(r:Al xs its){j:Nat}(h:j<its.toArray.size):∃x,xs[j]?=some x/\RelV x its.toArray[j]:=by
 have l:=r.length;have b:j<xs.length:=by simp at h;omega
 obtain ⟨e,a,c⟩:=r.get (i:=j) (x:=xs[j]) (by simp[b]);have d:its.toArray[j]=e:=by
  have:its[j]?=some its.toArray[j]:=by simp at h;simp[h]
  rw[this] at a;exact rA a
 exact (xs[j],by simp[b],by rw[d];exact c)
theorem Kq{α a:Type}{xs:List α}{ds:List a}{j:Nat}{x:α}(h:xs[j]?=some x)(l:xs.length=ds.length):∃d,ds[j]?=some d:=by
 have:=(Qr.mp h).1;exact (ds[j]'⋯,Q6 ⋯)
theorem Rp.both(I:Inv X pins σ H s):∀(n:Nat) (A:Around) (x y:V) (v u:Value) (d:PyData),A.units+n<cLine->Rp H n x d->Rp H n y d->RelV x v->RelV y u->SeqAt.EqAt A s v u true/\SeqAt.RcAt A s v u true/\SeqAt.RcNeAt A s v u false
 | 0,A,x,y,v,u,d,hu,hx,hy,rx,ry=>(Fl.at I hu hx hy rx ry,Fl.rc I hu hx hy rx ry)
 | n+1,A,x,y,v,u,d,hu,hx,hy,rx,ry=>by
  have f:A.units<cLine:=⋯;rcases hx with hx | ⟨a,xs,ds,rfl,rfl,ha,hl,hi⟩ | ⟨a,xs,ds,rfl,rfl,ha,hl,hi⟩
  ·have t:Fl H y d:=by
    rcases hy with hy | ⟨b,c,l,rfl,rfl,hb,hm,hj⟩ | ⟨b,c,l,rfl,rfl,hb,hm,hj⟩
    ·exact hy
    ·rcases hx with ⟨_,e⟩ | ⟨_,_,e⟩ | ⟨_,_,e⟩ | ⟨_,_,e⟩ | ⟨_,_,e,_⟩ <;> cases e
    ·rcases hx with ⟨_,e⟩ | ⟨_,_,e⟩ | ⟨_,_,e⟩ | ⟨_,_,e⟩ | ⟨_,_,e,_⟩ <;> cases e
   exact (Fl.at I f hx t rx ry,Fl.rc I f hx t rx ry)
  ·obtain ⟨b,c,rfl,hb,hm,hj⟩:∃b c,y = .ref b/\H b=some (.lst c)/\c.length=ds.length/\∀(i:Nat) u e,c[i]?=some u->ds[i]?=some e->Rp H n u e:=by
    rcases hy with hy | ⟨b,c,l,e1,e2,hb,hm,hj⟩ | ⟨b,c,l,e1,e2,hb,hm,hj⟩
    ·rcases hy with ⟨_,e⟩ | ⟨_,_,e⟩ | ⟨_,_,e⟩ | ⟨_,_,e⟩ | ⟨_,_,e,_⟩ <;> cases e
    ·cases e2; exact (b,c,e1,hb,hm,hj)
    ·cases e2
   cases rx
   cases ry
   obtain ⟨g,z,C,_⟩:=I.list<|AR.of ha;obtain ⟨h,r,p2,_⟩:=I.list<|AR.of hb;have K:=z.length;have J:=r.length;have w:∀(j:Nat) (B:j<g.toArray.size) (q:j<h.toArray.size),SeqAt.EqAt A.in1 s g.toArray[j] h.toArray[j] true:=λj B q=>by
    obtain ⟨G,m,F⟩:=z.at2 B;obtain ⟨L,E,D⟩:=r.at2 q;obtain ⟨d,o⟩:=Kq m hl;exact (Rp.both I n A.in1 _ _ _ _ d (by show A.units+1+n<cLine; omega) (hi j _ _ m o) (hj j _ _ E o) F D).1
   have k:=SeqAt.RcAt.lists (A:=A) (e:=λ_=>true) C.isList p2.isList (by simp; omega) f w;have p:=SeqAt.RcNeAt.lists (A:=A) (e:=λ_=>true) C.isList p2.isList (by simp; omega) f w;rw[TK] at k p;refine (?_,k,p)
   by_cases hab:a=b
   ·subst hab; exact SeqAt.EqAt.same _
   ·exact SeqAt.EqAt.of_refs hab k
  ·obtain ⟨b,c,rfl,hb,hm,hj⟩:∃b c,y = .ref b/\H b=some (.tup c)/\c.length=ds.length/\∀(i:Nat) u e,c[i]?=some u->ds[i]?=some e->Rp H n u e:=by
    rcases hy with hy | ⟨b,c,l,e1,e2,hb,hm,hj⟩ | ⟨b,c,l,e1,e2,hb,hm,hj⟩
    ·rcases hy with ⟨_,e⟩ | ⟨_,_,e⟩ | ⟨_,_,e⟩ | ⟨_,_,e⟩ | ⟨_,_,e,_⟩ <;> cases e
    ·cases e2
    ·cases e2; exact (b,c,e1,hb,hm,hj)
   cases rx
   cases ry
   obtain ⟨g,z,C,_⟩:=I.tuple<|AI.of ha;obtain ⟨h,r,p2,_⟩:=I.tuple<|AI.of hb;have K:=z.length;have J:=r.length;have w:∀(j:Nat) (B:j<g.toArray.size) (q:j<h.toArray.size),SeqAt.EqAt A.in1 s g.toArray[j] h.toArray[j] true:=λj B q=>by
    obtain ⟨G,m,F⟩:=z.at2 B;obtain ⟨L,E,D⟩:=r.at2 q;obtain ⟨d,o⟩:=Kq m hl;exact (Rp.both I n A.in1 _ _ _ _ d (by show A.units+1+n<cLine; omega) (hi j _ _ m o) (hj j _ _ E o) F D).1
   have l:(g.toArray.size==h.toArray.size)=true:=by simp; omega
   have k:=SeqAt.RcAt.tuples (A:=A) (e:=λ_=>true) C p2 f w;have p:=SeqAt.RcNeAt.tuples (A:=A) (e:=λ_=>true) C p2 f w;rw[TK,l] at k p;refine (?_,k,p)
   by_cases hab:a=b
   ·subst hab; exact SeqAt.EqAt.same _
   ·exact SeqAt.EqAt.of_refs hab k
end
section
variable{X:Cx}{k:Nat}
def Vn:R2:=λx y H Q=>∃d,Rp H 8 x d/\Rp H 8 y d/\Q (.bl true) H
def QV:R2:=λx y H Q=>∃d,Rp H 8 x d/\Rp H 8 y d/\Q (.bl false) H
theorem hV(c:Av k X.A):B3 X (compareOp .Eq) Vn:=by
 intro a s i H x y v u Q I b e h;obtain ⟨d,f,g,q⟩:=h;have j:=c.units;exact (Rp.both I 8 X.A x y v u d ⋯ f g b e).2.1 _ _ _ _ (.bl true,H,I,rfl,q)
theorem iE(c:Av k X.A):B3 X (compareOp .NotEq) QV:=by
 intro a s i H x y v u Q I b e h;obtain ⟨d,f,g,q⟩:=h;have j:=c.units;exact (Rp.both I 8 X.A x y v u d ⋯ f g b e).2.2 _ _ _ _ (.bl false,H,I,rfl,q)
end
def EE(R:V->PyData->Prop)(xs:List V)(ds:List PyData):Prop:=xs.length=ds.length/\∀(i:Nat) v d,xs[i]?=some v->ds[i]?=some d->R v d
section
variable{R R':V->PyData->Prop}{xs ys:List V}{ds es:List PyData}{x:V}{d:PyData}
theorem EE.nil:EE R [] []:=(rfl,λi v d h=>by simp at h)
theorem EE.cons(h:R x d)(t:EE R xs ds):EE R (x::xs) (d::ds):=by
 refine (by simp[t.1],λi v e a b=>?_)
 cases i with
 |zero=>cases a;cases b;exact h
 |succ i=>exact t.2 i v e (by simpa using a) (by simpa using b)
theorem mM{H:Hp}(h:H a=some (.tup xs))(g:EE (Rp H n) xs ds):Rp H (n+1) (.ref a) (.tuple ds):=.inr<|.inr (a,xs,ds,rfl,rfl,h,g.1,g.2)
end
theorem Ak.le{i j:Int}(h:Ak n j)(l:i.natAbs<=j.natAbs):Ak n i:=Ak.of<|Q5 l h.lt
theorem Ak.up{n m:Nat}(h:Ak n i)(l:n<=m):Ak m i:=Q0 h l
theorem Ak.mulT(h:Ak 1000000 i)(h':Ak 1000000 j):IntMulOk i j:=Ak.mul (h.up ∅)<|h'.up ∅
theorem Ak.mulG(h:Ak 1000000 i)(h':Ak 4000 j):IntMulOk i j:=h.mulT<|h'.up ∅
theorem Ak.times(h:Ak n i)(h':Ak m j):Ak (n+m) (i*j):=Ak.of (by
 rw[Qj,Wd];exact Nat.mul_lt_mul'' h.lt h'.lt)
theorem Ak.log{i:Int}(h:Ak n i)(a:i≠0):i.natAbs.log2<n:=by
 have:i.natAbs.log2+1<=n:=by unfold Ak Builtin.Int.intBits at h;simpa [a] using h
 omega
def AT{a:Type}(R:V->a->Prop)(xs:List V)(ds:List a):Prop:=xs.length=ds.length/\∀(i:Nat) v d,xs[i]?=some v->ds[i]?=some d->R v d
section
variable{β:Type}{R R':V->β->Prop}{xs ys:List V}{ds es:List β}{x:V}{d:β}
theorem AT.nil:AT R [] []:=(rfl,λi v d h=>by simp at h)
theorem AT.cons(h:R x d)(t:AT R xs ds):AT R (x::xs) (d::ds):=by
 refine (by simp[t.1],λi v e a b=>?_)
 cases i with
 |zero=>cases a;cases b;exact h
 |succ i=>exact t.2 i v e (by simpa using a) (by simpa using b)
theorem AT.mono(h:AT R xs ds)(f:∀v d,R v d->R' v d):AT R' xs ds:=(h.1,λi v d a b=>f v d<|h.2 i v d a b)
theorem AT.append(h:AT R xs ds)(g:AT R ys es):AT R (xs++ys) (ds++es):=by
 refine (by rw[Qi,Qi,h.1,g.1],λi v e b a=>?_);have l:=h.1
 by_cases hi:i<xs.length
 ·rw[U3 hi] at b;rw[U3 ⋯] at a;exact h.2 i v e b a
 ·rw[Ue ⋯] at b a;rw[<-l] at a;exact g.2 _ v e b a
theorem AT.set(h:AT R xs ds)(n:Nat)(g:R x d):AT R (xs.set n x) (ds.set n d):=by
 refine (by rw[U7,U7,h.1],λi v e b a=>?_);rw[sY] at b a;have l:=h.1
 split at b
 ·rename_i c
  rw[qK c] at a
  split at b
  ·rename_i f
   rw[qK ⋯] at a
   cases b;cases a;exact g
  ·cases b
 ·rename_i c
  rw[qI c] at a;exact h.2 i v e b a
theorem AT.one(h:R x d):AT R [x] [d]:=.cons h .nil
theorem AT.get(h:AT R xs ds){i:Nat}(a:xs[i]?=some x):∃d,ds[i]?=some d/\R x d:=by
 obtain ⟨d,e⟩:=Kq a h.1;exact (d,e,h.2 i x d a e)
end
section
variable{X:Cx}{k:Nat}
theorem Xd{x y:V}(r:Al [x,y] us):∃u v,us=[u,v]/\RelV x u/\RelV y v:=by
 cases r with
 |cons r t=>cases t with
  |cons a b=>cases b;exact (_,_,rfl,r,a)
end
def VX(K:Ac)(a:Addr)(n:Nat):It :=
 (λi H=>i<n/\∃b,AR K H a b/\b.length=n,λi H x c=>c=H/\∀b,AR K H a b->b[n-1-i]?=some x,λi _=>i=n)
theorem iQ{K:Ac}(a it:Addr)(n:Nat):DB P w K U (VX K a n) [it] it (λi h=>h.IsRevIter it a<|(n:Int)-1-(i:Int)) where
 mem:=by simp
 obj:=λi h f b l=>by
  have e:b=it:=by simpa using l
  subst e;obtain ⟨o,e,c,d⟩:=f;exact (o,e,λv z=>by rw[d] at z;cases z)
 keep:=λi h q f k=>f.at λo e=>k it (by simp) o e
 item:=by
  intro X B C F O i g s Q H E I r f m;subst B C F;obtain ⟨hi,N,L,hn⟩:=m;obtain ⟨Z,R,p,hz⟩:=I.list L;have M:N[n-1-i]?=some (N[n-1-i]'⋯):=Q6 ⋯;obtain ⟨u,hu,W⟩:=R.get M;obtain ⟨D,y,f2,t,A,J⟩:=r it (by simp);have G:(n:Int)-1-(i:Int)=((n-1-i:Nat):Int):=⋯;rw[G] at f;refine wpAny_pyNext_rev_item f p.isList (x:=u) (by simpa using hu) λq j Y=>?_;have T:((n-1-i:Nat):Int)-1=(n:Int)-1-((i+1:Nat):Int):=⋯;rw[T] at j;have I1:Inv X g Q H { s with heap:=q }:=I.turned (t':=s.toks) (λb o l e=>(Y.2 b l).trans e) D y t A J;obtain ⟨o,e,c,d⟩:=id j;exact (u,rfl,Ja (s:={ s with heap:=q }) e c d ∅ (_,H,I1,W,(rfl,λys hy=>by rw[I.list_inj hy L];exact M),j,λb l=>(r b l).1))
 done:=by
  intro X B C F O i g s Q H E I r f m;subst B C F;have m:=m;subst m;obtain ⟨D,y,f2,t,A,J⟩:=r it (by simp);have G:(i:Int)-1-(i:Int) = -1:=⋯;rw[G] at f;exact wpAny_pyNext_rev_end (I.ok.hd O) f λq S=>(rfl,I.turned (t':=s.toks) (λb o l e=>S b o l e) D y t A J)
 self:=λ_ _ _ _ _ f h=>wpAny_pyIter_revIter f h
section
variable{X:Cx}{tg:Expr}
inductive Vs (K:Ac) (vs:List V) (H1:Hp) (R:It->Hp->Prop):Prop
 |mk (a:Addr) (xs:List V) (_:vs=[.ref a]) (_:AR K H1 a xs) (_:R (VX K a xs.length) H1):Vs K vs H1 R
def Xp(K:Ac)(b:TA):TI:=λa H R=>b a H λc d=>Vs K c d R
theorem nO{e1:Expr}{p pos:Pos}(n:Gl X "reversed") (v:X.mg "reversed" = none) (l:PA X [e1] k) (m:starEach [e1] X.env=[(false,eval e1 X.env)]:=by rfl) :
 PI X tg (.Call (.Name "reversed" p) [e1] [] pos) (Xp X.K k):=by
 intro d s A H R I h;refine q8<|EH I n v PyProof.Rows.Boot.«reversed»<|qV (Ax (l pos d s A H _ I h) λD c ⟨E,C,g,x,z⟩=>?_) (by rw[m]; rfl) (by rfl);obtain ⟨a,i,e,t,q⟩:=z;subst e;obtain ⟨u,rfl,y⟩:=Fw x
 cases (show u=Value.ref a from y)
 obtain ⟨f,r,w,_⟩:=g.list t;have F:=r.length;refine call_reversed_list w.isList ?_;have j:({ c with heap:=c.heap.push (revObj a<|(f.toArray.size:Int)-1) }:Shared).heap.IsRevIter c.heap.objs.size a ((i.length:Int)-1-((0:Nat):Int)):=by
  refine (_,qO _ rfl,rfl,?_);have:(f.toArray.size:Int)-1=(i.length:Int)-1-((0:Nat):Int):=by rw[Qh]; omega
  rw[<-this]; rfl
 refine wpAny_pyIter_revIter j ?_;refine (c.heap.objs.size,[c.heap.objs.size],_,_,C,rfl,g.kept (t':=c.toks) λb o e=>qJ _ e,iQ a _ i.length,j,λb B=>?_,q);have e:b=c.heap.objs.size:=by simpa using B
 subst e;exact g.fpOk (Q4 _)<|g.hok.fresh<|Q4 _
end
def J7(H:Hp)(x y:V)(b:Bool):Prop:=(∃i j:Int,x = .int i/\y = .int j/\b=decide (i=j)) ∨
 (∃(a c:Addr) (f g e d:Int),x = .ref a/\y = .ref c/\H a=some (.tup [.int f,.int g])/\H c=some (.tup [.int e,.int d])/\b=(decide (f=e)&&decide (g=d)))
section
variable{X:Cx}{k:Nat}
inductive Md (x y:V) (H:Hp) (Q:VK):Prop
 |mk (b:Bool) (_:J7 H x y b) (_:Q (.bl b) H):Md x y H Q
inductive OG (x y:V) (H:Hp) (Q:VK):Prop
 |mk (b:Bool) (_:J7 H x y b) (_:Q (.bl !b) H):OG x y H Q
theorem Vo{n1 d1 n2 d2:Int}{A:Around}(I:Inv X g σ H s)(w:H a=some (.tup [.int n1,.int d1]))(z:H c=some (.tup [.int n2,.int d2]))(v:A.units<cLine) :
 SeqAt.RcAt A s (.ref a) (.ref c) (decide (n1=n2)&&decide (d1=d2))/\SeqAt.RcNeAt A s (.ref a) (.ref c) (!(decide (n1=n2)&&decide (d1=d2))):=by
 obtain ⟨C,B,u,_⟩:=I.tuple<|AI.of w;obtain ⟨E,J,rfl,o,i⟩:=Xd B;obtain ⟨b,rfl⟩:=o;obtain ⟨f,rfl⟩:=i;obtain ⟨D,y,p2,_⟩:=I.tuple<|AI.of z;obtain ⟨G,F,rfl,m,n⟩:=Xd y;obtain ⟨h,rfl⟩:=m;obtain ⟨d,rfl⟩:=n;have r:∀(j:Nat) (t:j<(#[Value.int n1 b,Value.int d1 f]:Array Value).size) (x:j<(#[Value.int n2 h,Value.int d2 d]:Array Value).size),SeqAt.EqAt A.in1 s (#[Value.int n1 b,Value.int d1 f]:Array Value)[j] (#[Value.int n2 h,Value.int d2 d]:Array Value)[j] (if j=0 then n1==n2 else d1==d2):=λj t x=>by
  have l:=t
  match j,l with
  | 0,_=>exact SeqAt.EqAt.int_int n1 b n2 h
  | 1,_=>exact SeqAt.EqAt.int_int d1 f d2 d
 have e:((List.range<|min (#[Value.int n1 b,Value.int d1 f]).size (#[Value.int n2 h,Value.int d2 d]).size).all (λj=>if j=0 then n1==n2 else d1==d2)&&(#[Value.int n1 b,Value.int d1 f]).size==(#[Value.int n2 h,Value.int d2 d]).size)=(decide (n1=n2)&&decide (d1=d2)):=by
  show ((n1==n2)&&((d1==d2)&&true)&&true)=_;rw[Bool.and_true,Bool.and_true]
  rfl
 have p:=SeqAt.RcAt.tuples (A:=A) (e:=λj=>if j=0 then n1==n2 else d1==d2) u p2 v r;have q:=SeqAt.RcNeAt.tuples (A:=A) (e:=λj=>if j=0 then n1==n2 else d1==d2) u p2 v r;rw[e] at p q;exact (p,q)
theorem OA(l:Av k X.A):B3 X (compareOp .Eq) Md:=by
 intro d s g H x y v u Q I e f h;obtain ⟨b,m,q⟩:=h;rcases m with ⟨i,j,rfl,rfl,rfl⟩|⟨a,c,n1,d1,n2,d2,rfl,rfl,ha,hc,rfl⟩
 ·refine BO d s g H _ _ v u Q I e f (rfl,?_);have:decide (V.int i=V.int j)=decide (i=j):=by rw[Kj];rfl
  rw[this];exact q
 ·cases e
  cases f
  have n:X.A.units<cLine:=by have:=l.units;omega
  exact (Vo I ha hc n).1 _ _ _ _ (.bl _,H,I,rfl,q)
theorem XF(l:Av k X.A):B3 X (compareOp .NotEq) OG:=by
 intro d s g H x y v u Q I e f h;obtain ⟨b,m,q⟩:=h;rcases m with ⟨i,j,rfl,rfl,rfl⟩|⟨a,c,n1,d1,n2,d2,rfl,rfl,ha,hc,rfl⟩
 ·refine Ga d s g H _ _ v u Q I e f (rfl,?_);have:decide (V.int i=V.int j)=decide (i=j):=by rw[Kj];rfl
  rw[this];exact q
 ·cases e
  cases f
  have n:X.A.units<cLine:=by have:=l.units;omega
  exact (Vo I ha hc n).2 _ _ _ _ (.bl _,H,I,rfl,q)
end
theorem YE{R:Result->Shared->Prop}{p a k g:Expr}{e:Scope}{pos:Pos}{it q:Value}(I:Nat->Shared->Prop)
 (z:∀n s,I n s->wpAny (model prog w) A (pyNext it) (λr b=>match r with
  | none=>R (.ok .next) b
  | some v=>wpAny (model prog w) A (letOwnedTupleGo a it v) (λ_ b=>wpAny (model prog w) A (assign a env v) (λ_ i=>wpAny (model prog w) A (isTrue g env<|eval g env) (λB f =>
   match B with
   | true=>wpAny (model prog w) A (eval p env) (λx l=>wpAny (model prog w) A (call (.builtin "list.append") [q,x]) (λ_ j=>∃m,m<n/\I m j) (λ_ _=>False) l) (λ_ _=>False) f
   | false=>∃m,m<n/\I m f)
   (λ_ _=>False) i) (λ_ _=>False) b) (λ_ _=>False) b) (λ_ _=>False) s)
 (n:Nat) (h:I n s) :
 codeAny (model prog w) A (.compLoop (.ListComp p [(a,k,[g],0)] e pos) 0 it q env) R s:=by
 refine codeAny_loop rfl I (λn s C=>?_) n h;show wpAny _ _ ((compTurn (.ListComp p [(a,k,[g],0)] e pos) 0 it q env).onRaise (λx=>do noteFrame x env; theTreesLotGoes x)) _ _ s;refine wpAny_noted ?_;rw[compTurn_list];refine qM<|wpAny_standAt<|qM<|rE (z n s C) (λr b c=>?_) λ_ _ d=>False.elim d
 cases r with
 | none=>exact qS c
 | some v =>
  refine qM<|rE c (λ_ b c=>?_) λ_ _ d=>False.elim d;refine qM<|rE c (λ_ i u=>qM<|rE (wpAny_tests_one u) (λB f o=>?_) λ_ _ d=>False.elim d) λ_ _ d=>False.elim d
  cases B with
  | false=>exact qS (rfl,o)
  | true =>
   exact qM<|qM<|rE o (λx l y=>qM<|rE y (λ_ j t=>qS<|qS (rfl,t)) λ_ _ d=>False.elim d) λ_ _ d=>False.elim d
def V4(k:Nat)(caps:List (Nat×Str))(g:TG)(l:TT)(te:TE)(σ:St)(J:It)(H:Hp)(Q:List V->Hp->Prop):Prop :=
 ∃W:Nat->Nat->List V->Hp->Prop,(∃m,W 0 m [] H)/\∀i m d f,W i m d f->d.length<=sizeLine/\((J.stop i f/\Q d f) ∨
  (J.go i f/\d.length<sizeLine/\∃(N:V->Hp->Prop) (j:Hp->Prop),(∀v a,N v a->∃e,e<m/\W (i+1) e (d++[v]) a)/\(∀a,j a->∃e,e<m/\W (i+1) e d a) ∧
   ∀x h,J.yld i f x h->g x (CY k caps σ) h λc n=>(∀(i:Nat) v,(CY k caps σ)[i]?=some (some v)->c[i]?=some (some v))/\l c n λb a=>match b with|true=>te c a N|false=>j a))
def MU(k:Nat)(caps:List (Nat×Str))(d:TI)(g:TG)(c:TT)(te:TE):TE:=λb H Q=>d b H λJ f=>V4 k caps g c te b J f λe a=>∀D,a D=none->Q (.ref D) (As a D<|.lst e)
section
variable{X:Cx}{tg iter elt cnd:Expr}{scope:Scope}{pos:Pos}{wi:TI}{g:TG}{tt:TT}{te:TE}{own:List Str}{caps:List (Nat×Str)}
theorem TN{s:Shared}{E:Value->Shared->Prop}{RR:Value->Addr->Result->Shared->Prop}{QL:List V->Hp->Prop}
 (I:Inv X O σ H s) (hc:X.calm=true) (T:DB X.prog X.w X.K tg J L it tn) (st:tn 0 s.heap) (hf:∀b∈L,Cv X O H b)
 (a1:scope.kind = .function) (Q:∀y∈scope.names,y.2 ≠ .cell) (b1:∀y,(y,NameKind.free)∈scope.names->∃c,X.env.cells.lookup y=some c) (b4:AV X scope caps)
 (hg:∀A K C,PG (A9 X scope (own++caps.map (·.2)) A K C L) tg g) (ht:∀A K C,PT (A9 X scope (own++caps.map (·.2)) A K C L) cnd tt) (he:∀A K C,PE (A9 X scope (own++caps.map (·.2)) A K C L) elt te)
 (hB:V4 own.length caps g tt te σ J H QL)
 (d8:∀D C P m ys F,s.heap.objs.size<=C->D≠C->P.heap.Ns C m->Inv X O σ (As F D<|.lst ys) P->F D=none->F C=none->QL ys F->RR (.ref D) C (.ok .next) P) :
 wpAny (model X.prog X.w) X.A (newList []) (λc4 B=>wpAny (model X.prog X.w) X.A (newFunctionEnv scope X.env.globals (DY X.env.cells scope.names []) [] X.env.qual none .none<|some X.env) (λa9 c6 =>
  codeAny (model X.prog X.w) X.A (.compStart (.ListComp elt [(tg,iter,[cnd],0)] scope pos) 0 (.ref it) c4 { a9 with scope:=relabel scope X.env }) (RR c4 a9.locals) c6) E B) E s:=by
 refine wpAny_newObj_type (wpAny_newFunctionEnv Q (by intro y hy; simp at hy) (λG w h=>?_) a1)
 dsimp only at w h ⊢
 generalize hH2:s.heap.push { cls:=.type "list", dict:=none,data:=.seq ([]:List Value).toArray }=H2 at w h ⊢;have hC:H2.objs.size=s.heap.objs.size+1:=by rw[<-hH2,sO]
 generalize hCC:H2.objs.size=C at *;have R:s.heap.objs.size<=C:=by rw[hC]; exact Ud _
 generalize hDD:s.heap.objs.size=D at *;have a7:D≠C:=by rw[hC]; exact Qb<|Ut _
 have j:∀b,b<D->b≠C/\b≠D:=λb a=>(by rw[hC]; exact Qb<|Nat.lt_succ_of_lt a,Qb a);have N:∀ {b o},s.heap.get? b=some o->b<D:=fun {b o} e=>by rw[<-hDD]; exact qN e
 have M:∀b o,s.heap.get? b=some o->G.get? b=some o:=λb o e=>h.extBut b o (j b<|N e).1<|qJ _<|hH2 ▸ qJ _ e;have b6:G.get? D=some { cls:=.type "list", data:=.seq ([]:List Value).toArray 0 }:=h.extBut _ _ a7<|qJ _<|hH2 ▸ (hDD ▸ qO _ rfl);have a3:∀b∈L,b<D:=λb a=>let ⟨o,e,_⟩:=T.obj 0 _ st b a; N e;have c7:∀b,D<=b->s.heap.get? b=none:=λb a=>by
  cases e:s.heap.get? b with
  | none=>rfl
  | some o=>exact absurd (N e)<|Nat.not_lt.mpr a
 have nH:∀b,D<=b->H b=none:=λb a=>I.hok.fresh (by rw[hDD]; exact a)
 let Y:Cx:=A9 X scope (own++caps.map (·.2)) s H C L
 have a6:Y.Ok:=RQ I a1 Q b1 (by rw[hDD]; exact R) hf (by rw[hDD]; exact a3);have a4:∀x c,(DY X.env.cells scope.names []).lookup x=some c->X.env.cells.lookup x=some c:=λx c e=>KP scope.names [] (λp t=>(nomatch t)) (x,c)<|qY e;have a5:∀x c,X.env.cells.lookup x=some c->c<D:=λx c e=>by
  obtain ⟨v,o,ho,_⟩:=I.cell x c e;exact N ho
 have b2:∀b∈BH X.stack,b<D:=λb a=>by
  rcases Qd.mp (I.stkSub b a) with e | e
  ·rw[e,<-hDD]; exact I.lt
  ·obtain ⟨_,o,ho,_⟩:=I.funs.mem e
   exact N ho
 have I0:Inv Y [] (CY own.length caps σ) H { s with heap:=G,toks:=s.toks+([]:List (Str×Value)).length }:=by
  refine (a6,rfl,I.bare,Un.kept M,(_,w,λi x v h1 h2 h3=>?_),λx c e=>?_,nH C R,λx c e=>I.freeC x c<|a4 x c e,λp t=>?_,I.hok.kept M,?_)
  ·obtain ⟨hk,p,t,hv⟩:=Rx h2
   have b8:caps[i-own.length]?.map (·.2)=some x:=by
    have:(own++caps.map (·.2))[i]?=some x:=h1;rw[Ue hk,Q7] at this;exact this
   rw[t] at b8
   cases b8
   obtain ⟨q1,q2,q3⟩:=b4.mem p<|Ql t;obtain ⟨m,hn,hl⟩:=I.loc;obtain ⟨u,r,l⟩:=hl p.1 p.2 v q1 hv (by rcases q3 with z | z; exact .inr<|.inl z; exact .inr<|.inr z);refine (u,r,.inr (SX q2,?_));rcases l with ⟨z,_⟩ | ⟨_,c,hc',z⟩
   ·rcases q3 with y | y <;> (rw[y] at z; cases z)
   ·have hm:(p.2,NameKind.free)∈scope.names:=qY q2
    obtain ⟨d,hd⟩:=LI scope.names [] hm (c,hc');obtain ⟨d',b3⟩:=K3 hd;have e:=a4 _ _ b3;rw[hc'] at e
    cases e
    obtain ⟨oc,ho,e0⟩:=z;exact (c,b3,oc,M _ _ ho,e0)
  ·obtain ⟨v,o,ho,hd⟩:=I.cell x c<|a4 x c e
   exact (v,o,M _ _ ho,hd)
  ·exact absurd (show p∈([]:List (Addr×Obj)) from t) (by simp)
  ·rw[UC]
   show _=(own++caps.map (·.2)).length;rw[Qi,Q1]
 have S:∀ {f:List Value} {n:Nat} {b0:St} {F:Hp} {P:Shared},Inv Y [] b0 F P->F D=none->P.heap.get? D=some { cls:=.type "list", data:=.seq f.toArray n }->Inv Y [(D,{ cls:=.type "list", data:=.seq f.toArray n })] b0 F P:=fun {f n b0 F P} J hn e =>
  J.pins_of λp t=>by
   have ep:p=(D,{ cls:=.type "list", data:=.seq f.toArray n }):=Qf.mp t;subst ep;refine (e,hn,a7,λz=>?_,λv z=>by cases z);exact absurd (b2 D z)<|Qs _
 obtain ⟨W,⟨m0,w0⟩,a0⟩:=hB;have b7:∀ {F:Hp} {pins':List (Addr×Obj)},(∀b∈L,F b=none)->(∀p∈pins',∀b∈L,p.1≠b)->∀b∈L,Cv Y pins' F b:=fun {F pins'} hn t b a =>
  (hn b a,(a6.exf b a).1,a6.exfs b a,.inl a,(a6.exf b a).2,λp q=>t p (by simpa [Y,A9] using q) b a)
 have a8:∀B:Shared,B={ s with heap:=G,toks:=s.toks+([]:List (Str×Value)).length } →
  codeAny (model X.prog X.w) X.A (.compLoop (.ListComp elt [(tg,iter,[cnd],0)] scope pos) 0 (.ref it) (.ref D)<|compEnvC scope (DY X.env.cells scope.names []) C X.env) (RR (.ref D) C) B:=by
  rintro B rfl;refine YE (λk P=>∃(i:Nat) (ys:List V) (f:List Value) (n:Nat) (F:Hp),Inv Y [(D,{ cls:=.type "list", data:=.seq f.toArray n })] (CY own.length caps σ) F P/\tn i P.heap/\(∀b∈L,F b=none)/\Al ys f/\W i k ys F) ?_ m0
   (0,[],[],0,H,S I0 (nH D<|Q4 _) b6,T.keep _ _ _ st λb _ o e=>M b o e,λb a=>(hf b a).1,.nil,w0)
  rintro k s3 ⟨i,ys,f,n,H3,I3,c2,e2,rv,w3⟩;obtain ⟨pD,nD,_⟩:=I3.pin (D,{ cls:=.type "list", data:=.seq f.toArray n })<|Qm _ Wc;have ff:=b7 (pins':=[(D,{ cls:=.type "list", data:=.seq f.toArray n })]) e2 (λp t b a=>by
   rw[Qf.mp t]; exact (rC (j b<|a3 b a).2))
  obtain ⟨c0,a0⟩:=a0 i k ys H3 w3;rcases a0 with ⟨stop,q⟩ | ⟨go,hsz',NN,N0,hNN,hN0,step⟩
  ·refine Ax (T.done Y rfl rfl rfl hc i _ s3 _ H3 _ I3 ff c2 stop) λr s4 ⟨hr,I4⟩=>?_
   subst hr;obtain ⟨m4,c8,_⟩:=I4.loc;obtain ⟨e3,c5,_⟩:=I4.pin (D,{ cls:=.type "list", data:=.seq f.toArray n })<|Qm _ Wc;refine d8 D C s4 m4 ys H3 R a7 c8 ?_ c5 I4.free q;have hk:=I4.base;have b9:Cm X.prog X.w H3 s4.heap:=I4.hok;have U:∀b u,H3 b=some u->b≠D:=λb u e z=>by rw[z,c5] at e; cases e
   refine I.call' (ch:=L) I4.os (λb o e n a hx=>hk.keep b o e n a hx,λb o e n a hx=>hk.slot b o e n a hx,λb o e n hx=>?_,λb o e hx=>hk.there b o e hx,λb xs e=>?_,λb o u e=>?_,λb ps e=>?_) ?_ I4.bare ?_
   ·rw[AL (j b<|N e).2]; exact hk.free b o e n hx
   ·have:=hk.tups b xs e
    rw[AL<|U b _ this]; exact this
   ·have:=hk.frzs b o u e
    rw[AL<|U b _ this]; exact this
   ·obtain ⟨c3,e'⟩:=hk.tbls b ps e
    exact (c3,by rw[AL<|U b _ e']; exact e')
   ·intro b u e
    by_cases a:b=D
    ·subst a
     rw[A4] at e
     cases e
     exact (c0,f,n,rv,e3)
    ·rw[AL a] at e
     exact (b9 b u e).stay (λc v _ q=>q) (λc q=>by rw[AL<|U c _ q]; exact q) λc xs q=>by rw[AL<|U c _ q]; exact q
   ·intro b a
    obtain ⟨_,f1,_,f3,f4,f5⟩:=hf b a;exact (f3,f1,f4,f5)
  ·refine Ax (T.item Y rfl rfl rfl hc i _ s3 _ H3 _ I3 ff c2 go) λr s4 ⟨u,hr,h4⟩=>?_
   subst hr;refine Ax h4 λ_ s5 ⟨x,H5,I5,r5,y5,Z,e4⟩=>?_;have d2:=b7 (pins':=[(D,{ cls:=.type "list", data:=.seq f.toArray n })]) e4 (λp t b a=>by
    rw[Qf.mp t]; exact (rC (j b<|a3 b a).2))
   have d3:=I5.pinned d2<|T.obj _ _ Z;refine Ax (hg s H C _ s5 _ H5 x u _ d3 r5<|step x H5 y5) λ_ s6 ⟨a2,H6,I6,wk,q6⟩=>?_;refine Ax (ht s H C _ s6 a2 H6 _ I6 q6) λbb s6 ⟨H6,I6,q6⟩=>?_
   cases bb with
   | false =>
    have q6:N0 H6:=q6;obtain ⟨m',hm,w7⟩:=hN0 H6 q6;have c9:tn (i+1) s6.heap:=T.keep _ _ _ Z λb a o e=>(I6.pin (b,o)<|Qm _<|Qm _<|Go a e).1;have d5:∀b∈L,H6 b=none:=λb a=>by
     obtain ⟨o,e,d⟩:=T.obj _ _ Z b a;exact (I6.pin (b,o)<|Qm _<|Qm _<|Go a e).2.1
    obtain ⟨e5,d6,_,_,_⟩:=I6.pin (D,{ cls:=.type "list", data:=.seq f.toArray n })<|Qm _<|sF _ Wc;have I8:Inv Y [] a2 H6 s6:=I6.pins_of λp t=>(nomatch t);have I9:Inv Y [] (CY own.length caps σ) H6 s6:=I8.weak (by rw[I0.len,I8.len]) wk;exact (m',hm,i+1,ys,f,n,H6,S I9 d6 e5,c9,d5,rv,w7)
   | true =>
    have q6:te a2 H6 NN:=q6;refine Ax (he s H C _ s6 a2 H6 _ I6 q6) λy s7 ⟨v,H7,I7,r7,n7⟩=>?_;obtain ⟨m',hm,w7⟩:=hNN v H7 n7;obtain ⟨e1,c1,_,_,_⟩:=I7.pin (D,{ cls:=.type "list", data:=.seq f.toArray n })<|Qm _<|sF _ Wc;refine append_at (n:=n) e1 (λh' b5 d9=>?_) (by rw[Qh,<-rv.length]; exact c0);have d4:tn (i+1) s7.heap:=T.keep _ _ _ Z λb a o e=>(I7.pin (b,o)<|Qm _<|Qm _<|Go a e).1;have d7:∀b∈L,H7 b=none:=λb a=>by
     obtain ⟨o,e,d⟩:=T.obj _ _ Z b a;exact (I7.pin (b,o)<|Qm _<|Qm _<|Go a e).2.1
    have I8:Inv Y [] a2 H7 s7:=I7.pins_of λp t=>(nomatch t);have I9:Inv Y [] (CY own.length caps σ) H7 s7:=I8.weak (by rw[I0.len,I8.len]) wk;have d0:Inv Y [] (CY own.length caps σ) H7 { s7 with heap:=h' }:=I9.turned (t':=s7.toks) (it:=D) (λb o a e=>b5.extBut b o a e) c1 a7 (.inr<|Wt hDD) (λx c e=>Qb<|a5 x c<|a4 x c e)<|λp t=>absurd (show p∈([]:List (Addr×Obj)) from t) (by simp);refine (m',hm,i+1,ys++[v],f++[y],n+1,H7,S d0 c1 ?_,?_,d7,rv.append<|.cons r7 .nil,w7)
    ·rw[d9,List.push_toArray]
    ·exact T.keep _ _ _ d4 λb a o e=>b5.extBut b o (j b<|a3 b a).2 e
 have d1:tn 0 G:=T.keep _ _ _ st λb _ o e=>M b o e;exact codeAny_compStart_list (a8 _ rfl)<|T.self _ 0 _ _ _ d1<|a8 _ rfl
theorem oK(own:List Str)(caps:List (Nat×Str))(hc:X.calm=true)(S:PI X tg iter wi)(hg:∀k a d C,PG (A9 X scope (own++caps.map (·.2)) a d C k) tg g)(R:∀k a d C,PT (A9 X scope (own++caps.map (·.2)) a d C k) cnd tt)(P:∀k a d C,PE (A9 X scope (own++caps.map (·.2)) a d C k) elt te)
 (t:AV X scope caps)
 (G:(scope.names.all λy=>!(y.2==NameKind.free)||(X.env.cells.lookup y.1).isSome)=true:=by rfl)
 (f:scope.kind = .function:=by rfl) (r:∀y∈scope.names,y.2 ≠ .cell:=by decide +kernel)
 (j:∀y∈scope.names,y.2 = .local->scope.names.lookup y.1=some .local:=by decide +kernel) (N:∀x,foldedSetIterable iter X.env x=pure x:=by intro _; rfl) :
 PE X (.ListComp elt [(tg,iter,[cnd],0)] scope pos) (MU own.length caps wi g tt te):=by
 intro l s L H Q I h;have i:=JZ G;have n:=Lx i;rw[eval_ListComp];refine sL (use:=none) rfl N n f j<|Ax (S l s L H _ I h) λv s1 h1=>Ax h1 λO s2 Y=>?_;obtain ⟨it,k,tn,J,H2,e,u,T,F,f2,W⟩:=Y;subst e;refine TN (RR:=λB C=>compPost (model X.prog X.w) X.A X.xe none (EP X l L Q) B C) u hc T F f2 f r i t (hg k) (R k) (P k) W ?_;intro D C s' m ys Z w E hn I3 M nC q;refine (m,hn,λh' A=>(.ref D,As Z D<|.lst ys,?_,rfl,q D M));exact I3.turned (t':=s'.toks) (it:=C) (λb o hb e=>A.extBut b o hb e) (by rw[AL<|rC E]; exact nC) (rC<|Qb<|Q9 u.lt w) (.inr<|Q0 u.sz w)
  (λx c e z=>by
   obtain ⟨v,o,K,_⟩:=u.cell x c e;rw[z] at K;exact absurd (Q9 (qN K) w)<|Qs _)
  (λp U z=>by
   have:=(u.pin p U).1;rw[z] at this;exact absurd (Q9 (qN this) w)<|Qs _)
theorem Yp{i:Nat}{x:Str}{d u:Pos}(own:List Str)(caps:List (Nat×Str))(hN:X.N.Nodup)(N:X.N[i]?=some x)(Z:X.env.scope.names.lookup x=some .local)(hc:X.calm=true)(hi:PI X tg iter wi)
 (hg:∀t f j C,PG (A9 X scope (own++caps.map (·.2)) f j C t) tg g) (ht:∀t f j C,PT (A9 X scope (own++caps.map (·.2)) f j C t) cnd tt) (he:∀t f j C,PE (A9 X scope (own++caps.map (·.2)) f j C t) elt te)
 (B:AV X scope caps)
 (W:(scope.names.all λy=>!(y.2==NameKind.free)||(X.env.cells.lookup y.1).isSome)=true:=by rfl)
 (P:swapsWith (.ListComp elt [(tg,iter,[cnd],0)] scope pos) (some<|.Name x d) u.line X.env=pure true:=by rfl)
 (l:scope.kind = .function:=by rfl) (A:∀y∈scope.names,y.2 ≠ .cell:=by decide +kernel)
 (r:∀y∈scope.names,y.2 = .local->scope.names.lookup y.1=some .local:=by decide +kernel) (hs:∀x,foldedSetIterable iter X.env x=pure x:=by intro _; rfl) :
 PS X (.Assign [.Name x d] (.ListComp elt [(tg,iter,[cnd],0)] scope pos) u) (KU (MU own.length caps wi g tt te)<|DK i):=by
 intro k s σ H Y I h;have n:=JZ W;have w:=Lx n;rw[exec_Assign_Name_used _ _ _ _ P];refine qM<|wpAny_standAt<|qM ?_;show wpAny _ X.A (do let _ ← comprehension (.ListComp elt [(tg,iter,[cnd],0)] scope pos) scope X.env _ (newList []) false (eval iter X.env) (some<|assign (.Name x d) X.env)) _ _ s;refine qM<|rE (sL (use:=some<|assign (.Name x d) X.env) (Q:=λ_ G=>SP X k Y .next G) rfl hs w l r<|Ax (hi k s σ H _ I h) λv s1 h1=>Ax h1 λa0 s2 h2=>?_) (λ_ G hq=>qS<|qS hq) λ_ _ e=>e;obtain ⟨it,t,tn,J,H2,e,K,T,S,f2,hB⟩:=h2;subst e;refine TN (RR:=λO C=>compPost (model X.prog X.w) X.A X.xe (some<|assign (.Name x d) X.env) (λ_ G=>SP X k Y .next G) O C) K hc T S f2 l A n B (hg t) (ht t) (he t) hB ?_;intro D C G m ys H' L R hn I3 nD nC q;show wpAny _ X.A (assign (.Name x d) X.env<|.ref D) _ _ _;have F:C≠X.env.locals:=rC<|Qb<|Q9 K.lt L;have E:∀x c,X.env.cells.lookup x=some c->c≠C:=λx c e z=>by
  obtain ⟨v,o,ho,_⟩:=K.cell x c e;rw[z] at ho;exact absurd (Q9 (qN ho) L)<|Qs _
 refine wpAny_assign_Name<|Np I3 hN N (.inl Z) (v:=.ref D) rfl (λs4 I4 ⟨a,sb,ha⟩=>?_)<|.inr Z;have U:C≠a:=by
  rcases ha with e | e
  ·rw[e]; exact F
  ·exact rC (E x a e)
 refine (m,hn.sameBut sb U,λh' M=>(_,_,?_,q D nD));exact I4.turned (t':=s4.toks) (it:=C) (λb o hb e=>M.extBut b o hb e) (by rw[AL<|rC R]; exact nC) F (.inr<|Q0 K.sz L) E
  (λp hp z=>by
   have:=(K.pin p hp).1;rw[z] at this;exact absurd (Q9 (qN this) L)<|Qs _)
end
end Lake.L2
namespace Lake.My
open PySem L2 PyProof.Rows
noncomputable def top(i:Nat):Stmt:=PySem.Challenge.pw_turnframe_k86_roots.main.body.getD i<|.Pass (0,0,0,0)
abbrev Me:Stmt:=top 7
abbrev Pb:Stmt:=top 8
abbrev KB:Stmt:=top 9
abbrev Ng:Stmt:=top 10
abbrev N6:Stmt:=top 11
abbrev Ks:Stmt:=CW (top 13) 0
abbrev NA:Stmt:=CW (top 13) 2
abbrev Hm:Stmt:=CW (top 14) 0
abbrev NZ:Stmt:=CW (top 14) 1
abbrev PD:Stmt:=CW (top 14) 2
abbrev NL:Stmt:=CW (top 14) 3
abbrev O8:Stmt:=CW (top 14) 4
abbrev Nd:Stmt:=CW (top 14) 5
abbrev NY:Stmt:=CW (top 14) 6
abbrev P5:Stmt:=CW (top 14) 7
abbrev QD:Stmt:=CW (top 14) 8
abbrev Of:Stmt:=CW (top 15) 0
abbrev JA:Stmt:=CW (top 15) 1
abbrev P3:Stmt:=CW (top 15) 2
abbrev M4:Stmt:=CW (top 15) 3
abbrev N4:Stmt:=CW (top 15) 4
abbrev PU:Stmt:=CW (top 15) 5
abbrev Nr:Stmt:=CW (top 15) 6
abbrev Oc:Stmt:=CW (top 15) 7
abbrev Ov:Stmt:=top 17
abbrev NE:Stmt:=top 18
abbrev Nj:Stmt:=top 20
abbrev OO:Stmt:=top 21
abbrev Oy:Stmt:=CW (top 22) 0
abbrev Nv:Stmt:=CW (top 22) 2
abbrev Mh:Stmt:=CW (top 22) 3
abbrev OF:Stmt:=CW (top 22) 4
abbrev Pu:Stmt:=top 23
abbrev Ny:Stmt:=top 24
abbrev QC:Stmt:=top 25
abbrev Ky:Stmt:=top 26
abbrev LV:Stmt:=top 27
abbrev NT:Stmt:=top 28
abbrev O6:Stmt:=top 29
abbrev Nw:Stmt:=top 31
abbrev OW:Stmt:=top 32
abbrev MS:Stmt:=top 33
abbrev OD:Stmt:=top 34
abbrev Po:Stmt:=top 35
abbrev P6:Stmt:=top 36
abbrev OT:Stmt:=top 37
abbrev O4:Stmt:=top 38
abbrev MQ:Stmt:=top 39
abbrev MC:Stmt:=top 40
abbrev HY:Stmt:=top 41
abbrev Om:Stmt:=top 42
abbrev M7:Stmt:=top 43
abbrev KZ:Stmt:=top 44
abbrev NS:Stmt:=top 46
abbrev L7:Stmt:=top 47
abbrev MN:Stmt:=top 48
abbrev Mi:Stmt:=top 49
abbrev LS:Stmt:=top 50
abbrev Mv:Stmt:=top 51
abbrev Ml:Stmt:=top 52
abbrev LU:Stmt:=top 53
abbrev NV:Stmt:=top 54
abbrev Nh:Stmt:=top 55
abbrev MB:Stmt:=top 56
abbrev Mb:Stmt:=top 57
abbrev L8:Stmt:=top 58
abbrev NB:Stmt:=top 59
abbrev Nb:Stmt:=top 60
abbrev QJ:Stmt:=top 61
abbrev LY:Stmt:=top 62
abbrev Nu:Stmt:=top 63
abbrev O5:Stmt:=top 64
abbrev OQ:Stmt:=top 65
abbrev ON:Stmt:=top 66
abbrev Mq:Stmt:=top 67
abbrev NF:Stmt:=top 68
abbrev M6:Stmt:=top 69
abbrev LG:Stmt:=top 70
abbrev OI:Stmt:=top 71
abbrev Oa:Stmt:=top 72
structure Nm (mg:Ai):Prop where
 abs:mg "abs"=none
 isinstance:mg "isinstance"=none
 int:mg "int"=none
 bool:mg "bool"=none
 tuple:mg "tuple"=none
 list:mg "list"=none
 len:mg "len"=none
 range:mg "range"=none
 PB:∃t,mg "PRIME_BOUND"=some (.int 1000000 t)
theorem nm_mk{mg:Ai}{v:Value}(a:mg "PRIME_BOUND"=some v) (f:∃t,v = .int 1000000 t) (c:mg "abs"=none) (i:mg "isinstance"=none) (b:mg "int"=none) (h:mg "bool"=none) (j:mg "tuple"=none) (g:mg "list"=none) (k:mg "len"=none) (d:mg "range"=none):Nm mg :=
 (c,i,b,h,j,g,k,d,let ⟨t,e⟩:=f;(t,by rw[a,e]))
structure Kd (K:Ac) (mg:Ai) (CF CR:Addr):Prop where
 clF:BV K CF
 clR:BV K CR
 nP:AU K CR "prime"
 mkF:Nn K CF
 mgF:mg "Fractions"=some (.ref CF)
 mgR:mg "Rests"=some (.ref CR)
def En(p:Int):List (Str×V):=DV "prime" (.int p) []
theorem GJ(p:Int):(En p).lookup ("prime":Str)=some (.int p):=by
 unfold En;rw[JM,qK rfl]
theorem FQ(p:Int){m:Str}(h:¬m ="prime"):(En p).lookup m=none:=by
 unfold En;rw[JM,qI h]
 rfl
structure Fc (a b:Int):Prop where
 pos:0<b
 cop:Int.gcd a b=1
def G4(b:Addr)(H:Hp)(a:Addr):Prop:=∃c,H a=some (.ins b c [])
theorem SM{b:Int}(h:0<b):0<b.natAbs:=Uv<|Int.natAbs_ne_zero.mpr<|Int.ne_of_gt h
inductive EF (vs:List V) (H:Hp) (Q:VK) (zE:XK):Prop
 |mk (a b:Int) (_:vs=[.int a,.int b]) (_:Q (.int (Int.gcd a b)) H):EF vs H Q zE
section
variable{P:Program}{w:World}{K:Ac}{mg:Ai}{base:Heap}
theorem C4:Aa ["one","other","rest"] ["one","other"] (Ao Pb):=‹2›
theorem k6(h:Ae K mg "divisor" Pb) (T:Nm mg):AF P w K mg base "divisor" 1 ["one", "other"] EF:=by
 refine h.has (λ_ _ F=>F.b2 λ_ _ _ _ _ _ _ _=>rfl) λf p F=>F.ok C4 (λo H Q E h=>?_)<|λn A e s H o Q E q h=>?_
 ·obtain ⟨a,b,rfl,_⟩:=h
  rfl
 obtain ⟨x,y,rfl,k⟩:=h;have d:=C4.nd;refine (_,(AQ (Fq q5 (BK Ga (pv 1) Aj<|Bn _)<|AQ (Bv (i:=2) d rfl (Or.inl rfl)<|Ar D0 (pv 0)<|pv 1)
  (AQ (Bv (i:=0) d rfl (Or.inl rfl)<|pv 1)
  (Az<|Bv (i:=1) d rfl (Or.inl rfl)<|pv 2)))
  (Az<|A7<|Cf OJ (by rfl) T.abs boot_abs<|Ag (pv 0) An)),?_)
 refine (λm j l=>∃(a b:Int) (r:Option V),m=b.natAbs/\j=[some<|.int a,some<|.int b,r]/\l=H/\Int.gcd a b=Int.gcd x y,(_,x,y,none,rfl,rfl,rfl,rfl),?_);rintro m j l ⟨a,b,r,rfl,rfl,rfl,g⟩;refine (_,rfl,rfl,_,rfl,?_);refine Hz (λc=>(_,λ_ _ h=>h,?_))<|λc=>?_
 ·refine (_,rfl,_,rfl,_,_,rfl,rfl,c,_,rfl,_,rfl,?_)
  exact (_,M1.fmod_lt a c,b,a.fmod b,_,rfl,rfl,rfl,by rw[M1.fmod_gcd]; exact g)
 ·refine (_,rfl,_,rfl,?_)
  subst c;rw[<-M1.gcd_zero' a,g];exact k
theorem Co:Aa ["_law_one","_law_other"] ["_law_one","_law_other"] (Ao L7):=‹2›
theorem cQ(h:Ae K mg "_law_divisor" L7) (T:Nm mg):AF P w K mg base "_law_divisor" 1 ["_law_one","_law_other"] EF:=by
 refine h.has (λ_ _ F=>F.b2 λ_ _ _ _ _ _ _ _=>rfl) λf q F=>F.ok Co (λp H Q E h=>?_)<|λo A d s H p Q E r h=>?_
 ·obtain ⟨a,b,rfl,_⟩:=h
  rfl
 obtain ⟨x,y,rfl,k⟩:=h;have n:=Co.nd;refine (_,(AQ (Fq q5 (BK Ga (pv 1) Aj<|Bn _)<|Az<|fM (i:=0) (j:=1) rfl n rfl rfl ∅ rfl rfl (Ag (pv 1)<|Ag (Ar D0 (pv 0)<|pv 1) An) rfl)
  (Az<|A7<|Cf OJ (by rfl) T.abs boot_abs<|Ag (pv 0) An)),?_)
 refine (λm e l=>∃(a b:Int),m=b.natAbs/\e=[some<|.int a,some<|.int b]/\l=H/\Int.gcd a b=Int.gcd x y,(_,x,y,rfl,rfl,rfl,rfl),?_);rintro m e l ⟨a,b,rfl,rfl,rfl,g⟩;refine (_,rfl,rfl,_,rfl,?_);refine Hz (λc=>(_,λ_ _ h=>h,?_))<|λc=>?_
 ·refine (_,rfl,_,rfl,_,rfl,_,_,rfl,rfl,c,_,_,rfl,?_);exact (_,M1.fmod_lt a c,b,a.fmod b,rfl,rfl,rfl,by rw[M1.fmod_gcd];exact g)
 ·refine (_,rfl,_,rfl,?_);subst c;rw[<-M1.gcd_zero' a,g];exact k
end
inductive HW (vs:List V) (H:Hp) (Q:VK) (zE:XK):Prop
 |mk (i:Int) (_:vs=[.int i]) (_:Q (.bl true) H):HW vs H Q zE
section
variable{P:Program}{w:World}{K:Ac}{mg:Ai}{base:Heap}
theorem pJ:Aa ["thing"] ["thing"] (Ao Me):=‹2›
theorem kW(h:Ae K mg "is_whole" Me) (T:Nm mg):AF P w K mg base "is_whole" 1 ["thing"] HW:=by
 refine h.has (λ_ _ F=>F.b1 λ_ _ _ _ _ _ _=>rfl) λf d F=>F.ok pJ (λc H Q E h=>?_)<|λb A a s H c Q E e h=>?_
 ·obtain ⟨_,rfl,_⟩:=h
  rfl
 obtain ⟨i,rfl,k⟩:=h;refine (_,(Az<|A7<|KT (Cf Hu (by rfl) T.isinstance qZ<|Ag (pv 0)<|Ag (DU (by rfl) T.int boot_int) An)<|K4<|Q2<|Cf Hu (by rfl) T.isinstance qZ<|Ag (pv 0)<|Ag (DU (by rfl) T.bool boot_bool) An),?_);refine (_,rfl,_,_,_,_,rfl,.int i,Gg K _,_,rfl,?_);refine FE ?_;exact (_,rfl,_,_,_,_,rfl,.int i,Vd K,_,rfl,k)
theorem bW:Aa ["_law_found"] ["_law_found"] (Ao NS):=‹2›
theorem Z2(h:Ae K mg "_law_whole" NS) (T:Nm mg):AF P w K mg base "_law_whole" 1 ["_law_found"] HW:=by
 refine h.has (λ_ _ F=>F.b1 λ_ _ _ _ _ _ _=>rfl) λf d F=>F.ok bW (λc H Q E h=>?_)<|λb A a s H c Q E e h=>?_
 ·obtain ⟨_,rfl,_⟩:=h
  rfl
 obtain ⟨i,rfl,k⟩:=h;refine (_,(Az<|A7<|KT (Cf Hu (by rfl) T.isinstance qZ<|Ag (pv 0)<|Ag (DU (by rfl) T.int boot_int) An)<|K4<|Q2<|Cf Hu (by rfl) T.isinstance qZ<|Ag (pv 0)<|Ag (DU (by rfl) T.bool boot_bool) An),?_);refine (_,rfl,_,_,_,_,rfl,.int i,Gg K _,_,rfl,?_);refine FE ?_;exact (_,rfl,_,_,_,_,rfl,.int i,Vd K,_,rfl,k)
end
inductive HL (vs:List V) (H:Hp) (Q:VK) (zE:XK):Prop
 |mk (n:Int) (_:vs=[.int n]) (_:n<1000000) (_:(M2.Prm n->Q (.bl true) H)) (_:(¬M2.Prm n->Q (.bl false) H)):HL vs H Q zE
section
variable{P:Program}{w:World}{K:Ac}{mg:Ai}{base:Heap}
theorem CB:Aa ["number","trial"] ["number"] (Ao N6):=‹2›
theorem iP(h:Ae K mg "is_prime" N6) (T:Nm mg):AF P w K mg base "is_prime" 1 ["number"] HL:=by
 refine h.has (λ_ _ F=>F.b1 λ_ _ _ _ _ _ _=>rfl) λf M F=>F.ok CB (λy H Q E h=>?_)<|λD A c s H y Q E J h=>?_
 ·obtain ⟨_,rfl,_⟩:=h
  rfl
 obtain ⟨n,rfl,G,l,g⟩:=h;have q:=CB.nd;obtain ⟨C,j⟩:=T.PB;refine (_,(AQ (BX (FS (BK EW (pv 0) Aj<|Bn _)<|Hl<|BK g7 (pv 0) (WO (v:=.int 1000000) (by rfl) j (C,rfl))<|Bn _).pt (Az<|A7 GA) BW)
  (AQ (BX (BK BO (Ar BU (pv 0) Aj) Aj<|Bn _) (Az<|A7<|FY BO (pv 0) Aj<|Bn _) BW)
  (AQ (Bv (i:=1) q rfl (Or.inl rfl) Aj)
  (AQ (Fq q5 (BK Lp (Ar BM (pv 1)<|pv 1) (pv 0)<|Bn _)<|AQ (BX (BK BO (Ar D0 (pv 0)<|pv 1) Aj<|Bn _) (Az<|A7 GA) BW)
   (Az<|Lo (i:=1) q rfl (Or.inl rfl) Aj KN))
  (Az<|A7 GA))))),?_)
 refine (_,rfl,_,_,rfl,rfl,_,rfl,?_);refine Ex (λh=>FE (g λp=>by have:=p.1;omega))<|λL=>?_;refine (_,rfl,_,_,rfl,rfl,_,rfl,?_);refine Ex (λh=>absurd h ⋯)<|λ_=>?_;refine (_,rfl,_,_,rfl,rfl,(by show (0:Int)<_;decide),rfl,_,rfl,?_);refine EI (λe=>?_)<|λe=>?_
 ·refine (_,rfl,rfl,?_);rw[ND];have a:=M2.prm_even (n:=n) ⋯ e
  by_cases hp:n=2
  ·rw[rG hp];exact l<|a.mpr hp
  ·rw[q7 hp];exact g λz=>hp<|a.mp z
 refine (λm r o=>∃t:Int,m=(n+2-t).toNat/\r=[some<|.int n,some<|.int t]/\o=H/\3<=t/\t%2=1/\t<=n+2/\M2.No n t,(_,3,rfl,rfl,rfl,⋯,⋯,⋯,M2.No.odd e),?_);rintro m r o ⟨t,rfl,rfl,rfl,I,B,x,u⟩;have k:t.natAbs<=10^150:=Q0 (show t.natAbs<=1000002 by omega) ∅;refine (_,rfl,_,rfl,_,_,rfl,rfl,(Di k k),_,rfl,_,_,rfl,rfl,_,rfl,?_);refine Ex (λb=>(_,λ_ _ h=>h,?_))<|λb=>?_
 ·refine (_,rfl,_,rfl,_,_,rfl,rfl,(show t≠0 by omega),rfl,_,rfl,?_);have N:=M2.le_of_sq ⋯ b;refine EI (λz=>g<|M2.found ⋯ b<|(M2.fmod_dvd ⋯).mp z)<|λz=>?_;refine (_,rfl,_,_,rfl,rfl,?_);exact (_,⋯,t+2,rfl,rfl,rfl,⋯,⋯,⋯,u.next e B λd=>z<|(M2.fmod_dvd ⋯).mpr d)
 ·exact l (u.done ⋯ ⋯ b)
theorem B9:Aa ["_law_number","_law_by"] ["_law_number"] (Ao MN):=‹2›
theorem lO(h:Ae K mg "_law_is_prime" MN):AF P w K mg base "_law_is_prime" 1 ["_law_number"] HL:=by
 refine h.has (λ_ _ F=>F.b1 λ_ _ _ _ _ _ _=>rfl) λf B F=>F.ok B9 (λr H Q E h=>?_)<|λu A b s H r Q E y h=>?_
 ·obtain ⟨_,rfl,_⟩:=h
  rfl
 obtain ⟨n,rfl,v,q,g⟩:=h;have j:=B9.nd;refine (_,(AQ (Bv (i:=1) j rfl (Or.inl rfl) Aj)
  (AQ (Fq q5 (BK Lp (Ar BM (pv 1)<|pv 1) (pv 0)<|Bn _)<|AQ (BX (BK BO (Ar D0 (pv 0)<|pv 1) Aj<|Bn _) (Az<|A7 GA) BW)
   (Az<|Bv (i:=1) j rfl (Or.inl rfl)<|Ar Bw (pv 1) Aj))
  (Az<|A7<|FY Eu (pv 0) Aj<|Bn _))),?_)
 refine (λm k e=>∃t:Int,m=(n+2-t).toNat/\k=[some<|.int n,some<|.int t]/\e=H/\2<=t/\(t<=2\/t<=n)/\M2.No n t,(_,2,rfl,rfl,rfl,⋯,⋯,M2.No.two),?_);rintro m k e ⟨t,rfl,rfl,rfl,x,o,l⟩;have c:t.natAbs<=10^150:=Q0 (show t.natAbs<=1000002 by omega) ∅;refine (_,rfl,_,rfl,_,_,rfl,rfl,(Di c c),_,rfl,_,_,rfl,rfl,_,rfl,?_);refine Ex (λa=>(_,λ_ _ h=>h,?_))<|λa=>?_
 ·refine (_,rfl,_,rfl,_,_,rfl,rfl,(show t≠0 by omega),rfl,_,rfl,?_);have C:=M2.le_of_sq ⋯ a;refine EI (λz=>g<|M2.found ⋯ a<|(M2.fmod_dvd ⋯).mp z)<|λz=>?_;refine (_,rfl,_,_,rfl,rfl,?_);exact (_,⋯,t+1,rfl,rfl,rfl,⋯,⋯,l.one λd=>z<|(M2.fmod_dvd ⋯).mpr d)
 ·refine (_,rfl,_,_,rfl,rfl,?_)
  by_cases h2:1<n
  ·rw[rG h2];exact q<|l.done ⋯ ⋯ a
  ·rw[q7 h2];exact g λp=>by have:=p.1;omega
end
inductive Lm (K:Ac) (vs:List V) (H:Hp) (Q:VK) (zE:XK):Prop
 |mk (p r:Addr) (q a0 a1 a2 b0 b1 b2:Int) (_:vs=[.ref p,.int q,.ref r]) (_:AI K H p [.int a0,.int a1,.int a2]) (_:AI K H r [.int b0,.int b1,.int b2]) (_:IntMulOk q b0) (_:IntMulOk q b1) (_:IntMulOk q b2) (_:∀t,H t=none->Q (.ref t) (As H t (.tup [.int (a0-q*b0),.int (a1-q*b1),.int (a2-q*b2)]))):Lm K vs H Q zE
section
variable{P:Program}{w:World}{K:Ac}{mg:Ai}{base:Heap}
theorem oP:Aa ["some","factor","others"] ["some","factor","others"] (Ao Ng):=‹2›
theorem pR(h:Ae K mg "less_times" Ng):AF P w K mg base "less_times" 1 ["some","factor","others"] (Lm K):=by
 refine h.has (λ_ _ F=>F.b3 λ_ _ _ _ _ _ _ _ _=>rfl) λf m F=>F.ok oP (λi H Q E h=>?_)<|λd A b s H i Q E n h=>?_
 ·obtain ⟨_,_,_,_,_,_,_,_,_,rfl,_⟩:=h
  rfl
 obtain ⟨p,r,q,l,u,x,v,o,t,rfl,c,a,e,j,g,k⟩:=h;refine (_,(Az<|A7<|DI<|Ag (Ar Cu (AY A6 (pv 0) Aj<|λ_ _=>rfl)<|Ar BM (pv 1)<|AY A6 (pv 2) Aj<|λ_ _=>rfl)<|Ag (Ar Cu (AY A6 (pv 0) Aj<|λ_ _=>rfl)<|Ar BM (pv 1)<|AY A6 (pv 2) Aj<|λ_ _=>rfl)<|Ag (Ar Cu (AY A6 (pv 0) Aj<|λ_ _=>rfl)<|Ar BM (pv 1)<|AY A6 (pv 2) Aj<|λ_ _=>rfl) An),?_);refine (_,rfl,_,_,_,_,rfl,rfl,c,rfl,_,rfl,_,rfl,_,_,_,_,rfl,rfl,a,rfl,_,_,rfl,rfl,e,_,_,rfl,rfl,?_);refine (_,rfl,_,_,_,_,rfl,rfl,c,rfl,_,rfl,_,rfl,_,_,_,_,rfl,rfl,a,rfl,_,_,rfl,rfl,j,_,_,rfl,rfl,?_);refine (_,rfl,_,_,_,_,rfl,rfl,c,rfl,_,rfl,_,rfl,_,_,_,_,rfl,rfl,a,rfl,_,_,rfl,rfl,g,_,_,rfl,rfl,?_);exact ((by show 3<=sizeLine;decide),k)
end
inductive IE (vs:List V) (H:Hp) (Q:VK) (zE:XK):Prop
 |mk (x y:Int) (_:vs=[.int x,.int y]) (_:x.natAbs<=10^100) (_:y.natAbs<=10^100) (_:∀(t:Addr) (H':Hp) (u v:Int),Ad H H'->H' t=some (.tup [.int (Int.gcd x y),.int u,.int v])->(Int.gcd x y:Int)=x*u+y*v->u.natAbs<=10^101->v.natAbs<=10^101->Q (.ref t) H'):IE vs H Q zE
section
variable{P:Program}{w:World}{K:Ac}{mg:Ai}{base:Heap}
theorem B4:Aa ["one","other","upper","lower","following"] ["one","other"] (Ao KB):=‹2›
theorem hW(h:Ae K mg "shares" KB) (c:AF P w K mg base "less_times" 1 ["some","factor","others"] (Lm K)):AF P w K mg base "shares" 2 ["one","other"] IE:=by
 refine h.has (λ_ _ F=>F.b2 λ_ _ _ _ _ _ _ _=>rfl) λf L F=>F.ok B4 (λZ H Q E h=>?_)<|λa0 A M s H Z Q E O h=>?_
 ·obtain ⟨_,_,rfl,_⟩:=h
  rfl
 obtain ⟨x,y,rfl,bx,bY,k⟩:=h;have B:=B4.nd;refine (_,(AQ (Bv (i:=2) B rfl (Or.inl rfl)<|DI<|Ag (pv 0)<|Ag Aj<|Ag Aj An)
  (AQ (Bv (i:=3) B rfl (Or.inl rfl)<|DI<|Ag (pv 1)<|Ag Aj<|Ag Aj An)
  (AQ (Fq q5 (BK Ga (AY A6 (pv 3) Aj<|λ_ _=>rfl) Aj<|Bn _)<|AQ (Bv (i:=4) B rfl (Or.inl rfl)<|BJ c O (by rfl)<|Ag (pv 2)<|Ag (Ar Jn (AY A6 (pv 2) Aj<|λ_ _=>rfl)<|AY A6 (pv 3) Aj<|λ_ _=>rfl)<|Ag (pv 3) An)
   (AQ (Bv (i:=2) B rfl (Or.inl rfl)<|pv 3)
   (Az<|Bv (i:=3) B rfl (Or.inl rfl)<|pv 4)))
  (AQ (BX (BK EW (AY A6 (pv 2) Aj<|λ_ _=>rfl) Aj<|Bn _) (Az<|A7<|BJ c O (by rfl)<|Ag (DI<|Ag Aj<|Ag Aj<|Ag Aj An)<|Ag Aj<|Ag (pv 2) An) BW)
  (Az<|A7<|pv 2))))),?_)
 refine (_,rfl,(by show 3<=sizeLine;decide),λU N=>?_);refine (_,rfl,(by show 3<=sizeLine;decide),λp1 G=>?_);have X:Ad H (As H U<|.tup [.int x,.int 1,.int 0]):=Bg N _;have S1:=X.trans<|Bg G<|.tup [.int y,.int 0,.int 1];refine (λm W v=>∃(p r:Addr) (f:Option V) (a j l b D u:Int),m=b.natAbs/\W=[some<|.int x,some<|.int y,some<|.ref p,some<|.ref r,f]/\Ad H v/\v p=some (.tup [.int a,.int j,.int l])/\v r=some (.tup [.int b,.int D,.int u])/\M1.Sh x y a j l b D u,
  (_,U,p1,none,x,1,0,y,0,1,rfl,rfl,S1,by rw[AL<|Dj A4 G];exact A4,A4,M1.Sh.start x y),?_)
 rintro m W v ⟨p,r,f,a,j,l,b,D,u,rfl,rfl,S,n,e,I⟩;have g:=I.bound;have C:x.natAbs+2*y.natAbs+1+1<=10^150:=⋯;have d:=Nat.le_of_succ_le C;refine (_,rfl,_,_,_,_,rfl,rfl,AI.of e,rfl,rfl,_,rfl,?_);refine Hz (λo=>(_,λ_ _ h=>h,?_))<|λo=>?_
 ·refine (_,rfl,_,rfl,_,_,_,_,rfl,rfl,AI.of n,rfl,_,rfl,_,_,_,_,rfl,rfl,AI.of e,rfl,_,_,rfl,rfl,(o,Q0 g.2.2.2.1 d),_,rfl,?_);have L:=Q0 (M1.fdiv_small a o)<|Q0 (Nat.succ_le_succ g.1) C;refine (p,r,a.fdiv b,a,j,l,b,D,u,rfl,AI.of n,AI.of e,Di L<|Q0 g.2.2.2.1 d,Di L<|Q0 g.2.2.2.2.1 d,Di L<|Q0 g.2.2.2.2.2 d,λt J=>?_);refine (_,rfl,_,rfl,?_);exact (_,(by rw[M1.rest_eq];exact M1.fmod_lt a o),r,t,_,b,D,u,_,_,_,rfl,rfl,S.trans<|Bg J _,by rw[AL<|Dj e J];exact e,A4,I.turn o)
 ·subst o;obtain ⟨g1,T⟩:=I.done;refine (_,rfl,_,_,_,_,rfl,rfl,AI.of n,rfl,_,_,rfl,rfl,_,rfl,?_);refine Ex (λY=>?_)<|λY=>?_
  ·refine ((by show 3<=sizeLine;decide),λz R=>?_);refine (_,rfl,?_);refine (z,p,1,0,0,0,a,j,l,rfl,AI.of A4,AI.of (by rw[AL<|Dj n R];exact n),Di ∅<|Q0 g.1 d,Di ∅<|Q0 g.2.1 d,Di ∅<|Q0 g.2.2.1 d,λt J=>?_);have q:(0:Int)-1*a=Int.gcd x y:=⋯;refine k t _ (0-1*j) (0-1*l) ((S.trans<|Bg R _).trans<|Bg J _) (by rw[A4,q]) ?_ ⋯ ⋯;rw[<-q,T,Wa,Wa,Wa,Uy,Uy];omega
  ·refine (_,rfl,?_);have q:a=Int.gcd x y:=⋯;refine k p v j l S (by rw[<-q];exact n) (by rw[<-q];exact T) ⋯ ⋯
end
def Gn(CR:Addr)(p:Int)(H:Hp)(a:Addr):Prop:=∃b,H a=some (.ins CR b<|En p)
inductive Hf (CR:Addr) (vs:List V) (H:Hp) (Q:VK) (zE:XK):Prop
 |mk (x dx:Addr) (p:Int) (_:vs=[.ref x,.int p]) (_:H x=some (.ins CR dx [])) (_:M2.Prm p) (_:p<1000000) (_:Q .non (As H x (.ins CR dx (En p)))):Hf CR vs H Q zE
section
variable{P:Program}{w:World}{K:Ac}{mg:Ai}{base:Heap}
theorem pZ:Aa ["self","prime"] ["self","prime"] (Ao Of):=‹2›
theorem aL{CR:Addr}(h:C9 K CR "Rests.__init__" Of) (g:BV K CR) (l:AU K CR "prime") (a:AF P w K mg base "is_whole" 1 ["thing"] HW) (b:AF P w K mg base "is_prime" 1 ["number"] HL):B5 P w K mg base CR 2 ["self","prime"] (Hf CR):=by
 refine h.hasI (λ_ _ F=>F.b2 λ_ _ _ _ _ _ _ _=>rfl) λf q F=>F.ok pZ (λo H Q E h=>?_)<|λi A c s H o Q E d h=>?_
 ·obtain ⟨_,_,_,rfl,_⟩:=h
  rfl
 obtain ⟨x,e,p,rfl,m,j,n,k⟩:=h;refine (_,(AQ (BX (FS (GG<|DQ<|BJ a d (by rfl)<|Ag (pv 1) An)<|Hl<|GG<|DQ<|BJ b d (by rfl)<|Ag (pv 1) An).pt (Az kL) BW)
  (Az<|R0 (pv 0) (pv 1) rfl)),?_)
 refine (_,rfl,p,rfl,_,rfl,?_);refine Ek ?_;refine (_,rfl,p,rfl,n,λ_=>(_,rfl,?_),λz=>absurd j z);refine Ek ?_;exact (_,rfl,_,rfl,x,CR,e,_,rfl,m,g,l,∅,k)
end
structure CN (K:Ac) (mg:Ai) (x:Str) (C:Addr):Prop where
 m:mg x=some (.ref C)
 c:PySem.W.isClsIn K C=true
 t:PySem.W.typeIn K (.ref C)=some (.type "type")
theorem LJ{n i:Nat}(h:i<n):DE n ((i:Nat):Int)=some i:=by
 have:=FO (xs:=List.range n) (j:=i) (v:=i) (by simp[h]);unfold CC at this;rw[Qu] at this
 cases q:DE n (i:Int) with
 |none=>rw[q] at this;cases this
 |some j =>
  rw[q] at this
  simp only[Option.bind_some] at this
  have a:=(Qr.mp this).2
  simp at a
  rw[a]
def R8(a CR:Addr)(p:Int)(H:Hp)(k:Addr):Prop:=(p=0/\G4 a H k)\/(M2.Prm p/\p<1000000/\Gn CR p H k)
def Ez(H:Hp)(p e:Int)(v:V):Prop:=(p=0/\∃t,v = .ref t/\H t=some (.tup [.int e,.int 1]))\/(0<p/\v = .int e)
theorem gS{a:List Int}{i:Nat}(h:i<a.length):CC (a.map V.int) (i:Int)=some (.int a[i]):=FO (by rw[Q7,Q6 h] <;> rfl)
def PK(p:Int):Prop:=p=0\/(M2.Prm p/\p<1000000)
def Off(D:Ay)(H b:Hp):Prop:=∀a o,a∉D->H a=some o->b a=some o
theorem Off.same(O:Off D H c)(S:Ad a H)(n:∀r∈D,a r=none):Ad a c:=λb o q=>O b o (λm=>by rw[n b m] at q;cases q)<|S _ _ q
def k7(H:Hp)(p:Int)(x y:V):Prop:=(0<p/\∃i,x = .int i/\y = .int i)\/(p=0/\∃s t a b,x = .ref s/\y = .ref t/\H s=some (.tup [.int a,.int b])/\H t=some (.tup [.int a,.int b]))
theorem Ez.eq(h:Ez H p e x)(h':Ez H p e y):k7 H p x y:=by
 rcases h with ⟨z,t,e1,h1⟩|⟨z,e1⟩
 ·rcases h' with ⟨_,t',e2,h2⟩|⟨z',_⟩
  ·exact .inr (z,t,t',_,_,e1,e2,h1,h2)
  ·omega
 ·rcases h' with ⟨z',_⟩|⟨_,e2⟩
  ·omega
  ·exact .inl (z,_,e1,e2)
class Fd (α:Type) extends Lean.Grind.CommRing α where
 inv:α->α
 mul_inv:∀a:α,a≠0->a*inv a=1
 zne:(0:α)≠1
instance:Fd Rat where
 inv:=Rat.inv
 mul_inv:=λa h=>Rat.mul_inv_cancel a h
 zne:=∅
theorem YV:∀a b:Nat,∃u v:Int,a*u+b*v=(Nat.gcd a b:Int):=by
 intro a b
 induction a,b using Nat.gcd.induction with
 |H0 n=>exact (0,1,by simp)
 |H1 m n f c =>
  obtain ⟨u,v,e⟩:=c;refine (v-(n/m:Nat)*u,u,?_);rw[Nat.gcd_rec,<-e];have h:(n:Int)=m*(n/m:Nat)+(n%m:Nat):=by
   have:=Nat.div_add_mod n m
   exact_mod_cast this.symm
  rw[Uy]
  conv=>lhs;rw[h]
  rw[Int.add_mul];generalize ((n/m:Nat):Int)=q;generalize ((n%m:Nat):Int)=r;have d:(m:Int)*(q*u)=m*q*u:=by rw[Qy]
  omega
structure BB (p:Nat):Prop where
 pr:M2.Prm (p:Int)
 lt:p<1000000
theorem BB.two(h:BB p):2<=p:=by have:=h.pr.1;omega
theorem BB.nz(h:BB p):NeZero p:=⟨by have:=h.two;omega⟩
theorem VT(h:BB p):letI:=h.nz;∀a:Fin p,a≠0->∃b:Fin p,a*b=1:=by
 letI:=h.nz
 intro a d;have o:=h.two;have i:¬(p:Int) ∣ (a.val:Int):=by
  rintro ⟨k,s⟩;have r:a.val≠0:=λz=>d<|Fin.ext (by simpa using z);have t:=a.isLt;have f:0<k:=by
   rcases Int.lt_or_le 0 k with c|c
   ·exact c
   ·have:(p:Int)*k<=0:=sB ⋯ c;omega
  have:(p:Int)*1<=p*k:=rF ⋯ ⋯;omega
 have g:=M2.prm_gcd h.pr i;obtain ⟨u,v,e⟩:=YV a.val p;have m:Nat.gcd a.val p=1:=by
  have:Int.gcd (a.val:Int) (p:Int)=Nat.gcd a.val p:=rfl;omega
 rw[m] at e;refine (((u%p).toNat,?_),?_)
 ·have:=W0 u (show 0<(p:Int) by omega);have:=Qv u (show (p:Int)≠0 by omega);omega
 ·refine Fin.ext ?_;rw[Fin.val_mul];have j:=Qv u (show (p:Int)≠0 by omega);have n:((a.val*(u%p).toNat%p:Nat):Int)=((1:Nat):Int):=by
   rw[U5,W3,Uz j,Int.mul_emod,Int.emod_emod_of_dvd _<|Int.dvd_refl _,<-Int.mul_emod];have:(a.val:Int)*u=1-p*v:=⋯;rw[this,Int.sub_emod,Int.mul_emod_right]
   simp
   exact sE ⋯ ⋯
  have l:a.val*(u%p).toNat%p=1:=by exact_mod_cast n
  have q:(1:Fin p).val=1:=by
   exact Nat.mod_eq_of_lt o
  rw[q];exact l
@[reducible] noncomputable def IQ {p:Nat} (h:BB p):Fd (Fin p) :=
 letI:=h.nz
 { (inferInstance:Lean.Grind.CommRing (Fin p)) with
  inv:=λa=>if ha:a≠0 then Classical.choose (VT h a ha) else 0
  mul_inv:=λa ha=>by
   simp only[dif_pos ha]
   exact Classical.choose_spec (VT h a ha)
  zne:=λz=>by
   have:=qW Fin.val z;have h2:=h.two;have e3:(1:Fin p).val=1:=by
    exact Nat.mod_eq_of_lt h2
   have e4:(0:Fin p).val=0:=by simp
   rw[e3,e4] at this
   cases this }
inductive KX where
 |q
 |r (p:Nat) (h:BB p)
@[reducible] def KX.F:KX->Type
 | .q=>Rat
 | .r p _=>Fin p
abbrev Ab(κ:KX):=List κ.F
abbrev MW(κ:KX):=List<|List κ.F
noncomputable instance (κ:KX):Fd κ.F:=match κ with
 | .q=>inferInstanceAs<|Fd Rat
 | .r _ h=>IQ h
def KX.P:KX->Int
 | .q=>0
 | .r p _=>p
def KX.D:(κ:KX)->κ.F->PyData
 | .q,x => .tuple [.int x.num,.int x.den]
 | .r _ _,x => .int x.val
def NR(κ:KX)(H:Hp)(v:V)(x:κ.F):Prop:=match κ with
 | .q=>∃a,v = .ref a/\H a=some (.tup [.int x.num,.int x.den])
 | .r _ _=>v = .int x.val
theorem NR.same{κ:KX}{x:κ.F}(h:NR κ H v x)(S:Ad H b):NR κ b v x:=by
 cases κ with
 |q=>obtain ⟨a,e,h⟩:=h;exact (a,e,S _ _ h)
 |r p c=>exact h
theorem NR.off{κ:KX}{t:Addr}{ys:List V}{x:κ.F}(h:NR κ H v x)(c:H t=some (.lst ys))(O:Off [t] H b):NR κ b v x:=by
 cases κ with
 |q =>
  obtain ⟨a,e,h⟩:=h;refine (a,e,O _ _ (λm=>?_) h);rw[Qf.mp m,c] at h
  cases h
 |r p d=>exact h
theorem Kl{i:Int}:Fl H (.int i) (.int i):=.inr<|.inr<|.inl (i,rfl,rfl)
theorem NR.rp{κ:KX}{x:κ.F}(h:NR κ H v x):Rp H 1 v (κ.D x):=by
 cases κ with
 |q =>
  obtain ⟨a,rfl,h⟩:=h;exact mM h<|.cons Kl<|.cons Kl .nil
 |r p b =>
  have h:=h;subst h;exact .inl Kl
def Bd(κ:KX)(n m:Nat)(x:κ.F):Prop:=match κ with
 | .q=>Ak n x.num/\Ak m (x.den:Int)
 | .r _ _=>True
theorem Jw{n d N D:Int}(b:Fc n d)(g:0<D)(e:n*D=N*d):(Rat.divInt N D).num=n/\((Rat.divInt N D).den:Int)=d:=by
 have h:=b.pos;have f:∃q:Rat,q.num=n/\(q.den:Int)=d:=by
  refine ((n,d.toNat,⋯,?_),rfl,by show ((d.toNat:Nat):Int)=d;omega);have:=b.cop;rw[Nat.coprime_iff_gcd_eq_one];have e:Int.gcd n d=Nat.gcd n.natAbs d.natAbs:=rfl;have a:d.natAbs=d.toNat:=⋯;rw[<-a];omega
 obtain ⟨q,c,a⟩:=f;have:Rat.divInt N D=q:=by
  rw[<-W4 q,c,a,Wl ⋯ ⋯];exact e.symm
 rw[this];exact (c,a)
theorem Cn(x:Rat):Fc x.num x.den:=(by have:=x.den_nz;omega,by
 have:=x.reduced;rw[Nat.coprime_iff_gcd_eq_one] at this;exact this)
theorem Vq{x y:Rat}(b:Fc n d)(e:n*((x.den:Int)*y.den)=(x.num*y.den+y.num*x.den)*d):(x+y).num=n/\((x+y).den:Int)=d:=by
 have c:=(Cn x).pos;have a:=(Cn y).pos;have:x+y=Rat.divInt (x.num*y.den+y.num*x.den) ((x.den:Int)*y.den):=by
  rw[<-sX _ _ ⋯ ⋯,W4,W4]
 rw[this];exact Jw b (Wk c a) e
theorem Th{x y:Rat}(b:Fc n d)(e:n*((x.den:Int)*y.den)=(x.num*y.num)*d):(x*y).num=n/\((x*y).den:Int)=d:=by
 have c:=(Cn x).pos;have a:=(Cn y).pos;have:x*y=Rat.divInt (x.num*y.num) ((x.den:Int)*y.den):=by
  rw[<-rL,W4,W4]
 rw[this];exact Jw b (Wk c a) e
end Lake.My
namespace Lake.L2
open PySem PySem.Spec PyProof.Rows
theorem Ak.mulH(h:Ak 1000000 i)(h':Ak 8900 j):IntMulOk i j:=h.mulT<|h'.up ∅
theorem Zl:10^2650<2^8900:=by decide +kernel
section
variable{X:Cx}
theorem F3:B3 X (binaryOp .FloorDiv) (rI (λ_ j=>j≠0/\Ak 8900 j) λi j => .int<|i.fdiv j):=FI λ_ _ _ _ _ _ _ a q=>floordiv_int a.1 q<|.inl<|rQ<|Wh (a.2.log a.1) ∅
theorem Lb:B3 X (binaryOp .FloorDiv) (rI (λ_ j=>j≠0/\j.natAbs<=10^2650) λi j => .int<|i.fdiv j):=FI λ_ _ _ _ _ _ _ a q=>floordiv_int a.1 q<|.inl<|rQ<|Wh (Ak.log (n:=8900) (Ak.of<|Q5 a.2 Zl) a.1) ∅
end
end Lake.L2
namespace Lake.My
open PySem L2 PyProof.Rows
inductive Kh (K:Ac) (CF:Addr) (vs:List V) (H:Hp) (Q:VK) (zE:XK):Prop
 |mk (s p q:Addr) (a1 b1 a2 b2:Int) (_:vs=[.ref s,.ref p,.ref q]) (_:G4 CF H s) (_:AI K H p [.int a1,.int b1]) (_:AI K H q [.int a2,.int b2]) (_:Fc a1 b1) (_:Fc a2 b2) (_:Ak 1000000 a1) (_:Ak 8900 b1) (_:Ak 1000000 a2) (_:Ak 8900 b2) (_:∀(t:Addr) (H':Hp) (x y:Int),Ad H H'->H' t=some (.tup [.int x,.int y])->H t=none->Fc x y->x*(b1*b2)=(a1*b2+a2*b1)*y->Q (.ref t) H'):Kh K CF vs H Q zE
section
variable{P:Program}{w:World}{K:Ac}{mg:Ai}{base:Heap}
theorem Bi:Aa ["self","one","other","common","ahead","top","left"] ["self","one","other"] (Ao NZ):=‹2›
theorem aA(h:Am K B "plus" "Fractions.plus" NZ) (e:AF P w K mg base "divisor" 1 ["one","other"] EF):AC P w K mg base B "plus" 2 ["self","one","other"] [] (Kh K B):=by
 refine h.hasM (λ_ _ F=>F.b3 λ_ _ _ _ _ _ _ _ _=>rfl) λf fd F=>F.ok Bi (λS H Q E h=>?_)<|λW A y s H S Q E J h=>?_
 ·obtain ⟨_,_,_,_,_,_,_,rfl,_⟩:=h
  rfl
 obtain ⟨sf,p,q,n,d,m,c,rfl,_,z,u,I,M,x,r,D,l,k⟩:=h;have v:=Bi.nd;refine (_,(AQ (Bv (i:=3) v rfl (Or.inl rfl)<|BJ e J (by rfl)<|Ag (AY A6 (pv 1) Aj<|λ_ _=>rfl)<|Ag (AY A6 (pv 2) Aj<|λ_ _=>rfl) An)
  (AQ (Bv (i:=4) v rfl (Or.inl rfl)<|Ar F3 (AY A6 (pv 1) Aj<|λ_ _=>rfl)<|pv 3)
  (AQ (Bv (i:=5) v rfl (Or.inl rfl)<|Ar Bw (Ar BM (AY A6 (pv 1) Aj<|λ_ _=>rfl)<|Ar F3 (AY A6 (pv 2) Aj<|λ_ _=>rfl)<|pv 3)<|Ar BM (AY A6 (pv 2) Aj<|λ_ _=>rfl)<|pv 4)
  (AQ (Bv (i:=6) v rfl (Or.inl rfl)<|BJ e J (by rfl)<|Ag (pv 5)<|Ag (pv 3) An)
  (Az<|A7<|DI<|Ag (Ar F3 (pv 5)<|pv 6)<|Ag (Ar BM (pv 4)<|Ar F3 (AY A6 (pv 2) Aj<|λ_ _=>rfl)<|pv 6) An))))),?_)
 have C:=I.pos;have G:=M.pos;have Z:=M3.gcd_ne (a:=d) (b:=c) ⋯;have L:Int.gcd d c<=c.natAbs:=Wm ⋯<|Wo.mpr<|W9 d c;have g:(Int.gcd d c:Int)≠0/\Ak 8900 (Int.gcd d c:Int):=(⋯,l.le (by rw[Qa];exact L));have N:=M3.fdiv_le (U0 d c) g.1;have T:=M3.fdiv_le (W9 d c) g.1;refine (_,rfl,_,_,_,_,rfl,rfl,z,rfl,_,rfl,_,_,_,_,rfl,rfl,u,rfl,d,c,rfl,?_);refine (_,rfl,_,_,_,_,rfl,rfl,z,rfl,_,rfl,_,_,rfl,rfl,g,?_);refine (_,rfl,_,_,_,_,rfl,rfl,z,rfl,_,rfl,_,_,_,_,rfl,rfl,u,rfl,_,rfl,_,_,rfl,rfl,g,_,_,rfl,rfl,x.mulH<|l.le T,_,rfl,_,_,_,_,rfl,rfl,u,rfl,_,rfl,_,_,rfl,rfl,D.mulH<|r.le N,_,_,rfl,rfl,?_);refine (_,rfl,_,rfl,_,_,rfl,?_);obtain ⟨o1,R,O,U⟩:=M3.plus_ok C G I.cop M.cop rfl;have Y:Int.gcd (n*c.fdiv (Int.gcd d c)+m*d.fdiv (Int.gcd d c)) (Int.gcd d c)<=Int.gcd d c:=Wm ⋯<|Int.ofNat_dvd.mp<|W9 (n*c.fdiv (Int.gcd d c)+m*d.fdiv (Int.gcd d c))<|Int.gcd d c;have j:(Int.gcd (n*c.fdiv (Int.gcd d c)+m*d.fdiv (Int.gcd d c)) (Int.gcd d c):Int)≠0/\Ak 8900 (Int.gcd (n*c.fdiv (Int.gcd d c)+m*d.fdiv (Int.gcd d c)) (Int.gcd d c):Int):=(by have:=M3.gcd_ne (a:=n*c.fdiv (Int.gcd d c)+m*d.fdiv (Int.gcd d c)) (b:=(Int.gcd d c:Int)) ⋯;omega,l.le (by rw[Qa];exact Q0 Y L));have d3:=M3.fdiv_le (U0 (n*c.fdiv (Int.gcd d c)+m*d.fdiv (Int.gcd d c))<|Int.gcd d c) j.1;have X:=M3.fdiv_le (Int.dvd_trans (W9 (n*c.fdiv (Int.gcd d c)+m*d.fdiv (Int.gcd d c))<|Int.gcd d c)<|W9 d c) j.1;refine (_,rfl,_,rfl,_,_,rfl,rfl,j,_,rfl,_,rfl,_,_,_,_,rfl,rfl,u,rfl,_,rfl,_,_,rfl,rfl,j,_,_,rfl,rfl,((r.le N).up ∅).mulH<|l.le X,(by show 2<=sizeLine;decide),λt o=>?_);exact k t _ _ _ (Bg o _) A4 o (R,O) U
end
inductive Nl (K:Ac) (CF:Addr) (vs:List V) (H:Hp) (Q:VK) (zE:XK):Prop
 |mk (s p q:Addr) (a1 b1 a2 b2:Int) (_:vs=[.ref s,.ref p,.ref q]) (_:G4 CF H s) (_:AI K H p [.int a1,.int b1]) (_:AI K H q [.int a2,.int b2]) (_:Fc a1 b1) (_:Fc a2 b2) (_:Ak 1000000 a1) (_:Ak 8900 b1) (_:Ak 1000000 a2) (_:Ak 8900 b2) (_:∀(t:Addr) (H':Hp) (x y:Int),Ad H H'->H' t=some (.tup [.int x,.int y])->H t=none->Fc x y->x*(b1*b2)=(a1*a2)*y->Q (.ref t) H'):Nl K CF vs H Q zE
section
variable{P:Program}{w:World}{K:Ac}{mg:Ai}{base:Heap}
theorem Be:Aa ["self","one","other","falling","rising","top"] ["self","one","other"] (Ao NL):=‹2›
theorem Xz(h:Am K C "times" "Fractions.times" NL) (c:AF P w K mg base "divisor" 1 ["one","other"] EF):AC P w K mg base C "times" 2 ["self","one","other"] [] (Nl K C):=by
 refine h.hasM (λ_ _ F=>F.b3 λ_ _ _ _ _ _ _ _ _=>rfl) λf fd F=>F.ok Be (λS H Q E h=>?_)<|λW A B s H S Q E J h=>?_
 ·obtain ⟨_,_,_,_,_,_,_,rfl,_⟩:=h
  rfl
 obtain ⟨sf,p,q,m,e,l,j,rfl,_,y,x,I,L,z,r,D,u,k⟩:=h;have G:=Be.nd;refine (_,(AQ (Bv (i:=3) G rfl (Or.inl rfl)<|BJ c J (by rfl)<|Ag (AY A6 (pv 1) Aj<|λ_ _=>rfl)<|Ag (AY A6 (pv 2) Aj<|λ_ _=>rfl) An)
  (AQ (Bv (i:=4) G rfl (Or.inl rfl)<|BJ c J (by rfl)<|Ag (AY A6 (pv 2) Aj<|λ_ _=>rfl)<|Ag (AY A6 (pv 1) Aj<|λ_ _=>rfl) An)
  (AQ (Bv (i:=5) G rfl (Or.inl rfl)<|Ar BM (Ar F3 (AY A6 (pv 1) Aj<|λ_ _=>rfl)<|pv 3)<|Ar F3 (AY A6 (pv 2) Aj<|λ_ _=>rfl)<|pv 4)
  (Az<|A7<|DI<|Ag (pv 5)<|Ag (Ar BM (Ar F3 (AY A6 (pv 1) Aj<|λ_ _=>rfl)<|pv 4)<|Ar F3 (AY A6 (pv 2) Aj<|λ_ _=>rfl)<|pv 3) An)))),?_)
 have o:=I.pos;have v:=L.pos;have hf:=M3.gcd_ne (a:=m) (b:=j) ⋯;have hg:=M3.gcd_ne (a:=l) (b:=e) ⋯;have X:Int.gcd m j<=j.natAbs:=Wm (SM v)<|Wo.mpr<|W9 m j;have M:Int.gcd l e<=e.natAbs:=Wm (SM o)<|Wo.mpr<|W9 l e;have g:(Int.gcd m j:Int)≠0/\Ak 8900 (Int.gcd m j:Int):=(⋯,u.le (by rw[Qa];exact X));have d:(Int.gcd l e:Int)≠0/\Ak 8900 (Int.gcd l e:Int):=(⋯,r.le (by rw[Qa];exact M));have Z:=M3.fdiv_le (U0 m j) g.1;have T:=M3.fdiv_le (W9 m j) g.1;have N:=M3.fdiv_le (U0 l e) d.1;have Y:=M3.fdiv_le (W9 l e) d.1;refine (_,rfl,_,_,_,_,rfl,rfl,y,rfl,_,rfl,_,_,_,_,rfl,rfl,x,rfl,m,j,rfl,?_);refine (_,rfl,_,_,_,_,rfl,rfl,x,rfl,_,rfl,_,_,_,_,rfl,rfl,y,rfl,l,e,rfl,?_);refine (_,rfl,_,_,_,_,rfl,rfl,y,rfl,_,rfl,_,_,rfl,rfl,g,_,rfl,_,_,_,_,rfl,rfl,x,rfl,_,rfl,_,_,rfl,rfl,d,_,_,rfl,rfl,(z.le Z).mulT<|D.le N,?_);refine (_,rfl,_,rfl,_,_,_,_,rfl,rfl,y,rfl,_,rfl,_,_,rfl,rfl,d,_,rfl,_,_,_,_,rfl,rfl,x,rfl,_,rfl,_,_,rfl,rfl,g,_,_,rfl,rfl,((r.le Y).up ∅).mulH<|u.le T,(by show 2<=sizeLine;decide),λt n=>?_);obtain ⟨R,O,U⟩:=M3.times_ok o v I.cop L.cop;exact k t _ _ _ (Bg n _) A4 n (R,O) U
end
inductive G3 (CR:Addr) (g:Int->Int->Int) (vs:List V) (H:Hp) (Q:VK) (zE:XK):Prop
 |mk (s:Addr) (p a b:Int) (_:vs=[.ref s,.int a,.int b]) (_:Gn CR p H s) (_:2<=p) (_:a.natAbs<=10^150) (_:b.natAbs<=10^150) (_:Q (.int (g a b%p)) H):G3 CR g vs H Q zE
section
variable{P:Program}{w:World}{K:Ac}{mg:Ai}{base:Heap}
theorem X1:Aa ["self","one","other"] ["self","one","other"] (Ao P3):=‹2›
theorem bR{CR:Addr}(h:Am K CR "plus" "Rests.plus" P3) (g:BV K CR) (j:AU K CR "prime"):AC P w K mg base CR "plus" 1 ["self","one","other"] [] (G3 CR λa b=>a+b):=by
 refine h.hasM (λ_ _ F=>F.b3 λ_ _ _ _ _ _ _ _ _=>rfl) λf m F=>F.ok X1 (λl H Q E h=>?_)<|λi A c s H l Q E o h=>?_
 ·obtain ⟨_,_,_,_,rfl,_⟩:=h
  rfl
 obtain ⟨sr,p,a,b,rfl,⟨e,d⟩,q,n,lb,k⟩:=h;refine (_,(Az<|A7<|Ar D0 (Ar Bw (pv 1)<|pv 2)<|F8 (pv 0) rfl),?_);refine (_,rfl,_,rfl,_,_,rfl,rfl,_,rfl,sr,CR,e,_,_,rfl,d,g,j,GJ p,_,_,rfl,rfl,(show p≠0 by omega),?_);rw[Wr _ ⋯];exact k
theorem fE:Aa ["self","one","other"] ["self","one","other"] (Ao N4):=‹2›
theorem mS{CR:Addr}(h:Am K CR "times" "Rests.times" N4) (i:BV K CR) (l:AU K CR "prime"):AC P w K mg base CR "times" 1 ["self","one","other"] [] (G3 CR λa b=>a*b):=by
 refine h.hasM (λ_ _ F=>F.b3 λ_ _ _ _ _ _ _ _ _=>rfl) λf n F=>F.ok fE (λm H Q E h=>?_)<|λj A c s H m Q E o h=>?_
 ·obtain ⟨_,_,_,_,rfl,_⟩:=h
  rfl
 obtain ⟨sr,p,a,b,rfl,⟨g,d⟩,q,e,lb,k⟩:=h;refine (_,(Az<|A7<|Ar D0 (Ar BM (pv 1)<|pv 2)<|F8 (pv 0) rfl),?_);refine (_,rfl,_,rfl,_,_,rfl,rfl,Di e lb,_,rfl,sr,CR,g,_,_,rfl,d,i,l,GJ p,_,_,rfl,rfl,(show p≠0 by omega),?_);rw[Wr _ ⋯];exact k
end
theorem XP{t b:Int}(l:b≠0):∃c:Int,c=(if b<0 then -(Int.gcd t b:Int) else (Int.gcd t b:Int))/\c≠0/\c.natAbs<=b.natAbs/\Fc (t.fdiv c) (b.fdiv c)/\t.fdiv c*b=t*b.fdiv c/\(t.fdiv c).natAbs<=t.natAbs/\(b.fdiv c).natAbs<=b.natAbs:=by
 have o:=M3.gcd_ne (a:=t) l;have n:=Wm ⋯<|Wo.mpr<|W9 t b
 by_cases h:b<0
 ·refine (-(Int.gcd t b:Int),by rw[qK h],⋯,⋯,?_);have k:t.fdiv (-(Int.gcd t b:Int))=(-t).fdiv (Int.gcd t b):=by rw[<-Int.neg_fdiv_neg,Int.neg_neg]
  have j:b.fdiv (-(Int.gcd t b:Int))=(-b).fdiv (Int.gcd t b):=by rw[<-Int.neg_fdiv_neg,Int.neg_neg]
  have m:Int.gcd t b=Int.gcd (-t) (-b):=by rw[Int.neg_gcd,Int.gcd_neg]
  obtain ⟨f,e,d,g,i⟩:=M3.low (t:=-t) (b:=-b) ⋯;rw[k,j,m];refine ((e,f),?_,⋯,⋯);rw[U8,Int.neg_mul] at d;exact Int.neg_inj.mp d
 ·refine ((Int.gcd t b:Int),by rw[qI h],⋯,⋯,?_);obtain ⟨f,e,d,g,i⟩:=M3.low (t:=t) (b:=b) ⋯;exact ((e,f),d,g,i)
inductive HK (cN:Addr) (vs:List V) (H:Hp) (Q:VK) (E:XK):Prop
 |mk (s:Addr) (t b:Int) (_:vs=[.ref s,.int t,.int b]) (_:b.natAbs<=10^150) (_:(b=0->E (.ref cN) none H)) (_:(b≠0->∀(r:Addr) (x y:Int),H r=none->Fc x y->x*b=t*y->x.natAbs<=t.natAbs->y.natAbs<=b.natAbs->Q (.ref r) (As H r (.tup [.int x,.int y])))):HK cN vs H Q E
section
variable{P:Program}{w:World}{K:Ac}{mg:Ai}{base:Heap}
theorem AJ:Aa ["self","top","bottom","common"] ["self","top","bottom"] (Ao Hm):=‹2›
theorem RF(F:C7 K "number" "Fractions.number" Hm f u T items) (c:CD K mg "NoNumber" x) (d:AF P w K mg base "divisor" 1 ["one","other"] EF):AS P w K mg base (EL P w) 2 f u ["self","top","bottom"] (HK x):=by
 refine F.okx AJ (λC H Q E h=>?_)<|λG A l s H C Q E B h=>?_
 ·obtain ⟨_,_,_,rfl,_⟩:=h
  rfl
 obtain ⟨I,t,b,rfl,lb,D,k⟩:=h;have v:=AJ.nd;refine (_,(AQ (BX (BK BO (pv 2) Aj<|Bn _) (Az<|Kn c JX rfl (by rfl)<|Ag LD An) BW)
  (AQ (Bv (i:=3) v rfl (Or.inl rfl)<|BJ d B (by rfl)<|Ag (pv 1)<|Ag (pv 2) An)
  (AQ (BX (BK EW (pv 2) Aj<|Bn _) (Az<|Bv (i:=3) v rfl (Or.inl rfl)<|G6 Hj<|pv 3) BW)
  (Az<|A7<|DI<|Ag (Ar Jn (pv 1)<|pv 3)<|Ag (Ar Jn (pv 2)<|pv 3) An)))),?_)
 refine (_,rfl,rfl,_,rfl,?_);refine EI (λz=>(∅,D z))<|λn=>?_;refine (_,rfl,_,rfl,t,b,rfl,?_);obtain ⟨c,y,j,J,o,e,q,p⟩:=XP (t:=t) n;refine (_,rfl,_,_,rfl,rfl,_,rfl,?_);refine Ex (λm=>?_)<|λm=>?_
 ·refine (_,rfl,_,rfl,?_);have a:c = -(Int.gcd t b:Int):=by rw[y,qK m]
  refine (_,rfl,_,rfl,_,_,rfl,rfl,(by rw[<-a];exact (j,⋯)),_,rfl,_,rfl,_,_,rfl,rfl,(by rw[<-a];exact (j,⋯)),(by show 2<=sizeLine;decide),λr g=>?_);rw[<-a];exact k n r _ _ g o e q p
 ·have a:c=(Int.gcd t b:Int):=by rw[y,qI m]
  refine (_,rfl,_,rfl,_,_,rfl,rfl,(by rw[<-a];exact (j,⋯)),_,rfl,_,rfl,_,_,rfl,rfl,(by rw[<-a];exact (j,⋯)),(by show 2<=sizeLine;decide),λr g=>?_);rw[<-a];exact k n r _ _ g o e q p
theorem eJ{e:Tok}(h:BC K b "number" "Fractions.number" Hm #[.int 1 e]) (c:CD K mg "NoNumber" d) (a:AF P w K mg base "divisor" 1 ["one","other"] EF):Au P w K mg base b "number" 2 ["self","top","bottom"] [] (HK d) :=
 h.hasMX (ds:=[]) .nil (λf g T F=>F.binds λ_ _ _ _ _ _ i j=>by obtain ⟨_,_,_,rfl⟩:=K8 (show i.length=3 by simpa using j);exact (_,rfl,rfl)) λf g T F=>RF F c a
theorem iN{b:Tok}(h:BC K d "number" "Fractions.number" Hm #[.int 1 b]) (c:CD K mg "NoNumber" e) (a:AF P w K mg base "divisor" 1 ["one","other"] EF):Au P w K mg base d "number" 2 ["self","top","bottom"] [.int 1] (HK e) :=
 h.hasMX (ds:=[.int 1 b]) (.cons (_,rfl) .nil) (λf g T F=>F.binds λ_ _ _ _ _ _ i j=>by obtain ⟨_,_,rfl⟩:=Kp (show i.length=2 by simpa using j);exact (_,rfl,rfl)) λf g T F=>RF F c a
end
theorem Yx{p t b u v r:Int}(hp:2<=p)(h:(1:Int)=b*u+p*v)(a:r=t*u%p):0<=r/\r<p/\p ∣ r*b-t:=by
 subst a;refine (Qv _ ⋯,W0 _ ⋯,?_);have e:=Int.emod_add_mul_ediv (t*u) p;have c:t*u%p=t*u-p*(t*u/p):=⋯;refine (-(t*v)-(t*u/p)*b,?_);rw[c];have f:t=t*b*u+t*p*v:=by
  have:=qW (t * ·) h
  simp only[U2,Int.mul_add] at this
  rw[Qy,Qy];exact this
 generalize t*u/p=k at *;rw[Int.sub_mul,Uy,U8,Qy p k b];have g:t*u*b=t*b*u:=by rw[Qy,Qx u b,<-Qy]
 have d:p*(t*v)=t*p*v:=by rw[<-Qy,Qx p t]
 omega
inductive He (CR cN:Addr) (vs:List V) (H:Hp) (Q:VK) (E:XK):Prop
 |mk (s:Addr) (p t b:Int) (_:vs=[.ref s,.int t,.int b]) (_:Gn CR p H s) (_:M2.Prm p) (_:p<1000000) (_:t.natAbs<=10^140) (_:b.natAbs<=10^100) (_:(p ∣ b->E (.ref cN) none H)) (_:(¬p ∣ b->∀(H':Hp) (r:Int),Ad H H'->0<=r->r<p->p ∣ r*b-t->Q (.int r) H')):He CR cN vs H Q E
section
variable{P:Program}{w:World}{K:Ac}{mg:Ai}{base:Heap}
theorem fN:Aa ["self","top","bottom"] ["self","top","bottom"] (Ao JA):=‹2›
theorem Vk{CR x:Addr}(F:C7 K "number" "Rests.number" JA f n T items) (m:BV K CR) (l:AU K CR "prime") (c:CD K mg "NoNumber" x) (a:AF P w K mg base "shares" 2 ["one","other"] IE):AS P w K mg base (EL P w) 3 f n ["self","top","bottom"] (He CR x):=by
 refine F.okx fN (λG H Q E h=>?_)<|λN A i s H G Q E C h=>?_
 ·obtain ⟨_,_,_,_,rfl,_⟩:=h
  rfl
 obtain ⟨sr,p,t,b,rfl,⟨j,g⟩,o,Y,X,lb,J,k⟩:=h;have D:=o.1;refine (_,(AQ (BX (BK BO (Ar D0 (pv 2)<|F8 (pv 0) rfl) Aj<|Bn _) (Az<|Kn c JX rfl (by rfl)<|Ag LD An) BW)
  (Az<|A7<|Ar D0 (Ar BM (pv 1)<|AY A6 (BJ a C (by rfl)<|Ag (pv 2)<|Ag (F8 (pv 0) rfl) An) Aj<|λ_ _=>rfl)<|F8 (pv 0) rfl)),?_)
 refine (_,rfl,_,rfl,sr,CR,j,_,_,rfl,g,m,l,GJ p,_,_,rfl,rfl,(show p≠0 by omega),rfl,_,rfl,?_);refine EI (λz=>(∅,J<|(M2.fmod_dvd ⋯).mp z))<|λO=>?_;have d:=λz=>O<|(M2.fmod_dvd ⋯).mpr z;have y:=M2.prm_gcd o d;refine (_,rfl,_,rfl,_,rfl,sr,CR,j,_,_,rfl,g,m,l,GJ p,b,p,rfl,lb,⋯,λq R u v S B e U W=>?_);refine (_,_,_,_,rfl,rfl,AI.of B,rfl,_,_,rfl,rfl,Di ⋯ ⋯,_,rfl,sr,CR,j,_,_,rfl,S _ _ g,m,l,GJ p,_,_,rfl,rfl,(show p≠0 by omega),?_);rw[y] at e;obtain ⟨M,L,I⟩:=Yx (p:=p) (t:=t) (b:=b) (r:=t*u%p) D e rfl;rw[Wr _ ⋯];exact k d R _ S M L I
theorem Xn{CR b:Addr}{g:Tok}(h:BC K CR "number" "Rests.number" JA #[.int 1 g]) (i:BV K CR) (j:AU K CR "prime") (c:CD K mg "NoNumber" b) (a:AF P w K mg base "shares" 2 ["one","other"] IE):Au P w K mg base CR "number" 3 ["self","top","bottom"] [] (He CR b) :=
 h.hasMX (ds:=[]) .nil (λf d T F=>F.binds λ_ _ _ _ _ _ e k=>by obtain ⟨_,_,_,rfl⟩:=K8 (show e.length=3 by simpa using k);exact (_,rfl,rfl)) λf d T F=>Vk F i j c a
theorem YA{CR d:Addr}{b:Tok}(h:BC K CR "number" "Rests.number" JA #[.int 1 b]) (i:BV K CR) (j:AU K CR "prime") (c:CD K mg "NoNumber" d) (a:AF P w K mg base "shares" 2 ["one","other"] IE):Au P w K mg base CR "number" 3 ["self","top","bottom"] [.int 1] (He CR d) :=
 h.hasMX (ds:=[.int 1 b]) (.cons (_,rfl) .nil) (λf e T F=>F.binds λ_ _ _ _ _ _ g k=>by obtain ⟨_,_,rfl⟩:=Kp (show g.length=2 by simpa using k);exact (_,rfl,rfl)) λf e T F=>Vk F i j c a
end
inductive Mw (K:Ac) (CF:Addr) (vs:List V) (H:Hp) (Q:VK) (zE:XK):Prop
 |mk (s p q:Addr) (a1 b1 a2 b2:Int) (_:vs=[.ref s,.ref p,.ref q]) (_:G4 CF H s) (_:AI K H p [.int a1,.int b1]) (_:AI K H q [.int a2,.int b2]) (_:Fc a1 b1) (_:Fc a2 b2) (_:Ak 1000000 a1) (_:Ak 8900 b1) (_:Ak 1000000 a2) (_:Ak 8900 b2) (_:∀(t:Addr) (H':Hp) (x y:Int),Ad H H'->H' t=some (.tup [.int x,.int y])->H t=none->Fc x y->x*(b1*b2)=(a1*b2+(-a2)*b1)*y->Q (.ref t) H'):Mw K CF vs H Q zE
section
variable{P:Program}{w:World}{K:Ac}{mg:Ai}{base:Heap}
theorem X5:Aa ["self","one","other"] ["self","one","other"] (Ao PD):=‹2›
theorem Xt(h:Am K a "minus" "Fractions.minus" PD) (T:BV K a) (Y:AC P w K mg base a "plus" 2 ["self","one","other"] [] (Kh K a)):AC P w K mg base a "minus" 3 ["self","one","other"] [] (Mw K a):=by
 refine h.hasM (λ_ _ F=>F.b3 λ_ _ _ _ _ _ _ _ _=>rfl) λf Z F=>F.ok X5 (λO H Q E h=>?_)<|λU A c s H O Q E J h=>?_
 ·obtain ⟨_,_,_,_,_,_,_,rfl,_⟩:=h
  rfl
 obtain ⟨R,p,q,X,W,B,v,rfl,⟨D,l⟩,L,m,I,u,b,g,d,i,k⟩:=h;refine (_,(Az<|A7<|L0 (pv 0) J<|Ag (pv 1)<|Ag (DI<|Ag (G6 Hj<|AY A6 (pv 2) Aj<|λ_ _=>rfl)<|Ag (AY A6 (pv 2) Aj<|λ_ _=>rfl) An) An),?_);refine (_,rfl,_,_,_,_,_,_,_,rfl,l,T,Y,rfl,_,rfl,_,rfl,_,_,_,_,rfl,rfl,m,rfl,_,rfl,_,rfl,_,_,_,_,rfl,rfl,m,rfl,(by show 2<=sizeLine;decide),λr j=>?_);have S:=Bg j<|.tup [.int<|-B,.int v];refine (R,p,r,X,W,-B,v,rfl,(D,S _ _ l),S.tup L,AI.of A4,I,(u.pos,by rw[Int.neg_gcd];exact u.cop),b,g,d.le ⋯,i,λt N x y M C n G e=>?_);exact k t N x y (S.trans M) C (by
  cases z:H t with
  |none=>rfl
  |some o=>rw[S t o z] at n;cases n) G e
theorem hP:Aa ["self","one","other"] ["self","one","other"] (Ao M4):=‹2›
theorem f7{CR:Addr}(h:Am K CR "minus" "Rests.minus" M4) (g:BV K CR) (j:AU K CR "prime"):AC P w K mg base CR "minus" 1 ["self","one","other"] [] (G3 CR λa b=>a-b):=by
 refine h.hasM (λ_ _ F=>F.b3 λ_ _ _ _ _ _ _ _ _=>rfl) λf m F=>F.ok hP (λl H Q E h=>?_)<|λi A c s H l Q E o h=>?_
 ·obtain ⟨_,_,_,_,rfl,_⟩:=h
  rfl
 obtain ⟨sr,p,a,b,rfl,⟨e,d⟩,q,n,lb,k⟩:=h;refine (_,(Az<|A7<|Ar D0 (Ar Cu (pv 1)<|pv 2)<|F8 (pv 0) rfl),?_);refine (_,rfl,_,rfl,_,_,rfl,rfl,_,rfl,sr,CR,e,_,_,rfl,d,g,j,GJ p,_,_,rfl,rfl,(show p≠0 by omega),?_);rw[Wr _ ⋯];exact k
end
inductive Nz (K:Ac) (cN:Addr) (vs:List V) (H:Hp) (Q:VK) (E:XK):Prop
 |mk (s p:Addr) (a b:Int) (_:vs=[.ref s,.ref p]) (_:AI K H p [.int a,.int b]) (_:Fc a b) (_:(a=0->E (.ref cN) none H)) (_:(a≠0->∀(r:Addr) (x y:Int),H r=none->Fc x y->x*a=b*y->x.natAbs=b.natAbs->y.natAbs=a.natAbs->Q (.ref r) (As H r (.tup [.int x,.int y])))):Nz K cN vs H Q E
section
variable{P:Program}{w:World}{K:Ac}{mg:Ai}{base:Heap}
theorem jC:Aa ["self","one"] ["self","one"] (Ao O8):=‹2›
theorem fO(h:Am K l "back" "Fractions.back" O8) (c:CD K mg "NoNumber" m):Au P w K mg base l "back" 1 ["self","one"] [] (Nz K m):=by
 refine h.hasMX (λ_ _ F=>F.b2 λ_ _ _ _ _ _ _ _=>rfl) λf u F=>F.okx jC (λq H Q E h=>?_)<|λo A g s H q Q E x h=>?_
 ·obtain ⟨_,_,_,_,rfl,_⟩:=h
  rfl
 obtain ⟨v,p,a,b,rfl,e,i,t,k⟩:=h;have y:=i.pos;refine (_,(AQ (BX (BK BO (AY A6 (pv 1) Aj<|λ_ _=>rfl) Aj<|Bn _) (Az<|Kn c JX rfl (by rfl)<|Ag LD An) BW)
  (AQ (BX (BK EW (AY A6 (pv 1) Aj<|λ_ _=>rfl) Aj<|Bn _) (Az<|A7<|DI<|Ag (G6 Hj<|AY A6 (pv 1) Aj<|λ_ _=>rfl)<|Ag (G6 Hj<|AY A6 (pv 1) Aj<|λ_ _=>rfl) An) BW)
  (Az<|A7<|DI<|Ag (AY A6 (pv 1) Aj<|λ_ _=>rfl)<|Ag (AY A6 (pv 1) Aj<|λ_ _=>rfl) An))),?_)
 refine (_,rfl,_,_,_,_,rfl,rfl,e,rfl,rfl,_,rfl,?_);refine EI (λz=>(∅,t z))<|λj=>?_;refine (_,rfl,_,_,_,_,rfl,rfl,e,rfl,_,_,rfl,rfl,_,rfl,?_);refine Ex (λn=>?_)<|λn=>?_
 ·refine (_,rfl,_,_,_,_,rfl,rfl,e,rfl,_,rfl,_,rfl,_,_,_,_,rfl,rfl,e,rfl,_,rfl,(by show 2<=sizeLine;decide),λr d=>?_);refine k j r (-b) (-a) d (⋯,?_) (by rw[Int.neg_mul,U8]) ⋯ ⋯;rw[Int.neg_gcd,Int.gcd_neg,Int.gcd_comm];exact i.cop
 ·refine (_,rfl,_,_,_,_,rfl,rfl,e,rfl,_,rfl,_,_,_,_,rfl,rfl,e,rfl,(by show 2<=sizeLine;decide),λr d=>?_);exact k j r b a d (⋯,by rw[Int.gcd_comm];exact i.cop) rfl rfl rfl
end
inductive OE (CR cN:Addr) (vs:List V) (H:Hp) (Q:VK) (E:XK):Prop
 |mk (s:Addr) (p a:Int) (_:vs=[.ref s,.int a]) (_:Gn CR p H s) (_:M2.Prm p) (_:p<1000000) (_:a.natAbs<=10^100) (_:(p ∣ a->E (.ref cN) none H)) (_:(¬p ∣ a->∀(H':Hp) (r:Int),Ad H H'->0<=r->r<p->p ∣ r*a-1->Q (.int r) H')):OE CR cN vs H Q E
section
variable{P:Program}{w:World}{K:Ac}{mg:Ai}{base:Heap}
theorem jG:Aa ["self","one"] ["self","one"] (Ao PU):=‹2›
theorem XG{CR e:Addr}(h:Am K CR "back" "Rests.back" PU) (l:BV K CR) (i:Au P w K mg base CR "number" 3 ["self","top","bottom"] [] (He CR e)):Au P w K mg base CR "back" 4 ["self","one"] [] (OE CR e):=by
 refine h.hasMX (λ_ _ F=>F.b2 λ_ _ _ _ _ _ _ _=>rfl) λf t F=>F.okx jG (λq H Q E h=>?_)<|λm A b s H q Q E n h=>?_
 ·obtain ⟨_,_,_,rfl,_⟩:=h
  rfl
 obtain ⟨sr,p,a,rfl,⟨d,c⟩,j,o,g,r,k⟩:=h;refine (_,(Az<|A7<|P4 (pv 0) i5 n<|Ag Aj<|Ag (pv 1) An),?_);exact (_,rfl,sr,CR,d,_,_,_,_,rfl,c,l,i,FQ p ∅,_,rfl,sr,p,1,a,rfl,(d,c),j,o,∅,g,r,k)
end
inductive OU (K:Ac) (CF:Addr) (vs:List V) (H:Hp) (Q:VK) (zE:XK):Prop
 |mk (s p:Addr) (a b:Int) (_:vs=[.ref s,.ref p]) (_:AI K H p [.int a,.int b]) (_:Q (.bl (decide (a=0))) H):OU K CF vs H Q zE
section
variable{P:Program}{w:World}{K:Ac}{mg:Ai}{base:Heap}
theorem pB:Aa ["self","one"] ["self","one"] (Ao QD):=‹2›
theorem kH(h:Am K d "is_nought" "Fractions.is_nought" QD):AC P w K mg base d "is_nought" 1 ["self","one"] [] (OU K d):=by
 refine h.hasM (λ_ _ F=>F.b2 λ_ _ _ _ _ _ _ _=>rfl) λf j F=>F.ok pB (λi H Q E h=>?_)<|λe A c s H i Q E m h=>?_
 ·obtain ⟨_,_,_,_,rfl,_⟩:=h
  rfl
 obtain ⟨l,p,a,b,rfl,g,k⟩:=h;refine (_,(Az<|A7<|FY BO (AY A6 (pv 1) Aj<|λ_ _=>rfl) Aj<|Bn _),?_);refine (_,rfl,_,_,_,_,rfl,rfl,g,rfl,rfl,?_);rw[ND];exact k
end
inductive NM (vs:List V) (H:Hp) (Q:VK) (zE:XK):Prop
 |mk (s:Addr) (a:Int) (_:vs=[.ref s,.int a]) (_:Q (.bl (decide (a=0))) H):NM vs H Q zE
section
variable{P:Program}{w:World}{K:Ac}{mg:Ai}{base:Heap}
theorem fZ:Aa ["self","one"] ["self","one"] (Ao Oc):=‹2›
theorem oB{CR:Addr}(h:Am K CR "is_nought" "Rests.is_nought" Oc):AC P w K mg base CR "is_nought" 1 ["self","one"] [] NM:=by
 refine h.hasM (λ_ _ F=>F.b2 λ_ _ _ _ _ _ _ _=>rfl) λf e F=>F.ok fZ (λd H Q E h=>?_)<|λc A b s H d Q E i h=>?_
 ·obtain ⟨_,_,rfl,_⟩:=h
  rfl
 obtain ⟨g,a,rfl,k⟩:=h;refine (_,(Az<|A7<|FY BO (pv 1) Aj<|Bn _),?_);refine (_,rfl,rfl,?_);rw[ND];exact k
end
theorem OZ(N:Int){D:Int}(b:0<D):(Rat.divInt N D).num*D=N*(Rat.divInt N D).den:=by
 have h:=W4<|Rat.divInt N D;have a:=(Cn<|Rat.divInt N D).pos;have:=(Wl (n₁:=(Rat.divInt N D).num) (d₁:=((Rat.divInt N D).den:Int)) (n₂:=N) (d₂:=D) ⋯ ⋯).mp h;exact this
theorem NP{a b c:Int}(h:a ∣ b*c)(g:Int.gcd a b=1):a ∣ c:=by
 rw[<-Wo] at h ⊢;rw[Qj] at h;exact Nat.Coprime.dvd_of_dvd_mul_left g h
theorem FZ(N:Int){D:Int}(a:0<D):((Rat.divInt N D).den:Int) ∣ D/\(Rat.divInt N D).num ∣ N:=by
 have e:=OZ N a;have c:=(Cn<|Rat.divInt N D).cop;generalize (Rat.divInt N D).num=n at *;generalize ((Rat.divInt N D).den:Int)=d at *;refine (?_,?_)
 ·refine NP (b:=n) (N,?_) (by rw[Int.gcd_comm];exact c);rw[e,Qx]
 ·refine NP (b:=d) (D,?_) c;rw[e,Qx]
theorem GE{a b:Int}(h:a ∣ b)(c:b≠0):a.natAbs<=b.natAbs:=Wm ⋯<|Wo.mpr h
theorem Lu{a b:Int}(h:a ∣ b)(d:Ak n b)(c:b=0->a=0):Ak n a:=by
 by_cases z:b=0
 ·rw[c z];exact Qe _
 ·exact d.le (GE h z)
theorem Lk(N:Int){D:Int}(a:0<D)(z:N=0):(Rat.divInt N D).num=0:=by
 subst z;have e:=OZ 0 a;rw[Int.zero_mul] at e;rcases Int.mul_eq_zero.mp e with h|h
 ·exact h
 ·omega
def EV(a CR:Addr)(κ:KX)(H:Hp)(s:Addr):Prop:=match κ with
 | .q=>G4 a H s
 | .r p _=>Gn CR p H s
theorem EV.same{b CR:Addr}{κ:KX}(h:EV b CR κ H k)(S:Ad H c):EV b CR κ c k:=by
 cases κ with
 |q=>obtain ⟨a,h⟩:=h;exact (a,S _ _ h)
 |r p d=>obtain ⟨a,h⟩:=h;exact (a,S _ _ h)
theorem bO{a CR:Addr}(h:R8 a CR p H s):∃κ:KX,κ.P=p/\EV a CR κ H s:=by
 rcases h with ⟨rfl,h⟩|⟨pr,lp,h⟩
 ·exact (.q,rfl,h)
 ·have b:=pr.1;have e:((p.toNat:Nat):Int)=p:=⋯;refine (.r p.toNat (by rw[e];exact pr,⋯),e,?_);show Gn CR ((p.toNat:Nat):Int) H s;rw[e];exact h
abbrev B1(κ:KX)(x:κ.F):Prop:=Bd κ 1000000 8900 x
theorem FD(h:BB p)(x:Fin p):((x.val:Int)).natAbs<=10^150:=by
 have:=x.isLt;have:=h.lt;exact Q0 (show _<=1000000 by omega) ∅
def PM(P:Program)(w:World)(K:Ac)(mg:Ai)(base:Heap)(j CR:Addr)(m:Str)(g:(a:KX)->a.F->a.F->a.F):Prop :=
 ∀(a:KX) (H:Hp) (s:Addr),EV j CR a H s->∃C h e i c f,H s=some (.ins C h e)/\BV K C/\AC P w K mg base C m 2 i c f/\e.lookup m=none/\c=[] ∧
  ∀(d:Hp) (u v:V) (x y:a.F) (Q:VK),Ad H d->NR a d u x->NR a d v y->B1 a x->B1 a y->(∀t b,Ad d b->NR a b t (g a x y)->Q t b)->f [.ref s,u,v] d Q E0
section
variable{P:Program}{w:World}{K:Ac}{mg:Ai}{base:Heap}{CF CR:Addr}
theorem Ys(z:Kd K mg CF CR)(I:AC P w K mg base CF "plus" 2 ["self","one","other"] [] (Kh K CF)) (B:AC P w K mg base CR "plus" 2 ["self","one","other"] [] (G3 CR λa b=>a+b)):PM P w K mg base CF CR "plus" (λ_ x y=>x+y):=by
 intro E H s A
 cases E with
 |q =>
  obtain ⟨g,h⟩:=A;refine (CF,g,[],_,_,_,h,z.clF,I,rfl,rfl,λo u v x y Q S f c m i k=>?_);obtain ⟨a,rfl,f⟩:=f;obtain ⟨b,rfl,c⟩:=c;refine (s,a,b,_,_,_,_,rfl,(g,S _ _ h),AI.of f,AI.of c,Cn x,Cn y,m.1,m.2,i.1,i.2,λt l n d G C L F e=>?_);obtain ⟨J,D⟩:=Vq (x:=x) (y:=y) F e;refine k (.ref t) l G (t,rfl,?_);rw[J,D];exact C
 |r p j =>
  obtain ⟨g,h⟩:=A;refine (CR,g,En p,_,_,_,h,z.clR,B,FQ _ ∅,rfl,λo u v x y Q S f c _ _ k=>?_);have f:=f;have c:=c;subst f c;refine (s,p,_,_,rfl,(g,S _ _ h),by have:=j.two;omega,FD j x,FD j y,k _ o (Ad.refl _) ?_);show V.int (((x.val:Int)+y.val)%p)=V.int ((Fin.val (x+y):Nat):Int);have e:Fin.val (x+y)=(x.val+y.val)%p:=Fin.val_add x y;rw[e,U5,Ua]
theorem iH(z:Kd K mg CF CR)(I:AC P w K mg base CF "times" 2 ["self","one","other"] [] (Nl K CF)) (B:AC P w K mg base CR "times" 2 ["self","one","other"] [] (G3 CR λa b=>a*b)):PM P w K mg base CF CR "times" (λ_ x y=>x*y):=by
 intro E H s A
 cases E with
 |q =>
  obtain ⟨g,h⟩:=A;refine (CF,g,[],_,_,_,h,z.clF,I,rfl,rfl,λo u v x y Q S f c m i k=>?_);obtain ⟨a,rfl,f⟩:=f;obtain ⟨b,rfl,c⟩:=c;refine (s,a,b,_,_,_,_,rfl,(g,S _ _ h),AI.of f,AI.of c,Cn x,Cn y,m.1,m.2,i.1,i.2,λt l n d G C L F e=>?_);obtain ⟨J,D⟩:=Th (x:=x) (y:=y) F e;refine k (.ref t) l G (t,rfl,?_);rw[J,D];exact C
 |r p j =>
  obtain ⟨g,h⟩:=A;refine (CR,g,En p,_,_,_,h,z.clR,B,FQ _ ∅,rfl,λo u v x y Q S f c _ _ k=>?_);have f:=f;have c:=c;subst f c;refine (s,p,_,_,rfl,(g,S _ _ h),by have:=j.two;omega,FD j x,FD j y,k _ o (Ad.refl _) ?_);show V.int (((x.val:Int)*y.val)%p)=V.int ((Fin.val (x*y):Nat):Int);have e:Fin.val (x*y)=(x.val*y.val)%p:=Fin.val_mul x y;rw[e,U5,W3]
end
end Lake.My
namespace Lake.L2
open PySem PySem.Spec PyProof.Rows
section
variable{X:Cx}
theorem Td:B3 X (binaryOp .FloorDiv) (rI (λ_ j=>j≠0/\Ak 8000 j) λi j => .int<|i.fdiv j):=FI λ_ _ _ _ _ _ _ a q=>floordiv_int a.1 q<|.inl<|rQ<|Wh (a.2.log a.1) ∅
end
end Lake.L2
namespace Lake.My
open PySem L2 PyProof.Rows
theorem KL[Decidable p]{A B:Prop}(h:p)(k:A):if decide p=true then A else B:=by rw[qK<|rG h];exact k
theorem V0[Decidable p]{A B:Prop}(h:¬p)(k:B):if decide p=true then A else B:=by rw[qI (by simpa using h)];exact k
theorem XT{t:Addr}(S:Ad H a):Off [t] H (As a t o):=λb u n q=>by
 rw[AL<|λz=>n (by rw[z];exact Qf.mpr rfl)];exact S _ _ q
theorem jR{n:Nat}{i:Int}(a:0<=i)(h:i<n):DE n i=some i.toNat:=by
 have e:i=((i.toNat:Nat):Int):=⋯;rw[e,Ui];exact LJ ⋯
open PySem L2 PyProof.Rows
def Sz(κ:KX)(n:Nat)(x:κ.F):Prop:=match κ with
 | .q=>(x.den:Int) ∣ 60*12^n/\Ak (200+700*n) x.num
 | .r _ _=>True
theorem fY{t b:Int}(a:0<b):(t.fdiv (Int.gcd t b)=(Rat.divInt t b).num)/\(b.fdiv (Int.gcd t b)=((Rat.divInt t b).den:Int)):=by
 obtain ⟨g,d,c,_,_⟩:=M3.low (t:=t) a;obtain ⟨e,f⟩:=Jw (N:=t) (D:=b) (d,g) a c;exact (e.symm,f.symm)
inductive HD (vs:List V) (H:Hp) (Q:VK) (zE:XK):Prop
 |mk (t b:Int) (_:vs=[.int t,.int b]) (_:0<b) (_:Ak 8000 b) (_:∀r,H r=none->Q (.ref r) (As H r (.tup [.int (Rat.divInt t b).num,.int ((Rat.divInt t b).den:Int)]))):HD vs H Q zE
theorem JJ:0<(KX.r p h).P:=by have:=h.two;show 0<(p:Int);omega
theorem Zg(h:BB p)(c:Int):∃x:Fin p,(c.fmod (p:Int))=(x.val:Int):=by
 have a:=h.two;rw[Wr _ ⋯];have b:=Qv c (show (p:Int)≠0 by omega);have d:=W0 c (show 0<(p:Int) by omega);exact (((c%p).toNat,⋯),by show c%p=(((c%p).toNat:Nat):Int);omega)
theorem MK{a b:Int}{A B:Prop}(h:a=b)(k:A):if decide (V.int a=V.int b)=true then A else B:=EI (λ_=>k)<|λz=>absurd h z
theorem Oq{a b:Int}{A B:Prop}(h:a≠b)(k:B):if decide (V.int a=V.int b)=true then A else B:=EI (λz=>absurd z h)<|λ_=>k
noncomputable abbrev K1(κ:KX):κ.F:=1
noncomputable abbrev K0(κ:KX):κ.F:=0
theorem OM(h:BB p):Fin.val (K1<|.r p h)=1:=by
 exact Nat.mod_eq_of_lt h.two
theorem Hs(h:BB p):Fin.val (K0<|.r p h)=0:=by
 exact Nat.zero_mod p
theorem Y9{us:List Value}(h:us.length=5):∃a b c d e,us=[a,b,c,d,e]:=match us,h with| [a,b,c,d,e],_=>(a,b,c,d,e,rfl)
theorem Mg{α:Type}[Fd α]{x r:α}(h:x*r=1):r=Fd.inv x:=by
 have a:x≠0:=λz=>by
  subst z;have e:(0:α)*r=0:=by grind
  rw[e] at h;exact Fd.zne h
 have:=Fd.mul_inv x a;grind
theorem IA(a:Fc n d):∃q:Rat,q.num=n/\(q.den:Int)=d:=by
 have c:=a.pos;refine ((n,d.toNat,⋯,?_),rfl,by show ((d.toNat:Nat):Int)=d;omega);have:=a.cop;rw[Nat.coprime_iff_gcd_eq_one];have e:Int.gcd n d=Nat.gcd n.natAbs d.natAbs:=rfl;have b:d.natAbs=d.toNat:=⋯;rw[<-b];omega
theorem kA{q:Rat}(f:Fc x y)(e:x*q.num=q.den*y):(Fd.inv q:Rat).num=x/\((Fd.inv q:Rat).den:Int)=y:=by
 obtain ⟨r,a,b⟩:=IA f;have m:=Th (x:=q) (y:=r) (n:=1) (d:=1) (∅,∅) (by rw[a,b];have:q.num*x=x*q.num:=Qx _ _;omega);have c:q*r=1:=by
  rw[<-W4 (q*r),m.1,m.2];rfl
 have:=Mg (α:=Rat) c;rw[<-this];exact (a,b)
theorem Z4{x y:Rat}(c:Fc n d)(e:n*((x.den:Int)*y.den)=(x.num*y.den+(-y.num)*x.den)*d):(x-y).num=n/\((x-y).den:Int)=d:=by
 have b:(-y).num = -y.num:=rfl;have a:(-y).den=y.den:=rfl;have:x-y=x+(-y):=by grind
 rw[this];refine Vq (x:=x) (y:=-y) c ?_;rw[b,a];exact e
theorem Ko{κ:KX}{x:κ.F}(h:Bd κ n m x):Bd κ n m (0-x):=by
 cases κ with
 |r p c=>exact trivial
 |q =>
  have e:(0-x:Rat) = -x:=by grind
  have a:(-x:Rat).num = -Rat.num x:=rfl;have b:(-x:Rat).den=Rat.den x:=rfl;refine (?_,?_)
  ·rw[e,a];exact Ak.le h.1 ⋯
  ·rw[e,b];exact h.2
noncomputable abbrev KX.mulF(κ:KX)(x y:κ.F):κ.F:=x*y
noncomputable abbrev KX.invF(κ:KX)(x:κ.F):κ.F:=Fd.inv x
theorem eK{κ:KX}{x r:κ.F}(h:κ.mulF x r=K1 κ):r=κ.invF x:=Mg h
def Cq(κ:KX)(t:Int)(x:κ.F):Prop:=match κ with
 | .q=>x.num=t/\x.den=1
 | .r p _=>t.natAbs<=10^140/\(x.val:Int)=t%p
theorem FP{κ:KX}:Cq κ 0 0:=by
 cases κ with
 |q=>exact (rfl,rfl)
 |r p h=>exact (∅,by rw[Hs];simp)
theorem FC{κ:KX}:Cq κ 1 1:=by
 cases κ with
 | q=>exact (rfl,rfl)
 | r p h=>exact (∅,by
  rw[OM];have:=h.two;exact (sE ∅ ⋯).symm)
theorem Cq.uniq{κ:KX}{t:Int}{x y:κ.F}(h:Cq κ t x)(h':Cq κ t y):x=y:=by
 cases κ with
 |q =>
  have b:=h.1.trans h'.1.symm;have a:=h.2.trans h'.2.symm;exact Rat.ext b a
 |r p c =>
  refine Fin.ext ?_;have e:=h.2.trans h'.2.symm;omega
def UH(P:Program)(w:World)(K:Ac)(mg:Ai)(base:Heap)(i CR:Addr):Prop :=
 ∀(a:KX) (H:Hp) (s:Addr),EV i CR a H s->∃C g e h c f,H s=some (.ins C g e)/\BV K C/\AC P w K mg base C "minus" 3 h c f/\e.lookup ("minus":Str)=none/\c=[] ∧
  ∀(d:Hp) (u v:V) (x y:a.F) (Q:VK),Ad H d->NR a d u x->NR a d v y->B1 a x->B1 a y->(∀t b,Ad d b->NR a b t (x-y)->Q t b)->f [.ref s,u,v] d Q E0
def SN(P:Program)(w:World)(K:Ac)(mg:Ai)(base:Heap)(i CR:Addr):Prop :=
 ∀(c:KX) (H:Hp) (s:Addr),EV i CR c H s->∃C g e h b f,H s=some (.ins C g e)/\BV K C/\Au P w K mg base C "number" 3 h b f/\e.lookup ("number":Str)=none/\b=[.int 1] ∧
  ∀(d:Hp) (t:Int) (x:c.F) (Q:VK) (E:XK),Ad H d->Cq c t x->(∀v a,Ad d a->NR c a v x->Q v a)->f [.ref s,.int t,.int 1] d Q E
def Vh(P:Program)(w:World)(K:Ac)(mg:Ai)(base:Heap)(i CR:Addr):Prop :=
 ∀(c:KX) (H:Hp) (s:Addr),EV i CR c H s->∃C g e h b f,H s=some (.ins C g e)/\BV K C/\Au P w K mg base C "back" 4 h b f/\e.lookup ("back":Str)=none/\b=[] ∧
  ∀(d:Hp) (u:V) (x:c.F) (Q:VK) (E:XK),Ad H d->NR c d u x->x≠0->(∀v a,Ad d a->NR c a v (Fd.inv x)->Q v a)->f [.ref s,u] d Q E
section
variable{P:Program}{w:World}{K:Ac}{mg:Ai}{base:Heap}{CF CR cN:Addr}
theorem lE(A:Kd K mg CF CR)(I:AC P w K mg base CF "minus" 3 ["self","one","other"] [] (Mw K CF)) (C:AC P w K mg base CR "minus" 3 ["self","one","other"] [] (G3 CR λa b=>a-b)):UH P w K mg base CF CR:=by
 intro E H s B
 cases E with
 |q =>
  obtain ⟨g,h⟩:=B;refine (CF,g,[],_,_,_,h,A.clF,I,rfl,rfl,λz u v x y Q S f c o i k=>?_);obtain ⟨a,rfl,f⟩:=f;obtain ⟨b,rfl,c⟩:=c;refine (s,a,b,_,_,_,_,rfl,(g,S _ _ h),AI.of f,AI.of c,Cn x,Cn y,o.1,o.2,i.1,i.2,λt m n d G D L F e=>?_);obtain ⟨J,j⟩:=Z4 (x:=x) (y:=y) F e;refine k (.ref t) m G (t,rfl,?_);rw[J,j];exact D
 |r p l =>
  obtain ⟨g,h⟩:=B;refine (CR,g,En p,_,_,_,h,A.clR,C,FQ _ ∅,rfl,λz u v x y Q S f c _ _ k=>?_);have f:=f;have c:=c;subst f c;refine (s,p,_,_,rfl,(g,S _ _ h),by have:=l.two;omega,FD l x,FD l y,k _ z (Ad.refl _) ?_);show V.int (((x.val:Int)-y.val)%p)=V.int ((Fin.val (x-y):Nat):Int);have e:Fin.val (x-y)=(p-y.val+x.val)%p:=rfl;have M:=y.isLt;have j:(((p-y.val+x.val:Nat)):Int)=((x.val:Int)-y.val)+p:=⋯;rw[e,U5,j,Int.add_emod_right]
theorem jN(i:Kd K mg CF CR)(F:Au P w K mg base CF "number" 3 ["self","top","bottom"] [.int 1] (HK cN)) (l:Au P w K mg base CR "number" 3 ["self","top","bottom"] [.int 1] (He CR cN)):SN P w K mg base CF CR:=by
 intro o H s j
 cases o with
 |q =>
  obtain ⟨b,h⟩:=j;refine (CF,b,[],_,_,_,h,i.clF,F,rfl,rfl,λB t x Q E S a k=>(s,t,1,rfl,∅,λz=>absurd z ∅,λ_ r n d C u e N y=>?_));have G:d=1:=by
   have:=u.pos;have O:=y;omega
  subst G;have v:n=t:=⋯;subst v;have J:=a.1;have m:=a.2;refine k _ _ (Bg C _) (r,rfl,?_);rw[J,m];exact A4
 |r p c =>
  obtain ⟨b,h⟩:=j;have M:=c.pr.1;refine (CR,b,_,_,_,_,h,i.clR,l,FQ p ∅,rfl,λB t x Q E S a k=>(s,p,t,1,rfl,(b,S _ _ h),c.pr,by have:=c.lt;omega,a.1,∅,λz=>?_,λ_ f r A I D g=>?_))
  ·have:=Int.le_of_dvd ∅ z;omega
  ·refine k _ f A ?_;show V.int r=V.int ((Fin.val x:Nat):Int);have e:(Fin.val x:Int)=t%p:=a.2;rw[e]
   congr 1
   rw[U2] at g;have L:=Int.emod_eq_emod_iff_emod_sub_eq_zero.mpr<|U9 g;rw[<-L];exact (sE I D).symm
theorem k8(m:Kd K mg CF CR)(F:Au P w K mg base CF "back" 4 ["self","one"] [] (Nz K cN)) (t:Au P w K mg base CR "back" 4 ["self","one"] [] (OE CR cN)):Vh P w K mg base CF CR:=by
 intro κ H s o
 cases κ with
 |q =>
  obtain ⟨f,h⟩:=o;refine (CF,f,[],_,_,_,h,m.clF,F,rfl,rfl,λj u x Q E S c g k=>?_);obtain ⟨a,rfl,c⟩:=c;have A:Rat.num x≠0:=λz=>g<|Rat.num_eq_zero.mp z;refine (s,a,_,_,rfl,AI.of c,Cn x,λz=>absurd z A,λ_ r n d C y e R N=>?_);obtain ⟨I,v⟩:=kA (q:=x) y e;refine k _ _ (Bg C _) (r,rfl,?_);show As j r _ r=some (.tup [.int (Fd.inv x:Rat).num,.int ((Fd.inv x:Rat).den:Int)]);rw[I,v];exact A4
 |r p b =>
  obtain ⟨f,h⟩:=o;have O:=b.two;refine (CR,f,_,_,_,_,h,m.clR,t,FQ p ∅,rfl,λj u x Q E S c g k=>?_);have c:u = .int x.val:=c;subst c;have M:=x.isLt;have U:x.val≠0:=λz=>g (show x=K0 (.r p b) from Fin.ext (by rw[Hs];exact z));have G:¬(p:Int) ∣ (x.val:Int):=λz=>by
   have:=Int.le_of_dvd ⋯ z;omega
  refine (s,p,_,rfl,(f,S _ _ h),b.pr,by have:=b.lt;omega,Q0 (show _<=1000000 by have:=b.lt;omega) ∅,λz=>absurd z G,λ_ i r B l T D=>?_);refine k _ i B ?_;have J:(KX.r p b).mulF x ((r.toNat,⋯):Fin p)=K1 (.r p b):=by
   refine Fin.ext ?_;show Fin.val ((x:Fin p)*((r.toNat,⋯):Fin p))=Fin.val (K1<|.r p b);rw[OM,Fin.val_mul];show x.val*r.toNat%p=1;have e:((x.val*r.toNat%p:Nat):Int)=((1:Nat):Int):=by
    rw[U5,W3,Uz l];have L:r*(x.val:Int)%p=1%p:=Int.emod_eq_emod_iff_emod_sub_eq_zero.mpr<|U9 D;rw[Qx,L];exact sE ∅ ⋯
   exact_mod_cast e
  have:=eK (κ:=.r p b) J;show V.int r=V.int ((Fin.val ((KX.r p b).invF x):Nat):Int);rw[show (KX.r p b).invF x=_ from this.symm];show V.int r=V.int ((r.toNat:Nat):Int);rw[Uz l]
end
theorem VB{κ:KX}:B1 κ 0:=by
 cases κ with
 |q=>exact (Ak.of (by exact Nat.two_pow_pos _),Ak.of (by exact Q9 (show 1<2^1 by decide) (Q8 ∅ ∅)))
 |r p h=>trivial
theorem YD{κ:KX}{x y:κ.F}(f:NR κ H u x)(d:NR κ H v y):∃b,J7 H u v b/\(b=true↔x=y):=by
 cases κ with
 |q =>
  obtain ⟨a,rfl,h⟩:=f;obtain ⟨c,rfl,g⟩:=d;refine (_,.inr (a,c,_,_,_,_,rfl,rfl,h,g,rfl),?_);rw[Bool.and_eq_true_iff,qT,qT]
  constructor
  ·rintro ⟨i,j⟩;exact Rat.ext i ⋯
  ·intro e;have e:=e;subst e;exact (rfl,rfl)
 |r p k =>
  have f:=f;have d:=d;refine (_,.inl (_,_,f,d,rfl),?_);rw[qT]
  constructor
  ·intro e;exact Fin.ext ⋯
  ·intro e;have e:=e;subst e;rfl
def J9(κ:KX)(f:Ab κ)(A:Int):Prop:=match κ with
 | .q=>0<A/\(∀x∈f,((Rat.den x:Nat):Int) ∣ A)/\∀B:Int,(∀x∈f,((Rat.den x:Nat):Int) ∣ B)->A ∣ B
 | .r _ _=>A=1
def VL(κ:KX)(B:Int)(x:κ.F):Prop:=match κ with
 | .q=>((Rat.den x:Nat):Int) ∣ B
 | .r _ _=>True
inductive Ik (K:Ac) (vs:List V) (H:Hp) (Q:VK) (zE:XK):Prop
 |mk (s r:Addr) (xs:List V) (f:List Rat) (B:Int) (_:vs=[.ref s,.ref r]) (_:H r=some (.lst xs)) (_:AT (NR .q H) xs f) (_:0<B) (_:Ak 8900 B) (_:(∀x∈f,((Rat.den x:Nat):Int) ∣ B)) (_:∀A:Int,J9 .q f A->Q (.int A) H):Ik K vs H Q zE
inductive Ma (vs:List V) (H:Hp) (Q:VK) (zE:XK):Prop
 |mk (s r:Addr) (_:vs=[.ref s,.ref r]) (_:Q (.int 1) H):Ma vs H Q zE
theorem X7{b d:Int}(A:0<b)(r:0<d):0<b.fdiv (Int.gcd b d)*d/\b ∣ b.fdiv (Int.gcd b d)*d/\d ∣ b.fdiv (Int.gcd b d)*d/\∀B:Int,b ∣ B->d ∣ B->b.fdiv (Int.gcd b d)*d ∣ B:=by
 have j:(Int.gcd b d:Int)≠0:=by have:=M3.gcd_ne (a:=b) (b:=d) ⋯;omega
 have y:0<(Int.gcd b d:Int):=⋯;obtain ⟨q,f⟩:=U0 b d;obtain ⟨e,g⟩:=W9 b d;have n:b.fdiv (Int.gcd b d)=q:=by
  rw[sA _ ⋯]
  conv=>lhs;lhs;rw[f]
  exact Int.mul_ediv_cancel_left q j
 have i:0<q:=by
  rcases Int.lt_or_le 0 q with c|c
  ·exact c
  ·have:(Int.gcd b d:Int)*q<=0:=sB ⋯ c;omega
 rw[n];have x:q*d=b*e:=by
  calc q*d=q*((Int.gcd b d:Int)*e):=by rw[<-g]
   _=(Int.gcd b d:Int)*q*e:=by rw[<-Qy,Qx q]
   _=b*e:=by rw[<-f]
 have h:Int.gcd q e=1:=by
  have l:=Int.gcd_mul_left (Int.gcd b d:Int) q e;rw[<-f,<-g,Qa] at l;have u:0<Int.gcd b d:=⋯;have p:Int.gcd b d*1=Int.gcd b d*Int.gcd q e:=by rw[Ub];exact l
  exact (Nat.eq_of_mul_eq_mul_left u p).symm
 refine (Wk i r,(e,x),(q,Qx _ _),?_);rintro B ⟨s,m⟩ ⟨t,k⟩;have v:q*s=e*t:=by
  have:(Int.gcd b d:Int)*(q*s)=(Int.gcd b d:Int)*(e*t):=by
   rw[<-Qy,<-Qy,<-f,<-g,<-m,<-k]
  exact Int.eq_of_mul_eq_mul_left j this
 have o:=NP (b:=e) (s,v.symm) h;obtain ⟨z,w⟩:=o;exact (z,by rw[k,w,<-Qy,Qx d q])
end Lake.My
namespace Lake.My.Rg
open PySem L2 PyProof.Rows
section
variable{α:Type}[Lean.Grind.CommRing α]
theorem Tb:(0:α)+0=0:=by grind
noncomputable def Sg(h:Nat->α):Nat->α
 |0=>0
 |n+1=>Sg h n+h n
theorem Sg_congr{h g:Nat->α}:∀ {n:Nat},(∀i,i<n->h i=g i)->Sg h n=Sg g n
 |0,_=>rfl
 |n+1,e=>by
  show Sg h n+h n=Sg g n+g n;rw[Sg_congr (n:=n) λi a=>e i ⋯,e n ⋯]
theorem Sg_mul(c:α)(h:Nat->α):∀n,c*Sg h n=Sg (λi=>c*h i) n
 |0=>by show c*0=0;grind
 |n+1=>by
  show c*(Sg h n+h n)=Sg (λi=>c*h i) n+c*h n;rw[<-Sg_mul c h n];grind
theorem Sg_add(h g:Nat->α):∀n,Sg h n+Sg g n=Sg (λi=>h i+g i) n
 |0=>Tb
 |n+1=>by
  show (Sg h n+h n)+(Sg g n+g n)=Sg (λi=>h i+g i) n+(h n+g n);rw[<-Sg_add h g n];grind
theorem Sg_zero:∀n,Sg (λ_=>(0:α)) n=0
 |0=>rfl
 |n+1=>by show Sg _ n+0=0;rw[Sg_zero n];exact Tb
theorem TF(h:Nat->Nat->α)(m:Nat):∀n,Sg (λi=>Sg (λj=>h i j) m) n=Sg (λj=>Sg (λi=>h i j) n) m
 |0=>(Sg_zero m).symm
 |n+1=>by
  show Sg _ n+Sg (λj=>h n j) m=Sg (λj=>Sg (λi=>h i j) n+h n j) m;rw[TF h m n,Sg_add]
theorem HZ(h:Nat->α):∀n,Sg h (n+1)=h 0+Sg (λi=>h<|i+1) n
 |0=>by show 0+h 0=h 0+0;grind
 |n+1=>by
  show Sg h (n+1)+h (n+1)=h 0+(Sg (λi=>h<|i+1) n+h (n+1));rw[HZ h n];grind
theorem VO(h:Nat->α)(i:Nat):∀n,Sg (λl=>h l*(if i=l then 1 else 0)) n=if i<n then h i else 0
 |0=>by rw[qI ⋯];rfl
 |n+1=>by
  show Sg _ n+h n*(if i=n then 1 else 0)=_;rw[VO h i n]
  by_cases e:i=n
  ·subst e;rw[qI ⋯,qK rfl,qK ⋯];grind
  ·rw[qI e]
   by_cases l:i<n
   ·rw[qK l,qK ⋯];grind
   ·rw[qI l,qI ⋯];grind
def sgn(α:Type)[Lean.Grind.CommRing α]:Nat->α
 |0=>1
 |n+1=>0-sgn α n
def skip(j t:Nat):Nat:=if t<j then t else t+1
theorem ZQ{j k:Nat}(h:k<j)(t:Nat):skip j (skip k t)=skip k (skip (j-1) t):=by
 have b:∀ {j t:Nat},t<j->skip j t=t:=λh=>by unfold skip;rw[qK h]
 have a:∀ {j t:Nat},j<=t->skip j t=t+1:=λh=>by unfold skip;rw[qI ⋯]
 by_cases h1:t<k
 ·rw[b h1,b (show t<j by omega),b (show t<j-1 by omega),b h1]
 ·by_cases h2:t<j-1
  ·rw[a (show k<=t by omega),b (show t+1<j by omega),b h2,a (show k<=t by omega)]
  ·rw[a (show k<=t by omega),a (show j<=t+1 by omega),a (show j-1<=t by omega),a (show k<=t+1 by omega)]
noncomputable def det:Nat->(Nat->Nat->α)->α
 |0,_=>1
 |n+1,a=>Sg (λj=>sgn α j*a 0 j*det n (λi k=>a (i+1)<|skip j k))<|n+1
theorem det_congr:∀ {n:Nat} {a b:Nat->Nat->α},(∀i j,i<n->j<n->a i j=b i j)->det n a=det n b
 |0,_,_,_=>rfl
 |n+1,a,b,h=>by
  refine Sg_congr λj c=>?_;rw[h 0 j ⋯ c,det_congr (n:=n) (a:=λi k=>a (i+1)<|skip j k) (b:=λi k=>b (i+1)<|skip j k) λi k d e=>h _ _ ⋯ (by unfold skip;split <;> omega)]
def AZ(a:Nat->Nat->α)(r:Nat)(f:Nat->α):Nat->Nat->α:=λi j=>if i=r then f j else a i j
theorem Jm:∀ {n:Nat} {a:Nat->Nat->α} {r:Nat} (f g:Nat->α) (c:α),r<n->det n (AZ a r λj=>f j+c*g j)=det n (AZ a r f)+c*det n (AZ a r g)
 |0,_,_,_,_,_,h=>⋯
 |n+1,a,0,f,g,c,_=>by
  show Sg _ (n+1)=Sg _ (n+1)+c*Sg _ (n+1);rw[Sg_mul,Sg_add];refine Sg_congr λj b=>?_;have e:∀h:Nat->α,det n (λi k=>AZ a 0 h (i+1)<|skip j k)=det n (λi k=>a (i+1)<|skip j k):=λh=>det_congr λi k _ _=>by unfold AZ;rw[qI ⋯]
  rw[e,e,e];show sgn α j*(f j+c*g j)*_=sgn α j*f j*_+c*(sgn α j*g j*_);grind
 |n+1,a,r+1,f,g,c,hr=>by
  show Sg _ (n+1)=Sg _ (n+1)+c*Sg _ (n+1);rw[Sg_mul,Sg_add];refine Sg_congr λj b=>?_;have e:∀h:Nat->α,det n (λi k=>AZ a (r+1) h (i+1)<|skip j k)=det n (AZ (λi k=>a (i+1)<|skip j k) r λk=>h<|skip j k):=λh=>det_congr λi k _ _=>by
   unfold AZ
   by_cases q:i=r
   ·rw[qK ⋯,qK q]
   ·rw[qI ⋯,qI q]
  rw[e,e,e,Jm (n:=n) (a:=λi k=>a (i+1)<|skip j k) (r:=r) (λk=>f<|skip j k) (λk=>g<|skip j k) c ⋯];have z:∀h:Nat->α,AZ a (r+1) h 0 j=a 0 j:=λh=>by unfold AZ;rw[qI ⋯]
  rw[z,z,z];grind
theorem Rj{f:Nat->Nat->α}:∀n,(∀j k,k<j->j<=n->f j k=0-f k (j-1))->Sg (λj=>Sg (λk=>f j k) n) (n+1)=0
 |0,_=>by
  show (0:α)+0=0;grind
 |n+1,h=>by
  have c:=Rj n λj k a e=>h j k a ⋯;show Sg (λj=>Sg (λk=>f j k)<|n+1) (n+1)+Sg (λk=>f (n+1) k) (n+1)=0;have d:Sg (λj=>Sg (λk=>f j k)<|n+1) (n+1)=Sg (λj=>Sg (λk=>f j k) n) (n+1)+Sg (λj=>f j n) (n+1):=by
   rw[Sg_add];rfl
  have b:Sg (λk=>f (n+1) k) (n+1)=Sg (λj=>(0-1)*f j n) (n+1):=Sg_congr λk a=>by
   rw[h (n+1) k a<|Q4 _];show 0-f k n=(0-1)*f k n;grind
  rw[d,b,c,<-Sg_mul];grind
theorem NK:∀ {n:Nat} {a:Nat->Nat->α} {r:Nat},r+1<n->(∀j,a r j=a (r+1) j)->det n a=0
 |0,_,_,h,_=>⋯
 |1,_,_,h,_=>⋯
 |n+2,a,0,_,e=>by
  show Sg (λj=>sgn α j*a 0 j*Sg (λk=>sgn α k*a 1 (skip j k)*det n (λi t=>a (i+2)<|skip j<|skip k t)) (n+1)) (n+2)=0;have c:∀j,j<n+2->sgn α j*a 0 j*Sg (λk=>sgn α k*a 1 (skip j k)*det n (λi t=>a (i+2)<|skip j<|skip k t)) (n+1)=Sg (λk=>sgn α j*a 0 j*(sgn α k*a 0 (skip j k)*det n (λi t=>a (i+2)<|skip j<|skip k t))) (n+1):=λj _=>by
   rw[Sg_mul];exact Sg_congr λk _=>by rw[e<|skip j k]
  rw[Sg_congr c];refine Rj (n+1) λj k b o=>?_;have f:skip j k=k:=by unfold skip;rw[qK b]
  have g:skip k (j-1)=j:=by unfold skip;rw[qI ⋯];omega
  have d:det n (λi t=>a (i+2)<|skip j<|skip k t)=det n (λi t=>a (i+2)<|skip k<|skip (j-1) t):=det_congr λi t _ _=>by rw[ZQ b]
  have l:sgn α j=0-sgn α (j-1):=by
   obtain ⟨m,rfl⟩:∃m,j=m+1:=(j-1,⋯)
   rfl
  rw[f,g,d,l];grind
 |n+2,a,r+1,h,e=>by
  show Sg _ (n+2)=0;have z:∀j,j<n+2->sgn α j*a 0 j*det (n+1) (λi k=>a (i+1)<|skip j k)=0:=λj _=>by
   rw[NK (n:=n+1) (a:=λi k=>a (i+1)<|skip j k) (r:=r) ⋯ λk=>e<|skip j k];grind
  rw[Sg_congr z,Sg_zero]
theorem K5(a:Nat->Nat->α)(r:Nat):AZ a r (a r)=a:=by
 funext i j
 unfold AZ
 split
 ·rename_i e;rw[e]
 ·rfl
theorem OL{n:Nat}{a:Nat->Nat->α}{r:Nat}(f g:Nat->α)(h:r<n):det n (AZ a r λj=>f j+g j)=det n (AZ a r f)+det n (AZ a r g):=by
 have:=Jm (a:=a) f g (1:α) h;have e:(λj=>f j+(1:α)*g j)=λj=>f j+g j:=by funext j;grind
 rw[e] at this;rw[this];grind
theorem Vl{n:Nat}{a:Nat->Nat->α}{r:Nat}(h:r+1<n):det n (AZ (AZ a r<|a<|r+1) (r+1)<|a r)=0-det n a:=by
 have z:∀x:Nat->α,det n (AZ (AZ a r x) (r+1) x)=0:=λx=>NK h λj=>by
  unfold AZ;rw[qI ⋯,qK rfl,qK rfl]
 have c:∀x y:Nat->α,AZ (AZ a r x) (r+1) y=AZ (AZ a (r+1) y) r x:=λx y=>by
  funext i j
  unfold AZ
  by_cases b:i=r+1
  ·rw[qK b,qI ⋯,qK b]
  ·by_cases e2:i=r
   ·rw[qI b,qK e2,qK e2]
   ·rw[qI b,qI e2,qI e2,qI b]
 have d:=z λj=>a r j+a (r+1) j;rw[OL _ _ ⋯,c,c,OL _ _ ⋯,OL _ _ ⋯,<-c,<-c,<-c,<-c] at d;have e:=z λj=>a r j;have f:=z λj=>a (r+1) j;have s:AZ (AZ a r λj=>a r j) (r+1) (λj=>a (r+1) j)=a:=by
  have b:AZ a r (λj=>a r j)=a:=K5 a r;rw[b];exact K5 a<|r+1
 rw[e,f,s] at d;have t:det n (AZ (AZ a r λj=>a (r+1) j) (r+1) λj=>a r j)=det n (AZ (AZ a r<|a<|r+1) (r+1)<|a r):=rfl;rw[t] at d;generalize det n (AZ (AZ a r<|a<|r+1) (r+1)<|a r)=u at *;generalize det n a=v at *;grind
theorem QH{n:Nat}:∀ {d:Nat} {a:Nat->Nat->α} {r:Nat},r+d+1<n->(∀j,a r j=a (r+d+1) j)->det n a=0
 |0,a,r,h,e=>NK h e
 |d+1,a,r,h,e=>by
  have s:=Vl (a:=a) (r:=r+d+1) (n:=n) ⋯;have z:det n (AZ (AZ a (r+d+1)<|a<|r+d+1+1) (r+d+1+1)<|a<|r+d+1)=0:=by
   refine QH (d:=d) (r:=r) ⋯ λj=>?_;unfold AZ;rw[qI ⋯,qI ⋯,qI ⋯,qK rfl];exact e j
  rw[z] at s;generalize det n a=v at *;grind
theorem VM{n:Nat}{a:Nat->Nat->α}{r s:Nat}(f:r<n)(c:s<n)(b:r≠s)(e:∀j,a r j=a s j):det n a=0:=by
 rcases Nat.lt_or_gt_of_ne b with h|h
 ·refine QH (d:=s-r-1) (r:=r) ⋯ λj=>?_;rw[e j];congr 1;omega
 ·refine QH (d:=r-s-1) (r:=s) ⋯ λj=>?_;rw[<-e j];congr 1;omega
theorem lJ{n:Nat}{a:Nat->Nat->α}{r s:Nat}(c:α)(b:r<n)(e:s<n)(d:r≠s):det n (AZ a r λj=>a r j+c*a s j)=det n a:=by
 rw[Jm _ _ _ b,show AZ a r (λj=>a r j)=a from K5 a r,VM (a:=AZ a r λj=>a s j) b e d λj=>by unfold AZ;rw[qK rfl,qI<|rC d]];grind
theorem XC{n:Nat}{a:Nat->Nat->α}{r:Nat}(c:α)(b:r<n):det n (AZ a r λj=>c*a r j)=c*det n a:=by
 have e:(λj=>c*a r j)=λj=>0*a r j+c*a r j:=by funext j;grind
 have z:det n (AZ a r λj=>0*a r j)=0:=by
  have g:(λj=>(0:α)*a r j)=λj=>0+0*a r j:=by funext j;grind
  have:=Jm (a:=a) (λ_=>(0:α)) (λ_=>0) (0-1) b;have f:(λj:Nat=>(0:α)+(0-1)*0)=λ_=>0:=by funext j;grind
  rw[f] at this;have d:(λj=>(0:α)*a r j)=λ_=>0:=by funext j;grind
  rw[d];generalize det n (AZ a r λ_=>(0:α))=v at *;grind
 rw[e,Jm (λj=>0*a r j) (a r) c b,z,K5];grind
theorem WC(F:Nat->Nat->α):∀n,Sg (λk=>Sg (λi=>F k i)<|k+1) n=Sg (λi=>Sg (λj=>F (i+j) i)<|n-i) n
 |0=>rfl
 |n+1=>by
  show Sg _ n+Sg (λi=>F n i) (n+1)=Sg _ n+Sg (λj=>F (n+j) n) (n+1-n);rw[WC F n,show n+1-n=1 by omega];have e:Sg (λi=>Sg (λj=>F (i+j) i)<|n+1-i) n=Sg (λi=>Sg (λj=>F (i+j) i)<|n-i) n+Sg (λi=>F n i) n:=by
   rw[Sg_add];refine Sg_congr λi a=>?_;rw[show n+1-i=(n-i)+1 by omega];show _+F (i+(n-i)) i=_;rw[show i+(n-i)=n by omega]
  rw[e];show _+(Sg (λi=>F n i) n+F n n)=_+(0+F (n+0) n);generalize Sg (λi=>Sg (λj=>F (i+j) i)<|n-i) n=S;generalize Sg (λi=>F n i) n=U;show _=_+(0+F n n);grind
theorem Rf(h:Nat->α):∀n,Sg h n=Sg (λi=>h<|n-1-i) n
 |0=>rfl
 |n+1=>by
  rw[HZ (λi=>h<|n+1-1-i) n];show Sg h n+h n=h n+_;rw[Rf h n];have e:Sg (λi=>h<|n-1-i) n=Sg (λi=>h<|n+1-1-(i+1)) n:=Sg_congr λi _=>by rw[show n+1-1-(i+1)=n-1-i by omega]
  rw[e];grind
end
structure Ps (α:Type) where
 c:Nat->α
namespace Ps
section
variable{α:Type}[Lean.Grind.CommRing α]
def nc(n:Nat):α:=@NatCast.natCast α Lean.Grind.Semiring.natCast n
def ic(i:Int):α:=@IntCast.intCast α Lean.Grind.Ring.intCast i
theorem ext{f g:Ps α}(h:∀n,f.c n=g.c n):f=g:=by
 cases f;cases g
 congr 1
 funext n
 exact h n
def add(f g:Ps α):Ps α:=⟨λn=>f.c n+g.c n⟩
def mul(f g:Ps α):Ps α:=⟨λn=>Sg (λi=>f.c i*g.c (n-i))<|n+1⟩
def neg(f:Ps α):Ps α:=⟨λn => - f.c n⟩
def con(x:α):Ps α:=⟨λn=>if n=0 then x else 0⟩
def WV(f:Ps α):Nat->Ps α
 |0=>con 1
 |n+1=>mul (WV f n) f
theorem con_mul(x:α)(f:Ps α)(n:Nat):(mul (con x) f).c n=x*f.c n:=by
 show Sg (λi=>(if i=0 then x else 0)*f.c (n-i)) (n+1)=_;rw[HZ];have e:Sg (λi=>(if i+1=0 then x else 0)*f.c (n-(i+1))) n=Sg (λ_=>(0:α)) n:=Sg_congr λi _=>by rw[qI ⋯];grind
 rw[e,Sg_zero,qK rfl];grind
theorem Hw(f g:Ps α):mul f g=mul g f:=ext λn=>by
 show Sg _ (n+1)=Sg _ (n+1);rw[Rf];refine Sg_congr λi a=>?_;rw[show n+1-1-i=n-i by omega,show n-(n-i)=i by omega];grind
theorem M8(f g h:Ps α):mul (mul f g) h=mul f (mul g h):=ext λn=>by
 show Sg (λk=>Sg (λi=>f.c i*g.c (k-i)) (k+1)*h.c (n-k)) (n+1)=Sg (λi=>f.c i*Sg (λj=>g.c j*h.c (n-i-j)) (n-i+1)) (n+1);have e:Sg (λk=>Sg (λi=>f.c i*g.c (k-i)) (k+1)*h.c (n-k)) (n+1)=Sg (λk=>Sg (λi=>f.c i*(g.c (k-i)*h.c (n-k)))<|k+1) (n+1):=Sg_congr λk _=>by
  have a:Sg (λi=>f.c i*g.c (k-i)) (k+1)*h.c (n-k)=h.c (n-k)*Sg (λi=>f.c i*g.c (k-i)) (k+1):=by grind
  rw[a,Sg_mul];refine Sg_congr λi _=>?_;grind
 rw[e,WC (λk i=>f.c i*(g.c (k-i)*h.c (n-k)))<|n+1];refine Sg_congr λi b=>?_;rw[Sg_mul,show n+1-i=n-i+1 by omega];refine Sg_congr λj _=>?_;rw[show i+j-i=j by omega,show n-(i+j)=n-i-j by omega]
theorem VV(f g h:Ps α):mul f (add g h)=add (mul f g) (mul f h):=ext λn=>by
 show Sg _ (n+1)=Sg _ (n+1)+Sg _ (n+1);rw[Sg_add];refine Sg_congr λi _=>?_;show f.c i*(g.c (n-i)+h.c (n-i))=_;grind
theorem UY(f:Ps α):mul (con 1) f=f:=ext λn=>by rw[con_mul];grind
theorem V1(f:Ps α):mul (con 0) f=con 0:=ext λn=>by
 rw[con_mul];show 0*f.c n=if n=0 then 0 else 0
 split <;> grind
theorem QM{x y:α}(h:x=y):con x=con y:=by rw[h]
instance instRing:Lean.Grind.CommRing (Ps α) where
 add:=add
 mul:=mul
 neg:=neg
 sub f g:=add f (neg g)
 natCast:=⟨λn=>con (nc n)⟩
 ofNat n:=⟨con (OfNat.ofNat n)⟩
 nsmul:=⟨λn f=>mul (con (nc n)) f⟩
 npow:=⟨WV⟩
 intCast:=⟨λi=>con (ic i)⟩
 zsmul:=⟨λi f=>mul (con (ic i)) f⟩
 add_zero f:=ext λn=>by
  show f.c n+(if n=0 then 0 else 0)=f.c n
  split <;> grind
 add_comm f g:=ext λn=>by show f.c n+g.c n=g.c n+f.c n;grind
 add_assoc f g h:=ext λn=>by show f.c n+g.c n+h.c n=f.c n+(g.c n+h.c n);grind
 mul_assoc:=M8
 mul_one f:=(Hw f (con 1)).trans (UY f)
 one_mul f:=UY f
 left_distrib:=VV
 right_distrib f g h:=by
  show mul (add f g) h=add (mul f h) (mul g h);rw[Hw,VV,Hw h f,Hw h g]
 zero_mul f:=V1 f
 mul_zero f:=(Hw f (con 0)).trans (V1 f)
 pow_zero f:=rfl
 pow_succ f n:=rfl
 ofNat_succ n:=ext λk=>by
  show (if k=0 then OfNat.ofNat (n+1) else 0)=(if k=0 then OfNat.ofNat n else 0)+(if k=0 then (1:α) else 0)
  split
  ·exact Lean.Grind.Semiring.ofNat_succ n
  ·grind
 ofNat_eq_natCast n:=QM (Lean.Grind.Semiring.ofNat_eq_natCast n)
 nsmul_eq_natCast_mul n f:=rfl
 neg_add_cancel f:=ext λn=>by
  show-f.c n+f.c n=if n=0 then 0 else 0
  split <;> grind
 sub_eq_add_neg f g:=rfl
 neg_zsmul i f:=ext λn=>by
  show (mul (con (ic (-i))) f).c n = - (mul (con (ic i)) f).c n;rw[con_mul,con_mul,show (ic (-i):α) = - ic i from Lean.Grind.Ring.intCast_neg i];grind
 zsmul_natCast_eq_nsmul n f:=by
  show mul (con (ic (n:Int))) f=mul (con (nc n)) f;rw[QM (show (ic (n:Int):α)=nc n from Lean.Grind.Ring.intCast_natCast n)]
 intCast_ofNat n:=QM (Lean.Grind.Ring.intCast_ofNat n)
 intCast_neg i:=ext λn=>by
  show (if n=0 then (ic (-i):α) else 0) = - (if n=0 then ic i else 0)
  split
  ·exact Lean.Grind.Ring.intCast_neg i
  ·grind
 mul_comm:=Hw
theorem c_add(f g:Ps α)(n:Nat):(f+g).c n=f.c n+g.c n:=rfl
theorem c_mul(f g:Ps α)(n:Nat):(f*g).c n=Sg (λi=>f.c i*g.c (n-i)) (n+1):=rfl
theorem c_sub(f g:Ps α)(n:Nat):(f-g).c n=f.c n-g.c n:=by
 show f.c n + - g.c n=_;grind
theorem c_zero(n:Nat):(0:Ps α).c n=0:=by show (if n=0 then (0:α) else 0)=0;split <;> rfl
end
end Ps
end Lake.My.Rg
namespace Lake.Zp
open My
open PySem L2 PyProof.Rows
inductive PV where
 |non
 |bl (b:Bool)
 |int (i:Int)
 |str (s:Str)
 |lst (l:List PV)
 |tup (l:List PV)
 |kd (κ:KX)
 |kp (κ:KX)
 |fr (l:List PV)
 |la (κ:KX) (k m:Nat) (A:Nat->Nat->Rg.Ps κ.F)
structure Zc where
 f:Addr
 r:Addr
 p:Addr
 s:Addr->Prop
 t:Addr->Array Value->Prop
 la:(κ:KX)->Nat->Nat->(Nat->Nat->Rg.Ps κ.F)->Hp->Addr->Prop
 las:∀κ k m A H H' a,Ad H H'->la κ k m A H a->la κ k m A H' a
def Gd(Z:Zc)(H:Hp):Prop:=(∀a,Z.s a->H a≠none)/\∀a b,Z.t a b->H a=some (.tbl b)
def Jq(Z:Zc)(κ:KX)(H:Hp)(a:Addr):Prop:=EV Z.f Z.r κ H a/\Gd Z H
theorem Gd.same(h:Gd Z H)(S:Ad H a):Gd Z a:=(λb m n=>(by
 cases e:H b with
 |none=>exact h.1 b m e
 |some o=>rw[S _ _ e] at n;cases n),λb c m=>S _ _<|h.2 b c m)
theorem Jq.same{κ:KX}(h:Jq Z κ H a)(S:Ad H b):Jq Z κ b a:=(h.1.same S,h.2.same S)
mutual
def Rep(Z:Zc)(H:Hp):PV->V->Prop
 | .non,v=>v = .non
 | .bl b,v=>v = .bl b
 | .int i,v=>v = .int i
 | .str s,v=>v = .str s
 | .lst l,v=>∃a c,v = .ref a/\H a=some (.lst c)/\Af Z H l c
 | .tup l,v=>∃a c,v = .ref a/\H a=some (.tup c)/\Af Z H l c
 | .kd κ,v=>∃a,v = .ref a/\Jq Z κ H a
 | .kp κ,v=>∃a d k,v = .ref a/\H a=some (.ins Z.p d [("under", .ref k)])/\Jq Z κ H k
 | .fr l,v=>∃a c,v = .ref a/\¬Z.s a/\H a=some (.lst c)/\Af Z H l c
 | .la κ k m A,v=>∃a,v = .ref a/\Z.la κ k m A H a
def Af(Z:Zc)(H:Hp):List PV->List V->Prop
 | [],us=>us=[]
 |p::l,us=>∃u r,us=u::r/\Rep Z H p u/\Af Z H l r
end
variable{Z:Zc}
mutual
theorem Rep.same(S:Ad H c):∀(p:PV) (v:V),Rep Z H p v->Rep Z c p v
 | .non,_,h=>by unfold Rep at *;exact h
 | .bl _,_,h=>by unfold Rep at *;exact h
 | .int _,_,h=>by unfold Rep at *;exact h
 | .str _,_,h=>by unfold Rep at *;exact h
 | .lst l,_,h=>by
  unfold Rep at *;obtain ⟨a,b,e,q,r⟩:=h;exact (a,b,e,S _ _ q,Af.same S l b r)
 | .tup l,_,h=>by
  unfold Rep at *;obtain ⟨a,b,e,q,r⟩:=h;exact (a,b,e,S _ _ q,Af.same S l b r)
 | .kd κ,_,h=>by
  unfold Rep at *;obtain ⟨a,e,q⟩:=h;exact (a,e,q.same S)
 | .kp κ,_,h=>by
  unfold Rep at *;obtain ⟨a,d,k,e,q,r⟩:=h;exact (a,d,k,e,S _ _ q,r.same S)
 | .fr l,_,h=>by
  unfold Rep at *;obtain ⟨a,b,e,n,q,r⟩:=h;exact (a,b,e,n,S _ _ q,Af.same S l b r)
 | .la κ k m A,_,h=>by
  unfold Rep at *;obtain ⟨a,e,q⟩:=h;exact (a,e,Z.las κ k m A H c a S q)
theorem Af.same(S:Ad H a):∀(l:List PV) (us:List V),Af Z H l us->Af Z a l us
 | [],_,h=>by unfold Af at *;exact h
 |p::l,_,h=>by
  unfold Af at *;obtain ⟨u,r,e,q,t⟩:=h;exact (u,r,e,Rep.same S p u q,Af.same S l r t)
end
theorem Af.len:∀ {l:List PV} {us:List V},Af Z H l us->us.length=l.length
 | [],_,h=>by unfold Af at h;rw[h];rfl
 |p::l,_,h=>by
  unfold Af at h;obtain ⟨u,r,e,_,t⟩:=h;rw[e];exact qW (· + 1)<|Af.len t
theorem Af.get:∀ {l:List PV} {us:List V} {i:Nat} {p:PV},Af Z H l us->l[i]?=some p->∃u,us[i]?=some u/\Rep Z H p u
 | [],_,i,p,_,e=>by cases i <;> cases e
 |p::l,_,0,q,h,e=>by
  unfold Af at h;obtain ⟨u,r,a,b,t⟩:=h
  cases e
  exact (u,by rw[a];rfl,b)
 |p::l,_,i+1,q,h,e=>by
  unfold Af at h;obtain ⟨u,r,a,b,t⟩:=h;obtain ⟨x,c,y⟩:=Af.get (i:=i) t e;exact (x,by rw[a];exact c,y)
theorem Af.nil:Af Z H [] []:=by unfold Af;rfl
theorem Af.cons(h:Rep Z H p u)(t:Af Z H l us):Af Z H (p::l) (u::us):=by unfold Af;exact (u,us,rfl,h,t)
theorem Af.append:∀ {l m:List PV} {us vs:List V},Af Z H l us->Af Z H m vs->Af Z H (l++m) (us++vs)
 | [],_,_,_,h,k=>by unfold Af at h;rw[h];exact k
 |p::l,_,_,_,h,k=>by
  unfold Af at h;obtain ⟨u,r,e,q,t⟩:=h;rw[e];exact .cons q<|t.append k
theorem Af.of:∀ {l:List PV} {us:List V},us.length=l.length->(∀(i:Nat) p u,l[i]?=some p->us[i]?=some u->Rep Z H p u)->Af Z H l us
 | [],[],_,_ => .nil
 |p::l,u::us,e,h => .cons (h 0 p u rfl rfl)<|Af.of (Nat.succ.inj e) λi q v a b=>h (i+1) q v a b
theorem Af.set{l:List PV}{us:List V}(h:Af Z H l us)(i:Nat){p:PV}{u:V}(r:Rep Z H p u):Af Z H (l.set i p) (us.set i u):=by
 refine .of (by rw[U7,U7];exact h.len) λj q v a b=>?_;rw[sY] at a b;have d:=h.len
 by_cases e:i=j
 ·rw[qK e] at a b
  split at a
  ·split at b
   ·cases a;cases b;exact r
   ·cases b
  ·cases a
 ·rw[qI e] at a b;obtain ⟨w,c,y⟩:=h.get a;rw[c] at b;cases b;exact y
theorem Af.sub{l m:List PV}{us vs:List V}(h:Af Z H l us)(e:vs.length=m.length)(f:Nat->Nat)(d:∀i,i<m.length->m[i]?=l[f i]?/\vs[i]?=us[f i]?):Af Z H m vs:=by
 refine .of e λi p u a b=>?_;have g:=(Qr.mp a).1;obtain ⟨j,c⟩:=d i g;obtain ⟨w,k,y⟩:=h.get<|j.symm.trans a;rw[c,k] at b;cases b;exact y
theorem Af.take{l:List PV}{us:List V}(h:Af Z H l us)(n:Nat):Af Z H (l.take n) (us.take n):=by
 have:=h.len;refine h.sub (by simp only[Qn];omega) id λi a=>?_;rw[Qn] at a;rw[Uj,Uj,qK ⋯,qK ⋯];exact (rfl,rfl)
theorem Af.drop{l:List PV}{us:List V}(h:Af Z H l us)(n:Nat):Af Z H (l.drop n) (us.drop n):=by
 have:=h.len;refine h.sub (by simp only[W6];omega) (n + ·) λi a=>?_;rw[rP,rP];exact (rfl,rfl)
theorem Af.reverse{l:List PV}{us:List V}(h:Af Z H l us):Af Z H l.reverse us.reverse:=by
 have a:=h.len;refine h.sub (by rw[We,We];exact a) (λi=>l.length-1-i) λi b=>?_;rw[We] at b;rw[rK b,rK ⋯,a];exact (rfl,rfl)
def hide(O:Ay)(H:Hp):Hp:=λa=>if a∈O then none else H a
theorem Jf{O:Ay}{a:Addr}(h:a∈O):hide O H a=none:=qK h
theorem hide_out{O:Ay}{a:Addr}(h:a∉O):hide O H a=H a:=qI h
theorem HS{o:HO}(h:hide O H a=some o):a∉O/\H a=some o:=by
 by_cases e:a∈O
 ·rw[Jf e] at h;cases h
 ·rw[hide_out e] at h;exact (e,h)
theorem Ct(S:Ad H b):Ad (hide O H) (hide O b):=λa o h=>by
 obtain ⟨n,q⟩:=HS h;rw[hide_out n];exact S _ _ q
theorem hide_le:Ad (hide O H) H:=λa o h=>(HS h).2
theorem LH{O b:Ay}(h:∀a∈b,a∈O):Ad (hide O H) (hide b H):=λa o q=>by
 obtain ⟨n,q⟩:=HS q;rw[hide_out λz=>n<|h a z];exact q
theorem bP{O:Ay}{a:Addr}(h:a∈O):hide O (As H a o)=hide O H:=by
 funext b
 by_cases e:b∈O
 ·rw[Jf e,Jf e]
 ·rw[hide_out e,hide_out e,AL λz=>e (by rw[z];exact h)]
theorem Rep.h(h:Rep Z (hide O H) p v)(S:Ad H a):Rep Z (hide O a) p v:=h.same<|Ct S
theorem Af.h(h:Af Z (hide O H) p v)(S:Ad H a):Af Z (hide O a) p v:=h.same<|Ct S
def Ls(O:Ay)(H:Hp):Prop:=∀a∈O,∃b,H a=some (.lst b)
theorem Ls.same(h:Ls O H)(S:Ad H b):Ls O b:=λa m=>let ⟨us,q⟩:=h a m;(us,S _ _ q)
theorem Ls.new(h:Ls O H)(n:H a=none):a∉O:=λm=>by obtain ⟨b,q⟩:=h a m;rw[n] at q;cases q
inductive Sl where
 |val (p:PV)
 |own (l:List PV)
abbrev Bx:=List<|Option Sl
@[reducible] def A0:Bx->Nat->Option Sl
 | [],_=>none
 |a::_,0=>a
 |_::l,n+1=>A0 l n
@[reducible] def A2:Bx->Nat->Option Sl->Bx
 | [],_,_=>[]
 |_::l,0,s=>s::l
 |a::l,n+1,s=>a::A2 l n s
@[reducible] def GI:List Nat->Bx->Bx
 | [],ρ=>ρ
 |i::r,ρ=>GI r (A2 ρ i none)
theorem Dc{t:Sl}(h:A0 (A2 ρ i s) j=some t):(j=i/\s=some t)\/(j≠i/\A0 ρ j=some t):=by
 induction ρ generalizing i j with
 |nil=>cases h
 |cons a ρ c =>
  cases i with
  |zero=>cases j with
   |zero=>exact .inl (rfl,h)
   |succ j=>exact .inr (⋯,h)
  |succ i=>cases j with
   |zero=>exact .inr (⋯,h)
   |succ j=>exact (c h).imp (λ⟨a,b⟩=>(⋯,b)) λ⟨a,b⟩=>(⋯,b)
theorem F5{ρ:Bx}:(A2 ρ i s).length=ρ.length:=by
 induction ρ generalizing i with
 |nil=>rfl
 |cons a ρ b=>cases i with
  |zero=>rfl
  |succ i=>exact qW (· + 1) b
theorem Je{ρ:Bx}{s:Sl}(h:A0 ρ i=some s):i<ρ.length:=by
 induction ρ generalizing i with
 |nil=>cases h
 |cons a ρ b=>cases i with
  |zero=>exact Nat.succ_pos _
  |succ i=>exact Nat.succ_lt_succ<|b h
inductive Gr (Z:Zc) (O:Ay) (H:Hp):Sl->V->Prop
 |val {p:PV} {v:V} (r:Rep Z (hide O H) p v):Gr Z O H (.val p) v
 |own {l:List PV} {a:Addr} {us:List V} (m:a∈O) (h:H a=some (.lst us)) (r:Af Z (hide O H) l us):Gr Z O H (.own l) (.ref a)
structure SR (Z:Zc) (H0:Hp) (O0 O:Ay) (H:Hp) (σ:L2.St) (ρ:Bx):Prop where
 ext:Ad H0 H
 sub:∀a∈O0,a∈O
 new:∀a∈O,a∈O0\/H0 a=none
 ls:Ls O H
 len:σ.length=ρ.length
 rel:∀i s,A0 ρ i=some s->∃v,σ[i]?=some (some v)/\Gr Z O H s v
 inj:∀i j l m,i≠j->A0 ρ i=some (.own l)->A0 ρ j=some (.own m)->σ[i]?≠σ[j]?
 out:∀i l a,A0 ρ i=some (.own l)->σ[i]?=some (some (.ref a))->a∉O0
section
variable{H0 H H':Hp}{O0 O:Ay}{σ:L2.St}{ρ:Bx}
theorem Gr.same(h:Gr Z O H s v)(S:Ad H H'):Gr Z O H' s v:=by
 cases h with
 |val r=>exact .val<|r.h S
 |own m h r=>exact .own m (S _ _ h)<|r.h S
theorem SR.same(h:SR Z H0 O0 O H σ ρ)(S:Ad H H'):SR Z H0 O0 O H' σ ρ :=
 (λa o q=>S _ _<|h.ext a o q,h.sub,h.new,h.ls.same S,h.len,λi s e=>let ⟨v,a,b⟩:=h.rel i s e;(v,a,b.same S),h.inj,h.out)
theorem Jc{σ:L2.St}{i j:Nat}{v:Option V}(h:i<σ.length):(σ.set i v)[j]?=if j=i then some v else σ[j]?:=by
 rw[sY]
 by_cases e:i=j
 ·rw[qK e,qK e.symm,qK h]
 ·rw[qI e,qI<|rC e]
theorem FG{σ:L2.St}{i j:Nat}{v:Option V}(h:j≠i):(σ.set i v)[j]?=σ[j]?:=by
 rw[sY,qI<|rC h]
theorem SR.set(h:SR Z H0 O0 O H σ ρ){i:Nat}{p:PV}{v:V}(r:Rep Z (hide O H) p v):SR Z H0 O0 O H (σ.set i<|some v) (A2 ρ i<|some<|.val p):=by
 refine (h.ext,h.sub,h.new,h.ls,by rw[U7,F5];exact h.len,λj s e=>?_,λj k l m n f d=>?_,λj l a e c=>?_)
 ·have g:j<ρ.length:=by have:=Je e;rw[F5] at this;exact this
  rcases Dc e with ⟨rfl,z⟩|⟨n,z⟩
  ·cases z
   exact (v,by rw[Jc (by rw[h.len];exact g),qK rfl],.val r)
  ·obtain ⟨w,a,b⟩:=h.rel j s z;exact (w,by rw[FG n];exact a,b)
 ·rcases Dc f with ⟨_,z⟩|⟨n1,z1⟩
  ·cases z
  ·rcases Dc d with ⟨_,z⟩|⟨n2,z2⟩
   ·cases z
   ·rw[FG n1,FG n2];exact h.inj j k l m n z1 z2
 ·rcases Dc e with ⟨_,z⟩|⟨n1,z1⟩
  ·cases z
  ·rw[FG n1] at c;exact h.out j l a z1 c
theorem SR.fg1(h:SR Z H0 O0 O H σ ρ)(i:Nat):SR Z H0 O0 O H σ (A2 ρ i none):=by
 refine (h.ext,h.sub,h.new,h.ls,by rw[F5];exact h.len,λj s e=>?_,λj k l m n b d=>?_,λj l a e c=>?_)
 ·rcases Dc e with ⟨_,z⟩|⟨n,z⟩
  ·cases z
  ·exact h.rel j s z
 ·rcases Dc b with ⟨_,z⟩|⟨n1,z1⟩
  ·cases z
  ·rcases Dc d with ⟨_,z⟩|⟨n2,z2⟩
   ·cases z
   ·exact h.inj j k l m n z1 z2
 ·rcases Dc e with ⟨_,z⟩|⟨n1,z1⟩
  ·cases z
  ·exact h.out j l a z1 c
theorem SR.fg:∀(a:List Nat) {ρ:Bx},SR Z H0 O0 O H σ ρ->SR Z H0 O0 O H σ (GI a ρ)
 | [],_,h=>h
 |i::a,_,h=>SR.fg a<|h.fg1 i
theorem SR.own(h:SR Z H0 O0 O H σ ρ)(S:Ad H H'){i:Nat}{l:List PV}{a:Addr}{us:List V}(n:H a=none)(q:H' a=some (.lst us))(r:Af Z (hide (a::O) H') l us) :
 SR Z H0 O0 (a::O) H' (σ.set i<|some<|.ref a) (A2 ρ i<|some<|.own l)/\Ad (hide O H) (hide (a::O) H'):=by
 have u:a∉O:=h.ls.new n;have A:H0 a=none:=by
  cases e:H0 a with
  | none=>rfl
  | some o=>rw[h.ext _ _ e] at n; cases n
 have Sh:Ad (hide O H) (hide (a::O) H'):=λb o e=>by
  obtain ⟨m,e⟩:=HS e;rw[hide_out]
  ·exact S _ _ e
  ·rintro (_ | z)
   ·rw[n] at e; cases e
   ·exact m (by assumption)
 have t:∀(j:Nat) (s:Sl) (v:V),σ[j]?=some (some v)->Gr Z O H s v->Gr Z (a::O) H' s v:=λj s v _ k=>by
  cases k with
  | val r=>exact .val<|r.same Sh
  | own m h r=>exact .own (Wg _ m) (S _ _ h)<|r.same Sh
 refine ((λb o e=>S _ _<|h.ext b o e,λb m=>Wg _<|h.sub b m,?_,?_,by rw[U7,F5]; exact h.len,λj s e=>?_,λj k y B f c p=>?_,λj y b e g=>?_),Sh)
 ·rintro b (_ | m)
  ·exact .inr A
  ·exact h.new b (by assumption)
 ·rintro b (_ | m)
  ·exact (us,q)
  ·exact (h.ls.same S) b (by assumption)
 ·have d:j<ρ.length:=by have:=Je e; rw[F5] at this; exact this
  rcases Dc e with ⟨rfl,z⟩ | ⟨f,z⟩
  ·cases z
   exact (_,by rw[Jc (by rw[h.len]; exact d),qK rfl],.own Wc q r)
  ·obtain ⟨w,c,b⟩:=h.rel j s z
   exact (w,by rw[FG f]; exact c,t j s w c b)
 ·have x:∀j l,A0 ρ j=some (.own l)->σ[j]?≠some (some<|.ref a):=λj l e z=>by
   obtain ⟨v,c,b⟩:=h.rel j _ e;rw[z] at c; cases c
   cases b with | own m _ _=>exact u m
  have d:∀ {j s},A0 (A2 ρ i<|some<|.own l) j=some s->j<σ.length:=λe=>by have:=Je e; rw[F5] at this; rw[h.len]; exact this
  rcases Dc c with ⟨rfl,z⟩ | ⟨n1,z1⟩
  ·rcases Dc p with ⟨rfl,_⟩ | ⟨n2,z2⟩
   ·exact absurd rfl f
   ·rw[Jc<|d c,qK rfl,FG n2]; exact λz=>x k _ z2 z.symm
  ·rcases Dc p with ⟨rfl,z⟩ | ⟨n2,z2⟩
   ·rw[FG n1,Jc<|d p,qK rfl]; exact x j _ z1
   ·rw[FG n1,FG n2]; exact h.inj j k _ _ f z1 z2
 ·rcases Dc e with ⟨rfl,z⟩ | ⟨n1,z1⟩
  ·have d:j<σ.length:=by have:=Je e; rw[F5] at this; rw[h.len]; exact this
   rw[Jc d,qK rfl] at g
   cases g
   exact λm=>u<|h.sub _ m
  ·rw[FG n1] at g; exact h.out j y b z1 g
theorem SR.wr(h:SR Z H0 O0 O H σ ρ){i:Nat}{l t:List PV}{a:Addr}{us c:List V}(e:A0 ρ i=some (.own l))(n:σ[i]?=some (some<|.ref a))(q:H a=some (.lst us))(m:a∈O)(r:Af Z (hide O H) t c) :
 SR Z H0 O0 O (As H a<|.lst c) σ (A2 ρ i<|some<|.own t)/\Ad (hide O H) (hide O<|As H a<|.lst c):=by
 have f:hide O (As H a<|.lst c)=hide O H:=bP m;have y:H0 a=none:=by
  rcases h.new a m with z | z
  ·exact absurd z (h.out i l a e n)
  ·exact z
 refine ((λb o k=>?_,h.sub,h.new,λb p=>?_,by rw[F5]; exact h.len,λj s k=>?_,λj k x D d g v=>?_,λj x b k u=>?_),by rw[f]; exact λ_ _ z=>z)
 ·rw[AL λz=>by rw[z,y] at k; cases k]; exact h.ext b o k
 ·by_cases z:b=a
  ·rw[z,A4]; exact (c,rfl)
  ·rw[AL z]; exact h.ls b p
 ·rcases Dc k with ⟨rfl,z⟩ | ⟨d,z⟩
  ·cases z
   exact (_,n,.own m A4 (by rw[f]; exact r))
  ·obtain ⟨w,g,b⟩:=h.rel j s z
   refine (w,g,?_)
   cases b with
   | val r=>exact .val (by rw[f]; exact r)
   | own p B A =>
    refine .own p ?_ (by rw[f]; exact A);rw[AL λC=>h.inj j i _ _ d z e (by rw[g,n,C])]; exact B
 ·rcases Dc g with ⟨rfl,z⟩ | ⟨n1,z1⟩
  ·rcases Dc v with ⟨rfl,_⟩ | ⟨n2,z2⟩
   ·exact absurd rfl d
   ·exact h.inj j k _ _ d e z2
  ·rcases Dc v with ⟨rfl,z⟩ | ⟨n2,z2⟩
   ·exact h.inj j k _ _ d z1 e
   ·exact h.inj j k _ _ d z1 z2
 ·rcases Dc k with ⟨rfl,z⟩ | ⟨n1,z1⟩
  ·exact h.out j l b e u
  ·exact h.out j x b z1 u
theorem SR.free(h:SR Z H0 O0 O H σ ρ){i:Nat}{l:List PV}(e:A0 ρ i=some (.own l)):∃o,SR Z H0 O0 o H σ (A2 ρ i<|some<|.val<|.lst l)/\Ad (hide O H) (hide o H):=by
 obtain ⟨v,f,y⟩:=h.rel i _ e
 cases y with| @own _ a us m q r=>?_
 have Sh:Ad (hide O H) (hide (O.filter (· ≠ a)) H):=LH λb c=>(Wn.mp c).1;have A:a∉O.filter (· ≠ a):=λz=>by simpa using (Wn.mp z).2
 have n:∀b,b∈O->b≠a->b∈O.filter (· ≠ a):=λb c t=>Wn.mpr (c,by simpa using t);refine (O.filter (· ≠ a),(h.ext,λb c=>n b (h.sub b c) λz=>h.out i l a e f<|z ▸ c,λb c=>h.new b (Wn.mp c).1,λb c=>h.ls b (Wn.mp c).1,by rw[F5];exact h.len,λj s k=>?_,λj k p E g d x=>?_,λj p b k u=>?_),Sh)
 ·rcases Dc k with ⟨rfl,z⟩|⟨g,z⟩
  ·cases z
   refine (_,f,.val ?_);unfold Rep;exact (a,us,rfl,by rw[hide_out A];exact q,r.same Sh)
  ·obtain ⟨w,d,b⟩:=h.rel j s z;refine (w,d,?_)
   cases b with
   |val r=>exact .val<|r.same Sh
   |own c C B=>exact .own (n _ c λD=>h.inj j i _ _ g z e (by rw[d,f,D])) C<|B.same Sh
 ·rcases Dc d with ⟨_,z⟩|⟨n1,z1⟩
  ·cases z
  ·rcases Dc x with ⟨_,z⟩|⟨n2,z2⟩
   ·cases z
   ·exact h.inj j k _ _ g z1 z2
 ·rcases Dc k with ⟨_,z⟩|⟨n1,z1⟩
  ·cases z
  ·exact h.out j p b z1 u
end
abbrev AH:=PV->Prop
abbrev ZE:=Bx->AH->Prop
abbrev ZA:=Bx->(List PV->Prop)->Prop
abbrev ZT:=Bx->(Bool->Prop)->Prop
abbrev Up(Z:Zc)(O:Ay)(H:Hp)(Q:VK):AH:=λp=>∀v a,Ad H a->Rep Z (hide O a) p v->Q v a
def E1(Z:Zc)(b:Hp)(d:Ay)(t:ZE):TE:=λc H Q=>∃O a,SR Z b d O H c a/\t a (Up Z O H Q)
def Sk(Z:Zc)(d:Hp)(g:Ay)(t:ZA):TA:=λf H Q=>∃O b,SR Z d g O H f b/\t b λe=>∀c a,Ad H a->Af Z (hide O a) e c->Q c a
def NX(Z:Zc)(d:Hp)(f:Ay)(t:ZT):TT:=λe H Q=>∃O a,SR Z d f O H e a/\t a λb=>∀c,Ad H c->Q b c
def Jt(Z:Zc)(e:Hp)(g:Ay)(t:ZA):TE:=λf H Q=>∃O d,SR Z e g O H f d/\t d λl=>∀a c b,Ad H b->H a=none->b a=some (.lst c)->Af Z (hide (a::O) b) l c->Q (.ref a) b
abbrev Mo{α:Type}(t:Bx->(α->Prop)->Prop):Prop:=∀a (A B:α->Prop),(∀p,A p->B p)->t a A->t a B
structure QE (Z:Zc) (X:Cx) (e:Expr) (t:ZE):Prop where
 mo:Mo t
 ok:∀H0 O0,PE X e (E1 Z H0 O0 t)
structure QL (Z:Zc) (X:Cx) (e:Expr) (t:ZA):Prop where
 mo:Mo t
 ok:∀H0 O0,PE X e (Jt Z H0 O0 t)
structure QA (Z:Zc) (X:Cx) (es:List Expr) (t:ZA):Prop where
 mo:Mo t
 ok:∀H0 O0,PA X es (Sk Z H0 O0 t)
structure QT (Z:Zc) (X:Cx) (e:Expr) (t:ZT):Prop where
 mo:Mo t
 ok:∀H0 O0,PT X e (NX Z H0 O0 t)
structure QW (Z:Zc) (X:Cx) (e:Expr) (t:ZT):Prop where
 mo:Mo t
 ok:∀H0 O0,PW X e (NX Z H0 O0 t)
theorem QW.t{Z:Zc}{X:Cx}{e:Expr}{t:ZT}(h:QW Z X e t):QT Z X e t:=(h.mo,λa b=>(h.ok a b).pt)
theorem BZ{t t':TE}(h:PE X e t)(m:∀σ H Q,t' σ H Q->t σ H Q):PE X e t':=λa s σ H Q I q=>h a s σ H Q I<|m σ H Q q
theorem WL{t t':TA}(h:PA X e t)(m:∀σ H Q,t' σ H Q->t σ H Q):PA X e t':=λb a s σ H Q I q=>h b a s σ H Q I<|m σ H Q q
theorem MG{t t':TT}(h:PT X e t)(m:∀σ H Q,t' σ H Q->t σ H Q):PT X e t':=λa s σ H Q I q=>h a s σ H Q I<|m σ H Q q
theorem UK{t t':TT}(h:PW X e t)(m:∀σ H Q,t' σ H Q->t σ H Q):PW X e t':=λb a s σ H Q I q=>h b a s σ H Q I<|m σ H Q q
variable{X:Cx}
section
variable{i j:Nat}{x:Str}{pos p2 p3:Pos}{a b e:Expr}{es:List Expr}{ta tb te:ZE}{t:ZA}
abbrev JH(t:ZA):ZE:=λc Q=>t c λl=>Q<|.lst l
theorem QL.toE(h:QL Z X e t):QE Z X e (JH t):=(λc A B f q=>h.mo c _ _ (λ_=>f _) q,λd p=>BZ (h.ok d p) λv H Q ⟨O,c,s,q⟩=>(O,c,s,h.mo c _ _ (λl k a o u S n g r=>k _ u S (by
 unfold Rep;exact (a,o,rfl,by rw[hide_out<|s.ls.new n];exact g,r.same<|LH λb m=>Wg _ m))) q))
abbrev zV(i:Nat):ZE:=λc Q=>match A0 c i with
 |some (.val p)=>Q p
 |_=>False
theorem qv(i:Nat)(g:X.N[i]?=some x:=by rfl)(h:ET X.env.scope x:=by first|exact .inl rfl|exact .inr (.inl rfl)|exact .inr (.inr rfl))(l:(x==("__debug__":Str))=false:=by decide) (c:(x==("__classdict__":Str))=false:=by decide):QE Z X (.Name x pos) (zV i) :=
 (λd A B f q=>by
  unfold zV at *
  split at q
  ·exact f _ q
  ·exact q.elim,λm n=>BZ (FH g h l c) λo H Q ⟨O,d,s,q⟩=>by
  unfold zV at q
  split at q
  ·next p e =>
   obtain ⟨v,k,r⟩:=s.rel i _ e
   cases r with|val r=>exact (v,k,q v H (λ_ _ z=>z) r)
  ·exact q.elim)
abbrev zC(p:PV):ZE:=λ_ Q=>Q p
theorem qc(h:PE X e (tC v))(r:∀H,Rep Z H p v):QE Z X e (zC p):=(λ_ _ _ f q=>f _ q,λc k=>BZ h λd H Q ⟨O,g,s,q⟩=>q v H (λ_ _ z=>z)<|r _)
theorem Ah{i j}:QE Z X (.Constant (.int i) j pos) (zC<|.int i):=qc Aj λ_=>by unfold Rep;rfl
theorem LL{b j}:QE Z X (.Constant (.bool b) j pos) (zC<|.bl b):=qc GA λ_=>by unfold Rep;rfl
abbrev Gv:=PV->PV->AH->Prop
def LR(Z:Zc)(r:R2)(z:Gv):Prop:=(∀p q (A B:AH),(∀r,A r->B r)->z p q A->z p q B)/\∀O H p q x y Q,Ls O H->Rep Z (hide O H) p x->Rep Z (hide O H) q y->z p q (Up Z O H Q)->r x y H Q
abbrev ER(z:Gv)(ta tb:ZE):ZE:=λc Q=>ta c λp=>tb c λq=>z p q Q
theorem two(l:LR Z r z)(D:Mo ta)(n:Mo tb){d:Hp}{f:Ay}{σ:L2.St}{H:Hp}{Q:VK}(h:E1 Z d f (ER z ta tb) σ H Q):IW r (E1 Z d f ta) (E1 Z d f tb) σ H Q:=by
 obtain ⟨O,c,s,q⟩:=h;refine (O,c,s,D c _ _ (λp k v F g u=>(O,c,s.same g,n c _ _ (λm B y w S2 E=>?_) k)) q);have S:=λa o z=>S2 a o<|g a o z;exact l.2 O w p m v y Q (s.ls.same S) (u.h S2) E<|l.1 _ _ _ _ (λp k v C A=>k v C λa o z=>A a o<|S a o z) B
theorem Ip{z:Gv}(l:∀p q (A B:AH),(∀r,A r->B r)->z p q A->z p q B)(h:Mo ta)(d:Mo tb):Mo (ER z ta tb):=λc _ _ f q=>h c _ _ (λ_ k=>d c _ _ (λ_ g=>l _ _ _ _ f g) k) q
theorem AA(m:B3 X (binaryOp g) r)(l:LR Z r z)(c:QE Z X a ta)(d:QE Z X b tb):QE Z X (.BinOp a g b pos) (ER z ta tb) :=
 (Ip l.1 c.mo d.mo,λf k=>BZ (Ar m (c.ok f k)<|d.ok f k) λ_ _ _ h=>two l c.mo d.mo h)
abbrev zI(C:Int->Int->Prop)(g:Int->Int->PV):Gv:=λp q Q=>match p,q with
 | .int i,.int j=>C i j/\Q (g i j)
 |_,_=>False
abbrev Fh(g:Int->Int->PV):Gv:=λp q Q=>match p,q with
 | .int i,.int j=>Q<|g i j
 |_,_=>False
theorem A3{i:Int}(h:Rep Z H (.int i) v):v = .int i:=by unfold Rep at h;exact h
theorem rep_bl{i:Bool}(h:Rep Z H (.bl i) v):v = .bl i:=by unfold Rep at h;exact h
theorem rep_i{i:Int}:Rep Z H (.int i) (.int i):=by unfold Rep;rfl
theorem D2{i:Bool}:Rep Z H (.bl i) (.bl i):=by unfold Rep;rfl
theorem mH{g:Int->Int->V}{g':Int->Int->PV}(h:∀i j H,Rep Z H (g' i j)<|g i j):LR Z (rI C g) (zI C g') :=
 (λp q A B f h=>by
  unfold zI at *;split at h
  ·exact (h.1,f _ h.2)
  ·exact h.elim,λO H p q x y Q _ c d k=>by
  unfold zI at k;split at k
  ·exact (_,_,A3 c,A3 d,k.1,k.2 _ H (λ_ _ z=>z)<|h _ _ _)
  ·exact k.elim)
theorem Vw{g:Int->Int->V}{g':Int->Int->PV}(h:∀i j H,Rep Z H (g' i j)<|g i j):LR Z (EX g) (Fh g') :=
 (λp q A B f h=>by
  unfold Fh at *;split at h
  ·exact f _ h
  ·exact h.elim,λO H p q x y Q _ c d k=>by
  unfold Fh at k;split at k
  ·exact (_,_,A3 c,A3 d,k _ H (λ_ _ z=>z)<|h _ _ _)
  ·exact k.elim)
theorem li{f:Int->Int->Int}:LR Z (EX λi j => .int<|f i j) (Fh λi j => .int<|f i j):=Vw λ_ _ _=>rep_i
theorem lb{f:Int->Int->Bool}:LR Z (EX λi j => .bl<|f i j) (Fh λi j => .bl<|f i j):=Vw λ_ _ _=>D2
theorem lc{f:Int->Int->Int}:LR Z (rI C λi j => .int<|f i j) (zI C λi j => .int<|f i j):=mH λ_ _ _=>rep_i
abbrev zN(ta:ZE):ZE:=λc Q=>ta c λp=>match p with
 | .int i=>Q<|.int<|-i
 |_=>False
abbrev FK:ZA:=λ_ Q=>Q []
abbrev DG(ta:ZE)(t:ZA):ZA:=λc Q=>ta c λp=>t c λl=>Q (p::l)
theorem EM:QA Z X [] FK:=(λ_ _ _ f q=>f _ q,λc h=>WL An λd H Q ⟨O,g,s,q⟩=>q [] H (λ_ _ z=>z) .nil)
theorem DR(d:QE Z X e te)(g:QA Z X es t)(u:starEach (e::es) X.env=(false,eval e X.env)::starEach es X.env:=by rfl):QA Z X (e::es) (DG te t) :=
 (λc _ _ f q=>d.mo c _ _ (λ_ k=>g.mo c _ _ (λ_ h=>f _ h) k) q,λm r=>WL (Ag (d.ok m r) (g.ok m r) u) λB H Q ⟨O,c,s,q⟩ =>
  (O,c,s,d.mo c _ _ (λp k v C n w=>(O,c,s.same n,g.mo c _ _ (λl h D y S2 A=>h _ y (λa o z=>S2 a o<|n a o z)<|.cons (w.h S2) A) k)) q))
section
variable{b c d:Expr}{tb tc td:ZE}
theorem By(f:QE Z X a ta)(g:starEach [a] X.env=(false,eval a X.env)::starEach [] X.env:=by rfl):QA Z X [a] (DG ta FK):=DR f EM g
theorem Aw(g:QE Z X a ta)(f:QE Z X b tb)(h:starEach [a,b] X.env=(false,eval a X.env)::starEach [b] X.env:=by rfl)(k:starEach [b] X.env=(false,eval b X.env)::starEach [] X.env:=by rfl):QA Z X [a,b] (DG ta<|DG tb FK):=DR g (By f k) h
theorem BG(h:QE Z X a ta)(m:QE Z X b tb)(f:QE Z X c tc)(k:starEach [a,b,c] X.env=(false,eval a X.env)::starEach [b,c] X.env:=by rfl)(g:starEach [b,c] X.env=(false,eval b X.env)::starEach [c] X.env:=by rfl)(l:starEach [c] X.env=(false,eval c X.env)::starEach [] X.env:=by rfl):QA Z X [a,b,c] (DG ta<|DG tb<|DG tc FK):=DR h (Aw m f g l) k
theorem IH(g:QE Z X a ta)(m:QE Z X b tb)(f:QE Z X c tc)(l:QE Z X d td)(h:starEach [a,b,c,d] X.env=(false,eval a X.env)::starEach [b,c,d] X.env:=by rfl)(n:starEach [b,c,d] X.env=(false,eval b X.env)::starEach [c,d] X.env:=by rfl)(k:starEach [c,d] X.env=(false,eval c X.env)::starEach [d] X.env:=by rfl)(o:starEach [d] X.env=(false,eval d X.env)::starEach [] X.env:=by rfl):QA Z X [a,b,c,d] (DG ta<|DG tb<|DG tc<|DG td FK):=DR g (BG m f l n k o) h
end
def LC(Z:Zc)(r:List V->Hp->VK->Prop)(z:List PV->AH->Prop):Prop:=(∀p (A B:AH),(∀r,A r->B r)->z p A->z p B)/\∀O H p x Q,Ls O H->Af Z (hide O H) p x->z p (Up Z O H Q)->r x H Q
abbrev GK(z:List PV->AH->Prop)(t:ZA):ZE:=λc Q=>t c λl=>z l Q
theorem one(l:LC Z r z)(m:Mo t){d:Hp}{n:Ay}{σ:L2.St}{H:Hp}{Q:VK}(h:E1 Z d n (GK z t) σ H Q):Sk Z d n t σ H λvs c=>r vs c Q:=by
 obtain ⟨O,g,s,q⟩:=h;exact (O,g,s,m g _ _ (λw k vs c f u=>l.2 O c w vs Q (s.ls.same f) u<|l.1 _ _ _ (λp k v A y=>k v A λa o z=>y a o<|f a o z) k) q)
theorem Ix{m:String}{p:Pos}(l:LC Z r z)(n:EC X (.builtin m) r)(s:Gl X x)(y:X.mg x=none)(A:bootBuiltins x=some (.builtin m))(d:QA Z X (e::es) t)(B:x ≠ "__name__" := by decide) (c:(x==("__debug__" : Str))=false:=by decide)
 (u:starEach (e::es) X.env=(false,eval e X.env)::starEach es X.env:=by rfl) (g:(backTo pos<|starEach es X.env).any (·.1)=false:=by rfl):QE Z X (.Call (.Name x p) (e::es) [] pos) (GK z t) :=
 (λv _ _ f q=>d.mo v _ _ (λ_ k=>l.1 _ _ _ f k) q,λo w=>BZ (Cf n s y A (d.ok o w) B c u g) λ_ _ _ h=>one l d.mo h)
end
theorem BI:Ad H H:=λ_ _ z=>z
theorem AW(a:Ad H d)(b:Ad d c):Ad H c:=λ_ _ z=>b _ _<|a _ _ z
theorem Db{l:List PV}(h:Rep Z H (.lst l) v):∃a us,v = .ref a/\H a=some (.lst us)/\Af Z H l us:=by unfold Rep at h;exact h
theorem Iz{l:List PV}(h:Rep Z H (.tup l) v):∃a us,v = .ref a/\H a=some (.tup us)/\Af Z H l us:=by unfold Rep at h;exact h
theorem ZJ{H:Hp}{us:List V}(h:H a=some (.lst us))(r:Af Z H l us):Rep Z H (.lst l) (.ref a):=by unfold Rep;exact (a,us,rfl,h,r)
theorem Pf{H:Hp}{us:List V}(h:H a=some (.tup us))(r:Af Z H l us):Rep Z H (.tup l) (.ref a):=by unfold Rep;exact (a,us,rfl,h,r)
theorem Af.at{p:PV}(h:Af Z H l us)(e:CC l i=some p):∃u,CC us i=some u/\Rep Z H p u:=by
 unfold CC at *;rw[h.len]
 cases k:DE l.length i with
 |none=>rw[k] at e;cases e
 |some j=>rw[k] at e;exact h.get e
theorem eB{H:Hp}(n:H a=none):Ad (hide O H) (hide (a::O)<|As H a o):=λb u e=>by
 obtain ⟨m,e⟩:=HS e;have c:b≠a:=λz=>by rw[z,n] at e;cases e
 rw[hide_out,AL c]
 ·exact e
 ·rintro (_|z)
  ·exact c rfl
  ·exact m (by assumption)
section
variable{i j:Nat}{x:Str}{pos p2 p3:Pos}{a b e:Expr}{es:List Expr}{ta tb te:ZE}{t:ZA}
inductive At (l:List PV) (i:Int) (Q:AH):Prop
 |mk (v:PV) (h:CC l i=some v) (q:Q v):At l i Q
theorem At.mo{i:Int}{A B:AH}(f:∀p,A p->B p)(h:At l i A):At l i B:=let ⟨v,e,q⟩:=h;(v,e,f _ q)
abbrev G8:Gv:=λp q Q=>match p,q with
 | .lst l,.int i=>At l i Q
 | .tup l,.int i=>At l i Q
 |_,_=>False
theorem A8(d:QE Z X a ta)(w:QE Z X b tb)(M:Oh b:=by exact λ_ _=>rfl):QE Z X (.Subscript a b pos) (ER G8 ta tb):=by
 have l:LR Z (λx y H Q=>Lh X.K x y H Q\/Li X.K x y H Q) G8:=(λp q A B f h=>by
  unfold G8 at *;split at h
  ·exact h.mo f
  ·exact h.mo f
  ·exact h.elim,λO H p q x y Q _ F D k=>by
  unfold G8 at k;split at k
  ·obtain ⟨a,g,e,h,r⟩:=Db F;obtain ⟨v,m,k⟩:=k;obtain ⟨u,n,o⟩:=r.at m;exact .inl (a,g,_,u,e,A3 D,.of<|hide_le _ _ h,n,k u H BI o)
  ·obtain ⟨a,g,e,h,r⟩:=Iz F;obtain ⟨v,m,k⟩:=k;obtain ⟨u,n,o⟩:=r.at m;exact .inr (a,g,_,u,e,A3 D,.of<|hide_le _ _ h,n,k u H BI o)
  ·exact k.elim)
 have N:Kb X (λx y H Q=>Lh X.K x y H Q\/Li X.K x y H Q):=λv s c K J H x y C u Q I G L h=>h.elim (λh=>FN v s c K J H x y C u Q I G L h) λh=>A6 v s c K J H x y C u Q I G L h;exact (Ip l.1 d.mo w.mo,λE z=>BZ (AY N (d.ok E z) (w.ok E z) M) λ_ _ _ h=>two l d.mo w.mo h)
theorem SR.ow(s:SR Z d f O H σ ρ){l:List PV}(e:A0 ρ i=some (.own l)):∃a us,σ[i]?=some (some<|.ref a)/\a∈O/\H a=some (.lst us)/\Af Z (hide O H) l us:=by
 obtain ⟨v,c,r⟩:=s.rel i _ e
 cases r with|own m h r=>exact (_,_,c,m,h,r)
abbrev zO(i:Nat)(f:List PV->Prop)(ρ:Bx):Prop:=match A0 ρ i with
 |some (.own l)=>f l
 |_=>False
theorem G1{f g:List PV->Prop}(h:∀l,f l->g l)(k:zO i f ρ):zO i g ρ:=by
 unfold zO at *
 split at k
 ·exact h _ k
 ·exact k.elim
theorem Hh(k:zO i f ρ):∃l,A0 ρ i=some (.own l)/\f l:=by
 unfold zO at k
 split at k
 ·exact (_,by assumption,k)
 ·exact k.elim
abbrev DD(p:PV)(f:Int->Prop):Prop:=match p with
 | .int i=>f i
 |_=>False
theorem EB{f g:Int->Prop}(h:∀l,f l->g l)(k:DD p f):DD p g:=by
 unfold DD at *
 split at k
 ·exact h _ k
 ·exact k.elim
theorem EG(k:DD p f):∃i,p = .int i/\f i:=by
 unfold DD at k
 split at k
 ·exact (_,rfl,k)
 ·exact k.elim
abbrev ZY(i:Nat)(tb:ZE):ZE:=λc Q=>zO i (λl=>tb c λq=>DD q λk=>At l k Q) c
theorem La(i:Nat)(o:QE Z X b tb)(D:X.N[i]?=some x:=by rfl)(N:ET X.env.scope x:=by first|exact .inl rfl|exact .inr (.inl rfl)|exact .inr (.inr rfl))(y:Oh b:=by exact λ_ _=>rfl)(E:(x==("__debug__":Str))=false:=by decide) (d:(x==("__classdict__":Str))=false:=by decide):QE Z X (.Subscript (.Name x p2) b pos) (ZY i tb) :=
 (λc A B f q=>G1 (λl k=>o.mo c _ _ (λp k=>EB (λ_ k=>k.mo f) k) k) q,λI C=>BZ (AY FN (FH D N E d) (o.ok I C) y) λR H Q ⟨O,c,s,q⟩=>by
  obtain ⟨l,G,q⟩:=Hh q;obtain ⟨a,z,J,m,h,r⟩:=s.ow G;refine (_,J,O,c,s,o.mo c _ _ (λp k v P g K=>?_) q);obtain ⟨n,rfl,w,M,k⟩:=EG k;obtain ⟨u,F,L⟩:=r.at M;exact (a,z,n,u,rfl,A3 K,.of<|g _ _ h,F,k u P g<|L.h g))
abbrev GY(p:PV)(f:List PV->Prop):Prop:=match p with
 | .lst l=>f l
 | .tup l=>f l
 |_=>False
theorem R9{f g:List PV->Prop}(h:∀l,f l->g l)(k:GY p f):GY p g:=by
 unfold GY at *
 split at k
 ·exact h _ k
 ·exact h _ k
 ·exact k.elim
theorem Tq{K:Ac}(r:Rep Z (hide O H) p v)(k:GY p f):∃l a us,v = .ref a/\(AR K H a us\/AI K H a us)/\(∃o,H a=some o)/\Af Z (hide O H) l us/\f l:=by
 unfold GY at k
 split at k
 ·obtain ⟨a,us,e,h,r⟩:=Db r;exact (_,a,us,e,.inl<|.of<|hide_le _ _ h,(_,hide_le _ _ h),r,k)
 ·obtain ⟨a,us,e,h,r⟩:=Iz r;exact (_,a,us,e,.inr<|.of<|hide_le _ _ h,(_,hide_le _ _ h),r,k)
 ·exact k.elim
abbrev HM(l:List PV)(f:PV->Prop):Prop:=match l with
 | [p]=>f p
 |_=>False
theorem fT{f g:PV->Prop}{l:List PV}(h:∀l,f l->g l)(k:HM l f):HM l g:=by
 unfold HM at *
 split at k
 ·exact h _ k
 ·exact k.elim
theorem Xk(k:HM l f):∃p,l=[p]/\f p:=by
 unfold HM at k
 split at k
 ·exact (_,rfl,k)
 ·exact k.elim
theorem Af.one{p:PV}(h:Af Z H [p] us):∃u,us=[u]/\Rep Z H p u:=by
 unfold Af at h;obtain ⟨u,r,e,q,t⟩:=h;unfold Af at t;exact (u,by rw[e,t],q)
abbrev VR:List PV->AH->Prop:=λl Q=>HM l λp=>GY p λl=>Q<|.int l.length
theorem aC:LC Z (λxs H Q=>∃p ys,xs=[.ref p]/\(AR X.K H p ys\/AI X.K H p ys)/\Q (.int ys.length) H) VR :=
 (λp A B f h=>fT (λ_ h=>R9 (λ_=>f _) h) h,λO H p x Q _ r k=>by
  obtain ⟨p,rfl,m⟩:=Xk k;obtain ⟨u,rfl,n⟩:=r.one;obtain ⟨l,a,c,rfl,o,_,d,g⟩:=Tq (K:=X.K) n m;exact (a,c,rfl,o,by rw[d.len];exact g _ H BI rep_i))
theorem Ci{p:Pos}(g:X.mg "len"=none) (d:QE Z X e te) (f:Gl X "len":= by rfl) (c:starEach [e] X.env=[(false,eval e X.env)]:=by rfl):QE Z X (.Call (.Name "len" p) [e] [] pos) (GK VR<|DG te FK) :=
 Ix aC E7 f g boot_len (DR d EM c) ∅ ∅ c rfl
abbrev iZ(i:Nat):ZE:=λc Q=>zO i (λl=>Q<|.int l.length) c
theorem UW{p:Pos}(i:Nat)(u:X.mg "len"=none) (g:Gl X "len":= by rfl) (o:X.N[i]?=some x:=by rfl) (v:ET X.env.scope x:=by first|exact .inl rfl|exact .inr (.inl rfl)|exact .inr (.inr rfl)) (w:(x==("__debug__":Str))=false:=by decide) (c:(x==("__classdict__":Str))=false:=by decide):QE Z X (.Call (.Name "len" p) [.Name x p2] [] pos) (iZ i) :=
 (λn A B f q=>G1 (λl=>f _) q,λz C=>BZ (Cf E7 g u boot_len<|Ag (FH o v w c) An) λD H Q ⟨O,n,s,q⟩=>by
  obtain ⟨l,y,q⟩:=Hh q;obtain ⟨a,k,d,m,h,r⟩:=s.ow y;exact (_,d,a,k,rfl,.inl<|.of h,by rw[r.len];exact q _ H BI rep_i))
theorem nw{O:Ay}{Q:VK}(S:Ad H c)(k:∀a us c,Ad H c->H a=none->c a=some (.lst us)->Af Z (hide (a::O) c) l us->Q (.ref a) c)(r:Af Z (hide O c) l us):∀p,c p=none->Q (.ref p) (As c p<|.lst us):=λp n =>
 k p us _ (AW S<|Bg n _) (S.free n) A4 (r.same<|eB n)
abbrev mK(te:ZE):ZA:=λc Q=>te c λp=>GY p Q
theorem WT{p:Pos}(y:X.mg "list"=none) (d:QE Z X e te) (n:Gl X "list":= by rfl) (g:starEach [e] X.env=[(false,eval e X.env)]:=by rfl):QL Z X (.Call (.Name "list" p) [e] [] pos) (mK te) :=
 (λc A B f q=>d.mo c _ _ (λp k=>R9 f k) q,λh u=>BZ (Px Yl n y boot_list (Ag (d.ok h u) An g) ∅ ∅ g rfl) λC H Q ⟨O,c,s,q⟩ =>
  (O,c,s,d.mo c _ _ (λp k v D m o=>by
   obtain ⟨l,a,r,rfl,z,_,w,k⟩:=Tq (K:=X.K) o k;exact (a,r,rfl,z,nw m k w)) q))
abbrev jL(t:ZA):ZE:=λc Q=>t c λl=>l.length<=1000/\Q (.tup l)
theorem CH{x1}(h:QA Z X es t):QE Z X (.Tuple es x1 pos) (jL t) :=
 (λc _ _ f q=>h.mo c _ _ (λl k=>(k.1,f _ k.2)) q,λm o=>BZ (DI<|h.ok m o) λr H Q ⟨O,c,s,q⟩=>(O,c,s,h.mo c _ _ (λl k v u d g=>(by
  rw[g.len];exact Wf<|FX k.1,λp n=>k.2 _ _ (AW d<|Bg n _)<|Pf (by rw[hide_out<|(s.ls.same d).new n];exact A4)<|g.h<|Bg n _)) q))
abbrev bJ(t:ZA):ZA:=λc Q=>t c λl=>l.length<=1000/\Q l
theorem Cs(h:QA Z X es t):QL Z X (.List es pos) (bJ t) :=
 (λc _ _ f q=>h.mo c _ _ (λl k=>(k.1,f _ k.2)) q,λg n=>BZ (Jb<|h.ok g n) λo H Q ⟨O,c,s,q⟩=>(O,c,s,h.mo c _ _ (λl k r p m d=>(by
  rw[d.len];exact Wf<|FX k.1,nw m k.2 d)) q))
abbrev ZO:=Bx->(Option Int->Prop)->Prop
def p6(Z:Zc)(f:Hp)(h:Ay)(t:ZO):TO:=λg H Q=>∃O c,SR Z f h O H g c/\t c λb=>∀d,Ad H d->Q b d
structure QO (Z:Zc) (X:Cx) (e:Option Expr) (t:ZO):Prop where
 mo:Mo t
 ok:∀H0 O0,PO X e (p6 Z H0 O0 t)
theorem Vf{X:Cx}{e:Option Expr}{t t':TO}(h:PO X e t)(m:∀σ H Q,t' σ H Q->t σ H Q):PO X e t':=λc s σ H Q I q=>h c s σ H Q I<|m σ H Q q
abbrev Yt:ZO:=λ_ Q=>Q none
abbrev Xr(te:ZE):ZO:=λc Q=>te c λp=>DD p λi=>Q<|some i
theorem GV:QO Z X none Yt:=(λ_ _ _ f q=>f _ q,λc h=>Vf O2 λd H Q ⟨O,g,s,q⟩=>q H BI)
theorem F6(h:QE Z X e te):QO Z X (some e) (Xr te):=(λc _ _ f q=>h.mo c _ _ (λp k=>EB (λ_=>f _) k) q,λd m=>Vf (Oo<|h.ok d m) λo H Q ⟨O,c,s,q⟩=>(O,c,s,h.mo c _ _ (λp k v n g l=>by
 obtain ⟨i,rfl,k⟩:=EG k;exact (i,A3 l,k n g)) q))
def Da(xs:List PV)(lo c:Option Int):List PV:=(xs.drop<|HT.sIx xs.length 0 lo).take<|HT.sIx xs.length xs.length c-HT.sIx xs.length 0 lo
theorem Af.cut(h:Af Z H l us)(lo c:Option Int):Af Z H (Da l lo c) (FB us lo c):=by
 unfold Da FB;rw[h.len];exact (h.drop _).take _
abbrev zL(p:PV)(f:List PV->Prop):Prop:=match p with
 | .lst l=>f l
 |_=>False
theorem GC{f g:List PV->Prop}(h:∀l,f l->g l)(k:zL p f):zL p g:=by
 unfold zL at *
 split at k
 ·exact h _ k
 ·exact k.elim
theorem Gp(k:zL p f):∃l,p = .lst l/\f l:=by
 unfold zL at k
 split at k
 ·exact (_,rfl,k)
 ·exact k.elim
abbrev iJ(te:ZE)(g h:ZO):ZA:=λc Q=>te c λp=>zL p λl=>g c λd=>h c λf=>Q<|Da l d f
variable{lo hi:Option Expr}{tl th:ZO}
theorem GN(m:QE Z X e te)(w:QO Z X lo tl)(u:QO Z X hi th):QL Z X (.Subscript e (.Slice lo hi none p2) pos) (iJ te tl th) :=
 (λc _ _ f q=>m.mo c _ _ (λp k=>GC (λl k=>w.mo c _ _ (λ_ k=>u.mo c _ _ (λ_ k=>f _ k) k) k) k) q,λd n=>BZ (JV JR (m.ok d n) (w.ok d n)<|u.ok d n) λC H Q ⟨O,c,s,q⟩ =>
  (O,c,s,m.mo c _ _ (λp k v D g y=>by
   obtain ⟨l,rfl,k⟩:=Gp k;obtain ⟨a,z,rfl,h,r⟩:=Db y;exact (O,c,s.same g,w.mo c _ _ (λlo k B S2=>(O,c,s.same<|AW g S2,u.mo c _ _ (λhi k A o=>(a,z,rfl,.of<|o _ _<|S2 _ _<|hide_le _ _ h,nw (AW g<|AW S2 o) k<|(r.cut lo hi).h<|AW S2 o)) k)) k)) q))
abbrev kF(i:Nat)(tl th:ZO):ZA:=λc Q=>zO i (λl=>tl c λlo=>th c λhi=>Q<|Da l lo hi) c
theorem mL(i:Nat)(o:QO Z X lo tl)(n:QO Z X hi th)(y:X.N[i]?=some x:=by rfl)(z:ET X.env.scope x:=by first|exact .inl rfl|exact .inr (.inl rfl)|exact .inr (.inr rfl))(A:(x==("__debug__":Str))=false:=by decide) (d:(x==("__classdict__":Str))=false:=by decide):QL Z X (.Subscript (.Name x p3) (.Slice lo hi none p2) pos) (kF i tl th) :=
 (λc _ _ f q=>G1 (λl k=>o.mo c _ _ (λ_ k=>n.mo c _ _ (λ_ k=>f _ k) k) k) q,λp u=>BZ (JV JR (FH y z A d) (o.ok p u)<|n.ok p u) λE H Q ⟨O,c,s,q⟩=>by
  obtain ⟨l,B,k⟩:=Hh q;obtain ⟨a,w,v,m,h,r⟩:=s.ow B;exact (_,v,O,c,s,o.mo c _ _ (λlo k D S2=>(O,c,s.same S2,n.mo c _ _ (λhi k C g=>(a,w,rfl,.of<|g _ _<|S2 _ _ h,nw (AW S2 g) k<|(r.cut lo hi).h<|AW S2 g)) k)) k))
abbrev YO(ta tb:ZE):ZA:=λc Q=>ta c λp=>tb c λq=>zL p λl=>zL q λm=>l.length+m.length<=1000/\Q (l++m)
theorem GW(n:QE Z X a ta)(o:QE Z X b tb):QL Z X (.BinOp a .Add b pos) (YO ta tb) :=
 (λg _ _ f q=>n.mo g _ _ (λp k=>o.mo g _ _ (λ_ k=>GC (λ_ k=>GC (λ_ k=>(k.1,f _ k.2)) k) k) k) q,λw u=>BZ (Ar RO (n.ok w u)<|o.ok w u) λM H Q ⟨O,g,s,q⟩ =>
  (O,g,s,n.mo g _ _ (λp k v N y E=>(O,g,s.same y,o.mo g _ _ (λL k K J S2 D=>by
   obtain ⟨l,rfl,I⟩:=Gp k;obtain ⟨m,rfl,F,B⟩:=Gp I;obtain ⟨c,A,rfl,h,r⟩:=Db E;obtain ⟨d,C,rfl,G,z⟩:=Db D;exact (c,d,A,C,rfl,rfl,S2 _ _<|hide_le _ _ h,hide_le _ _ G,by rw[r.len,z.len];exact Wf<|FX F,nw (AW y S2) B<|(r.h S2).append z)) k)) q))
abbrev Br(b:Bool)(A B:Prop):Prop:=match b with
 |true=>A
 |false=>B
theorem Br.mo{b:Bool}{A B c d:Prop}(f:A->c)(g:B->d)(h:Br b A B):Br b c d:=by
 cases b with
 |true=>exact f h
 |false=>exact g h
theorem br[Decidable p]{A B:Prop}(f:p->A)(g:¬p->B):Br (decide p) A B:=by
 by_cases h:p
 ·rw[rG h];exact f h
 ·rw[q7 h];exact g h
abbrev Mc(te:ZE):ZT:=λc Q=>te c λp=>match p with
 | .bl b=>Q b
 |_=>False
theorem Mj{Q:Bool->Prop}{p:PV}(k:match p with| .bl b=>Q b|_=>False):∃b,p = .bl b/\Q b:=by
 split at k
 ·exact (_,rfl,k)
 ·exact k.elim
theorem Rw(m:Mo te):Mo (Mc te):=λc A B f q=>m c _ _ (λp k=>by
 obtain ⟨b,rfl,k⟩:=Mj k;exact f _ k) q
theorem SG(m:B3 X (compareOp d) r)(l:LR Z r z)(c:QE Z X a ta)(f:QE Z X b tb)(n:behindInMarks d b=false:=by exact Bn _):QE Z X (.Compare a [d] [b] pos) (ER z ta tb) :=
 (Ip l.1 c.mo f.mo,λg k=>BZ (FY m (c.ok g k) (f.ok g k) n) λ_ _ _ h=>two l c.mo f.mo h)
theorem Ch(n:B3 X (compareOp f) r)(l:LR Z r z)(c:QE Z X a ta)(d:QE Z X b tb)(w:behindInMarks f b=false:=by exact Bn _):QT Z X (.Compare a [f] [b] pos) (Mc<|ER z ta tb) :=
 (Rw<|Ip l.1 c.mo d.mo,λg m=>MG (BK n (c.ok g m) (d.ok g m) w) λA H Q ⟨O,h,s,q⟩=>two l c.mo d.mo (O,h,s,Ip l.1 c.mo d.mo h _ _ (λp k v y o u=>by
  obtain ⟨b,rfl,k⟩:=Mj k;exact (b,rep_bl u,k y o)) q))
theorem Fv(h:QE Z X e te)(m:∀c,isTrue e X.env c=(do let v ← c;standAt e.pos;holding [v] (truthy v)):=by intro _;rfl):QT Z X e (Mc te) :=
 (Rw h.mo,λf n=>MG (DQ (h.ok f n) m) λr H Q ⟨O,d,s,q⟩=>(O,d,s,h.mo d _ _ (λp k v o g l=>by
  obtain ⟨b,rfl,k⟩:=Mj k;exact (b,rep_bl l,k o g)) q))
theorem i7(i j:Int):decide (V.int i=V.int j)=decide (i=j):=decide_eq_decide.mpr (λh=>V.int.inj h,λh=>by rw[h])
theorem Vg(n:Bool):LR Z (λx y H Q=>N3 x y=true/\Q (.bl<|n ^^ decide (x=y)) H) (Fh λi j => .bl<|n ^^ decide (i=j)) :=
 (λp q A B f h=>by
  unfold Fh at *;split at h
  ·exact f _ h
  ·exact h.elim,λO H p q x y Q _ c d k=>by
  unfold Fh at k;split at k
  ·rw[A3 c,A3 d];refine (rfl,k _ H BI ?_);rw[i7];exact D2
  ·exact k.elim)
theorem D9:LR Z VZ (Fh λi j => .bl<|decide<|i=j):=by
 have:=Vg (Z:=Z) false
 simp only[Bool.false_xor] at this;exact this
theorem p7:LR Z UP (Fh λi j => .bl<|!decide (i=j)):=by
 have:=Vg (Z:=Z) true
 simp only[Bool.true_xor] at this;exact this
variable{tA tB':ZT}{rest:List Expr}
abbrev lL(t:ZT):ZT:=λc Q=>t c λb=>Q<|!b
theorem Ij(h:QT Z X a tA):QT Z X (.UnaryOp .Not a pos) (lL tA):=(λd _ _ f q=>h.mo d _ _ (λ_=>f _) q,λc g=>MG (GG<|h.ok c g) λk H Q q=>q)
abbrev iG(t u:ZT):ZT:=λc Q=>t c λb=>Br b (u c Q)<|Q false
abbrev pT(t u:ZT):ZT:=λc Q=>t c λb=>Br b (Q true)<|u c Q
theorem HX(h:QT Z X a tA):QW Z X (.BoolOp .And [a] pos) tA:=(h.mo,λc d=>Rb<|h.ok c d)
theorem JP(h:QT Z X a tA):QW Z X (.BoolOp .Or [a] pos) tA:=(h.mo,λc d=>Hl<|h.ok c d)
theorem Hc(g:QT Z X a tA)(l:QW Z X (.BoolOp .And (b::rest) pos) tB'):QW Z X (.BoolOp .And (a::b::rest) pos) (iG tA tB') :=
 (λd A B f q=>g.mo d _ _ (λ_ k=>k.mo (l.mo d _ _ f)<|f _) q,λm n=>UK (Xb (g.ok m n)<|l.ok m n) λr H Q ⟨O,d,s,q⟩=>(O,d,s,g.mo d _ _ (λc k p h=>by
  cases c with
  |true=>rw[qK rfl];exact (O,d,s.same h,l.mo d _ _ (λb k o S2=>k o<|AW h S2) k)
  |false=>rw[qI ∅];exact k p h) q))
theorem HH(g:QT Z X a tA)(l:QW Z X (.BoolOp .Or (b::rest) pos) tB'):QW Z X (.BoolOp .Or (a::b::rest) pos) (pT tA tB') :=
 (λd A B f q=>g.mo d _ _ (λ_ k=>k.mo (f _)<|l.mo d _ _ f) q,λm n=>UK (FS (g.ok m n)<|l.ok m n) λr H Q ⟨O,d,s,q⟩=>(O,d,s,g.mo d _ _ (λc k p h=>by
  cases c with
  |true=>rw[qK rfl];exact k p h
  |false=>rw[qI ∅];exact (O,d,s.same h,l.mo d _ _ (λb k o S2=>k o<|AW h S2) k)) q))
abbrev f9(t:ZT)(ta tb:ZE):ZE:=λc Q=>t c λb=>Br b (ta c Q)<|tb c Q
theorem ZR(h:QT Z X c tA)(l:QE Z X a ta)(p:QE Z X b tb):QE Z X (.IfExp c a b pos) (f9 tA ta tb) :=
 (λd A B f q=>h.mo d _ _ (λ_ k=>k.mo (l.mo d _ _ f)<|p.mo d _ _ f) q,λm o=>BZ (YN (h.ok m o) (l.ok m o)<|p.ok m o) λr H Q ⟨O,d,s,q⟩=>(O,d,s,h.mo d _ _ (λc k u g=>by
  cases c with
  |true=>rw[qK rfl];exact (O,d,s.same g,l.mo d _ _ (λb k v n S2=>k v n<|AW g S2) k)
  |false=>rw[qI ∅];exact (O,d,s.same g,p.mo d _ _ (λb k v n S2=>k v n<|AW g S2) k)) q))
theorem D6(h:QE Z X a ta):QE Z X (.UnaryOp .USub a pos) (zN ta) :=
 (λc A B f q=>h.mo c _ _ (λp k=>by
  split at k
  ·exact f _ k
  ·exact k.elim) q,λd m=>BZ (G6 Hj<|h.ok d m) λo H Q ⟨O,c,s,q⟩=>(O,c,s,h.mo c _ _ (λp k v n g l=>by
  split at k
  ·exact (_,A3 l,k _ n g rep_i)
  ·exact k.elim) q))
end
abbrev ZF:=List PV->AH->Prop
abbrev Eo(S:ZF):Prop:=∀a (A B:AH),(∀p,A p->B p)->S a A->S a B
inductive EO (Z:Zc) (S:ZF) (vs:List V) (H:Hp) (Q:VK) (E:XK):Prop
 |mk (O:Ay) (ps:List PV) (l:Ls O H) (r:Af Z (hide O H) ps vs) (s:S ps (Up Z O H Q)):EO Z S vs H Q E
structure Fn (P:Program) (w:World) (K:Ac) (mg:Ai) (base:Heap) (Z:Zc) (x:Str) (k:Nat) (S:ZF):Prop where
 mo:Eo S
 has:∃ps,C1 P w K mg base x k ps (EO Z S)
theorem Fn.mono{K:Ac}{j k:Nat}(h:Fn P w K mg base Z x j S)(e:j<=k):Fn P w K mg base Z x k S:=(h.mo,let ⟨ps,a⟩:=h.has;(ps,a.mono e))
theorem Up.tr(b:Ad H a)(p:PV)(k:Up Z O H Q p):Up Z O a Q p:=λv d c=>k v d<|AW b c
section
variable{i j k:Nat}{x m:Str}{pos p2 p3 apos:Pos}{a b e o:Expr}{es:List Expr}{ta tb te:ZE}{t:ZA}{S:ZF}
theorem AD{p:Pos}(h:Fn X.prog X.w X.K X.mg X.base Z x k S)(g:QA Z X (e::es) t)(A:Av k X.A:=by assumption)(v:Gl X x:=by rfl)(d:(x==("__debug__" : Str))=false:=by decide)
 (y:starEach (e::es) X.env=(false,eval e X.env)::starEach es X.env:=by rfl) (l:(backTo pos<|starEach es X.env).any (·.1)=false:=by rfl):QE Z X (.Call (.Name x p) (e::es) [] pos) (GK S t):=by
 obtain ⟨r,B⟩:=h.has;exact (λc _ _ f q=>g.mo c _ _ (λ_ k=>h.mo _ _ _ f k) q,λu z=>BZ (KF B HV A v (g.ok u z) d y l) λC H Q ⟨O,c,s,q⟩ =>
  (O,c,s,g.mo c _ _ (λr k E D n w=>(O,r,s.ls.same n,w,h.mo _ _ _ (Up.tr n) k)) q))
abbrev ZK:=PV->Prop->Prop
abbrev zKd:ZK:=λp A=>match p with
 | .kd _=>A
 |_=>False
abbrev Ec:ZK:=λp A=>match p with
 | .kp _=>A
 |_=>False
structure Mt (P:Program) (w:World) (K:Ac) (mg:Ai) (base:Heap) (Z:Zc) (G:ZK) (m:Str) (k:Nat) (S:ZF):Prop where
 mo:Eo S
 g:∀p A B,(A->B)->G p A->G p B
 go:∀p A,G p A->A
 ok:∀(p:PV) (x:V) (H:Hp) (O:Ay),Rep Z (hide O H) p x->G p True->∃a C dx fs ps dvs sp,x = .ref a/\H a=some (.ins C dx fs)/\BV K C/\Au P w K mg base C m k ps dvs sp/\fs.lookup m=none ∧
  ∀H1 vs ws Q,Ad H H1->Ls O H1->Af Z (hide O H1) vs ws->S (p::vs) (Up Z O H1 Q)->sp (x::(ws++dvs)) H1 Q E0
theorem Mt.mono{K:Ac}{m:Str}{j k:Nat}{S:ZF}(h:Mt P w K mg base Z G m j S)(e:j<=k):Mt P w K mg base Z G m k S :=
 (h.mo,h.g,h.go,λp x H O r g=>let ⟨a,C,dx,fs,ps,dvs,sp,h1,h2,h3,h4,h5,h6⟩:=h.ok p x H O r g;(a,C,dx,fs,ps,dvs,sp,h1,h2,h3,h4.mono e,h5,h6))
abbrev zM(G:ZK)(S:ZF)(ta:ZE)(t:ZA):ZE:=λc Q=>ta c λo=>G o<|t c λl=>S (o::l) Q
theorem Bh(h:Mt X.prog X.w X.K X.mg X.base Z G m k S)(n:QE Z X o ta)(d:QA Z X (e::es) t)(J:Av k X.A:=by assumption)
 (g:starEach (e::es) X.env=(false,eval e X.env)::starEach es X.env:=by rfl) (u:(backTo pos<|starEach es X.env).any (·.1)=false:=by rfl)
 (B:eval (.Call (.Attribute o m apos) (e::es) [] pos) X.env=(do
  let ov ← eval o X.env
  standAt apos.atName
  let (f,first) ← holding [ov] (getMethod ov m pl)
  callWith pos f first (backTo pos<|starEach (e::es) X.env) (backToKw pos<|keywordEach [] X.env)):=by rfl) :
 QE Z X (.Call (.Attribute o m apos) (e::es) [] pos) (zM G S ta t) :=
 (λc _ _ f q=>n.mo c _ _ (λ_ k=>h.g _ _ _ (λk=>d.mo c _ _ (λ_ k=>h.mo _ _ _ f k) k) k) q,λz y=>BZ (P4 (n.ok z y) HV J (d.ok z y) g u B) λσ H Q ⟨O,c,s,q⟩ =>
  (O,c,s,n.mo c _ _ (λp k v Y r R=>by
   obtain ⟨a,C,F,T,U,w,K,W,L,I,D,M,E⟩:=h.ok p v Y O R<|h.g _ _ _ (λ_=>trivial) k;exact (a,C,F,T,U,w,K,W,L,I,D,M,O,c,s.same r,d.mo c _ _ (λl k N A S2 P=>E A l N Q S2 (s.ls.same<|AW r S2) P<|h.mo _ _ _ (Up.tr<|AW r S2) k)<|h.go _ _ k)) q))
def PY(Z:Zc)(d:Ay)(f:Hp)(J:It)(l:List PV):Prop:=∀O H,Ad (hide d f) (hide O H)->Ls O H->∀i:Nat,(i=l.length->J.stop i H)/\∀p,l[i]?=some p->J.go i H/\∀x c,J.yld i H x c->Ad H c/\Rep Z (hide O c) p x
def Jx(Z:Zc)(f:Hp)(h:Ay)(t:ZA):TI:=λg H R=>∃O d,SR Z f h O H g d/\t d λl=>∀J c,Ad H c->PY Z O c J l->R J c
structure QI (Z:Zc) (X:Cx) (tg it:Expr) (t:ZA):Prop where
 mo:Mo t
 ok:∀H0 O0,PI X tg it (Jx Z H0 O0 t)
theorem Ho{X:Cx}{d e:Expr}{t t':TI}(h:PI X d e t)(m:∀σ H Q,t' σ H Q->t σ H Q):PI X d e t':=λc s σ H Q I q=>h c s σ H Q I<|m σ H Q q
variable{tg:Expr}
abbrev mG(te:ZE):ZA:=λc Q=>te c λp=>zL p Q
theorem ED(h:QE Z X e te):QI Z X tg e (mG te) :=
 (λd _ _ f q=>h.mo d _ _ (λp k=>GC f k) q,λB y=>Ho (LB<|h.ok B y) λK H R ⟨O,d,s,q⟩=>(O,d,s,h.mo d _ _ (λp k v G C D=>by
  obtain ⟨l,rfl,k⟩:=Gp k;obtain ⟨a,c,rfl,n,r⟩:=Db D;refine (a,rfl,(c,.of<|hide_le _ _ n),k _ G C λL I S2 _ i=>?_);have g:=hide_le _ _<|S2 _ _ n;refine (λe=>(c,.of g,by rw[e,r.len];exact Q4 _),λp A=>?_);obtain ⟨u,w,E⟩:=r.get A;refine ((c,u,.of g,w),λx J ⟨F,z⟩=>?_);subst F;have:=z c<|.of g;rw[w] at this;cases this;exact (BI,E.same S2)) q))
def Gu(lo:Int)(n:Nat):List PV:=(List.range n).map λi:Nat => .int<|lo+(i:Int)
theorem DF{lo:Int}:(Gu lo n).length=n:=by unfold Gu;rw[Q1,Qu]
theorem EQ{lo:Int}{n i:Nat}{p:PV}(h:(Gu lo n)[i]?=some p):i<n/\p = .int (lo+i):=by
 have l:i<n:=by have:=(Qr.mp h).1;rw[DF] at this;exact this
 unfold Gu at h;rw[Q7,Ww l] at h;exact (l,(rA h).symm)
theorem WG{lo:Int}:PY Z O H (FW lo n) (Gu lo n):=λg h _ _ i=>(λe=>by rw[DF] at e;exact Wt e.symm,λp c=>by
 obtain ⟨l,rfl⟩:=EQ c;refine (l,λx q ⟨d,f⟩=>?_);subst d f;exact (BI,rep_i))
abbrev gD(te:ZE):ZA:=λc Q=>te c λp=>DD p λj=>j<2^62 /\ -(2^62)<=j/\Q (Gu 0 j.toNat)
theorem GD{p:Pos}(w:X.mg "range"=none) (h:QE Z X e te) (l:Gl X "range":= by rfl) (d:starEach [e] X.env=[(false,eval e X.env)]:=by rfl):QI Z X tg (.Call (.Name "range" p) [e] [] pos) (gD te) :=
 (λc _ _ f q=>h.mo c _ _ (λp k=>EB (λ_ k=>(k.1,k.2.1,f _ k.2.2)) k) q,λg u=>Ho (KW l w (Ag (h.ok g u) An d) d) λB H R ⟨O,c,s,q⟩=>(O,c,s,h.mo c _ _ (λp k v y n r=>by
  obtain ⟨j,rfl,z,A,k⟩:=EG k;exact (j,by rw[A3 r],A,z,k _ y n WG)) q))
abbrev gH(ta tb:ZE):ZA:=λc Q=>ta c λp=>tb c λq=>DD p λi=>DD q λj=>(-(2^62)<=i/\i<2^62 /\ -(2^62)<=j/\j<2^62)/\Q (Gu i (j-i).toNat)
theorem Oi{p:Pos}(A:X.mg "range"=none) (g:QE Z X a ta) (h:QE Z X b tb) (w:Gl X "range":= by rfl) (n:starEach [a,b] X.env=[(false,eval a X.env),(false,eval b X.env)]:=by rfl) (d:starEach [b] X.env=[(false,eval b X.env)]:=by rfl):QI Z X tg (.Call (.Name "range" p) [a,b] [] pos) (gH ta tb) :=
 (λc _ _ f q=>g.mo c _ _ (λp k=>h.mo c _ _ (λ_ k=>EB (λ_ k=>EB (λ_ k=>(k.1,f _ k.2)) k) k) k) q,λl u=>Ho (jW w A (Ag (g.ok l u) (Ag (h.ok l u) An d) (by rw[n,d])) n d) λG H R ⟨O,c,s,q⟩=>(O,c,s,g.mo c _ _ (λp k v J r y=>(O,c,s.same r,h.mo c _ _ (λF k I z S2 E=>by
  obtain ⟨i,rfl,D⟩:=EG k;obtain ⟨j,rfl,B,C⟩:=EG D;exact (i,j,by rw[A3 y,A3 E],B,C _ z (AW r S2) WG)) k)) q))
abbrev VA(te:ZE):ZA:=λc Q=>te c λp=>zL p λl=>Q l.reverse
theorem WD{p:Pos}(D:X.mg "reversed"=none) (h:QE Z X e te) (A:Gl X "reversed":= by rfl) (w:starEach [e] X.env=[(false,eval e X.env)]:=by rfl):QI Z X tg (.Call (.Name "reversed" p) [e] [] pos) (VA te) :=
 (λc _ _ f q=>h.mo c _ _ (λp k=>GC (λ_=>f _) k) q,λE B=>Ho (nO A D (Ag (h.ok E B) An w) w) λP H R ⟨O,c,s,q⟩=>(O,c,s,h.mo c _ _ (λp k v L F G=>by
  obtain ⟨l,rfl,k⟩:=Gp k;obtain ⟨a,d,rfl,n,r⟩:=Db G;refine (a,d,rfl,.of<|hide_le _ _ n,k _ L F λQ M S2 _ i=>?_);have y:=hide_le _ _<|S2 _ _ n;have z:=r.len;refine (λe=>by rw[We] at e;rw[z];exact e,λp g=>?_);have li:i<l.length:=by have:=(Qr.mp g).1;rw[We] at this;exact this
  rw[rK li] at g;obtain ⟨u,K,I⟩:=r.get g;refine ((⋯,d,.of y,rfl),λx N ⟨J,C⟩=>?_);subst J;have:=C d<|.of y;rw[z,K] at this;cases this;exact (BI,I.same S2)) q))
end
structure ZD where
 nx:Bx->Prop
 rt:AH
 bk:Bx->Prop
 ct:Bx->Prop
abbrev ZS:=ZD->Bx->Prop
structure ZD.Le (D D':ZD):Prop where
 nx:∀ρ,D.nx ρ->D'.nx ρ
 rt:∀p,D.rt p->D'.rt p
 bk:∀ρ,D.bk ρ->D'.bk ρ
 ct:∀ρ,D.ct ρ->D'.ct ρ
abbrev PR(t:ZS):Prop:=∀D a b,ZD.Le D a->t D b->t a b
def HF(Z:Zc)(d:Hp)(f O:Ay)(H:Hp)(q:L2.St->Hp->Prop):Bx->Prop:=λe=>∀c a b,SR Z d f c b a e->Ad (hide O H) (hide c b)->q a b
def dn(Z:Zc)(a:Hp)(b O:Ay)(H:Hp)(D:Dz):ZD :=
 (HF Z a b O H D.nx,λp=>∀v c,Ad a c->Rep Z (hide b c) p v->D.rt v c,HF Z a b O H D.bk,HF Z a b O H D.ct)
theorem Jv(S:Ad (hide O H) (hide e d))(ρ:Bx)(h:HF Z b c O H q ρ):HF Z b c e d q ρ:=λf a g s S2=>h f a g s<|AW S S2
theorem Ic(S:Ad (hide O H) (hide d c)):ZD.Le (dn Z a b O H D) (dn Z a b d c D):=(Jv S,λ_ h=>h,Jv S,Jv S)
def Pd(Z:Zc)(a:Hp)(c:Ay)(t:ZS):TS:=λD d H=>∃O b,SR Z a c O H d b/\t (dn Z a c O H D) b
structure QS (Z:Zc) (X:Cx) (s:Stmt) (t:ZS):Prop where
 mo:PR t
 ok:∀H0 O0,PS X s (Pd Z H0 O0 t)
structure DH (Z:Zc) (X:Cx) (s:List Stmt) (t:ZS):Prop where
 mo:PR t
 ok:∀H0 O0,CT X s (Pd Z H0 O0 t)
theorem QS.m{st:Stmt}{D a:ZD}(h:QS Z X st u)(q:u D ρ)(l:D.Le a):u a ρ:=h.mo _ _ _ l q
theorem DH.m{st:List Stmt}{D a:ZD}(h:DH Z X st u)(q:u D ρ)(l:D.Le a):u a ρ:=h.mo _ _ _ l q
theorem Du{X:Cx}{t t':TS}(h:PS X e t)(m:∀D σ H,t' D σ H->t D σ H):PS X e t':=λa s σ H D I q=>h a s σ H D I<|m D σ H q
theorem Kw{X:Cx}{t t':TS}(h:CT X e t)(m:∀D σ H,t' D σ H->t D σ H):CT X e t':=λa s σ H D I q=>h a s σ H D I<|m D σ H q
section
variable{i j k:Nat}{x m:Str}{pos p2 p3 apos:Pos}{a b e o:Expr}{es:List Expr}{ta tb te:ZE}{t:ZA}{tc:ZT}{st:Stmt}{ss s2:List Stmt}{u u2:ZS}
abbrev gV:ZS:=λD c=>D.nx c
abbrev SW(u u2:ZS):ZS:=λD c=>u (λc=>u2 D c,D.rt,D.bk,D.ct) c
theorem DM:DH Z X [] gV:=(λ_ _ _ l h=>l.nx _ h,λd g=>Kw BW λD c H ⟨O,f,s,q⟩=>q O c H s BI)
theorem AK(h:QS Z X st u):DH Z X [st] u:=(h.mo,λc d=>Az<|h.ok c d)
theorem Ap(h:QS Z X st u)(c:DH Z X ss u2):DH Z X (st::ss) (SW u u2) :=
 (λD y g l q=>h.m q (λ_ k=>c.mo _ _ _ l k,l.rt,l.bk,l.ct),λf n=>Kw (AQ (h.ok f n)<|c.ok f n) λD A H ⟨O,g,s,q⟩ =>
  (O,g,s,h.m q (λd k r v B p w=>(r,d,p,c.mo _ _ _ (Ic w) k),λ_ z=>z,λ_ z=>z,λ_ z=>z)))
abbrev Iw(i:Nat)(te:ZE):ZS:=λD c=>te c λp=>D.nx<|A2 c i<|some<|.val p
theorem AE(i:Nat)(y:X.N.Nodup)(h:QE Z X e te)(A:X.N[i]?=some x:=by rfl)(B:Loc X.env.scope x:=by first|exact .inl rfl|exact .inr rfl)(g:swapsWith e (some<|.Name x p2) pos.line X.env=pure false:=by rfl)(w:X.fn x=true\/X.env.scope.names.lookup x=some .local:=by first|exact .inl rfl|exact .inr rfl|assumption):QS Z X (.Assign [.Name x p2] e pos) (Iw i te) :=
 (λD C c l q=>h.mo c _ _ (λp k=>l.nx _ k) q,λf r=>Du (Bv y A B (h.ok f r) g w) λD E H ⟨O,c,s,q⟩=>(O,c,s,h.mo c _ _ (λp k v z d n=>k O _ z ((s.same d).set n)<|Ct d) q))
abbrev JQ(i:Nat)(t:ZA):ZS:=λD c=>t c λl=>D.nx<|A2 c i<|some<|.own l
theorem Hi(i:Nat)(A:X.N.Nodup)(h:QL Z X e t)(C:X.N[i]?=some x:=by rfl)(F:Loc X.env.scope x:=by first|exact .inl rfl|exact .inr rfl)(f:swapsWith e (some<|.Name x p2) pos.line X.env=pure false:=by rfl)(z:X.fn x=true\/X.env.scope.names.lookup x=some .local:=by first|exact .inl rfl|exact .inr rfl|assumption):QS Z X (.Assign [.Name x p2] e pos) (JQ i t) :=
 (λD G c l q=>h.mo c _ _ (λp k=>l.nx _ k) q,λd y=>Du (Bv A C F (h.ok d y) f z) λD J H ⟨O,c,s,q⟩=>(O,c,s,h.mo c _ _ (λl k a I B r n g v=>by
  obtain ⟨w,E⟩:=s.own r (i:=i) n g v;exact k _ _ B w E) q))
abbrev gY(i:Nat)(u:ZS):ZS:=λD c=>zO i (λl=>u D<|A2 c i<|some<|.val<|.lst l) c
theorem Jr(i:Nat)(h:QS Z X st u):QS Z X st (gY i u) :=
 (λD r f l q=>G1 (λ_ k=>h.mo _ _ _ l k) q,λc g=>Du (h.ok c g) λD v H ⟨O,f,s,q⟩=>by
  obtain ⟨l,e,q⟩:=Hh q;obtain ⟨n,d,p⟩:=s.free e;exact (n,_,d,h.mo _ _ _ (Ic p) q))
abbrev iX(te:ZE):ZS:=λD c=>te c D.rt
theorem Bk(h:QE Z X e te):QS Z X (.Return (some e) pos) (iX te) :=
 (λD w c l q=>h.mo c _ _ l.rt q,λd n=>Du (A7<|h.ok d n) λD y H ⟨O,c,s,q⟩=>(O,c,s,h.mo c _ _ (λp k v r f g=>k v r (AW s.ext f)<|g.same<|LH s.sub) q))
abbrev mU(c:ZT)(u u2:ZS):ZS:=λD d=>c d λb=>Br b (u D d)<|u2 D d
theorem El(g:QT Z X c tc)(h:DH Z X ss u)(r:DH Z X s2 u2):QS Z X (.If c ss s2 pos) (mU tc u u2) :=
 (λD v d l q=>g.mo d _ _ (λ_ k=>k.mo (h.mo _ _ _ l)<|r.mo _ _ _ l) q,λn p=>Du (BX (g.ok n p) (h.ok n p)<|r.ok n p) λD w H ⟨O,d,s,q⟩=>(O,d,s,g.mo d _ _ (λc k y f=>by
  cases c with
  |true=>rw[qK rfl];exact (O,d,s.same f,h.mo _ _ _ (Ic<|Ct f) k)
  |false=>rw[qI ∅];exact (O,d,s.same f,r.mo _ _ _ (Ic<|Ct f) k)) q))
theorem lH:QS Z X st (λ_ _=>False):=(λ_ _ _ _ q=>q,λ_ _ _ _ _ _ _ _ ⟨_,_,_,q⟩=>q.elim)
inductive While (fs:List Nat) (c:ZT) (u:ZS) (D:ZD) (ρ:Bx):Prop
 |mk (W:Nat->Bx->Prop) (m:Nat) (h0:W m (GI fs ρ)) (hs:∀m ρ,W m ρ->c ρ λb=>Br b (u ⟨λρ2=>∃m',m'<m/\W m' (GI fs ρ2),D.rt,D.nx,λρ2=>∃m',m'<m/\W m' (GI fs ρ2)⟩ ρ) (D.nx ρ)):While fs c u D ρ
theorem Hg(y:List Nat){c:Expr}(K:QT Z X c tc)(h:DH Z X ss u)(hp:PassesOwn (model X.prog X.w) X.A X.env X.xe:=by exact PassesOwn.leaving):QS Z X (.While c ss [] pos) (While y tc u) :=
 (λD Y q l ⟨W,m,G,A⟩=>(W,m,G,λm q w=>by
  refine K.mo q _ _ (λb k=>?_)<|A m q w
  cases b with
  |true=>exact h.m (show u _ _ from k) (λ_ z=>z,l.rt,l.nx,λ_ z=>z)
  |false=>exact l.nx _ k),λv r=>Du (Fq hp (K.ok v r)<|h.ok v r) λD σ H ⟨O,q,s,W,m,G,A⟩=>by
  refine (λm g J=>∃p d,SR Z v r p J g d/\Ad (hide O H) (hide p J)/\W m d,(m,O,_,s.fg y,BI,G),?_);rintro m g J ⟨p,d,C,S,w⟩;refine (p,d,C,K.mo d _ _ (λb k U L=>?_)<|A m d w);have S2:=AW S<|Ct L
  cases b with
  |true =>
   show if true=true then _ else _
   rw[qK rfl];refine (λF Q=>∃n,n<m/\∃R f,SR Z v r R Q F f/\Ad (hide O H) (hide R Q)/\W n f,λ_ _ z=>z,p,d,C.same L,h.m k (?_,λ_ z=>z,?_,?_))
   ·rintro f ⟨n,M,I⟩ N B T E P;exact (n,M,N,_,E.fg y,AW S2 P,I)
   ·exact Jv S2
   ·rintro f ⟨n,M,I⟩ N B T E P;exact (n,M,N,_,E.fg y,AW S2 P,I)
  |false =>
   show if false=true then _ else _
   rw[qI ∅];exact k p g U (C.same L) S2)
abbrev ZG:=PV->Bx->(Bx->Prop)->Prop
structure QG (Z:Zc) (X:Cx) (tg:Expr) (g:ZG):Prop where
 mo:∀p ρ (A B:Bx->Prop),(∀ρ,A ρ->B ρ)->g p ρ A->g p ρ B
 ok:∃g':TG,PG X tg g'/\∀H0 O0 O H σ ρ p v (Q:L2.St->Hp->Prop),SR Z H0 O0 O H σ ρ->Rep Z (hide O H) p v->g p ρ (λρ'=>∀σ',SR Z H0 O0 O H σ' ρ'->Q σ' H)->g' v σ H Q
abbrev gN(i:Nat):ZG:=λp c k=>k<|A2 c i<|some<|.val p
theorem Eg(i:Nat)(g:X.N.Nodup)(h:X.N[i]?=some x:=by rfl)(l:Loc X.env.scope x:=by first|exact .inl rfl|exact .inr rfl)(d:X.fn x=true\/X.env.scope.names.lookup x=some .local:=by first|exact .inl rfl|exact .inr rfl|assumption):QG Z X (.Name x pos) (gN i) :=
 (λp c A B f q=>f _ q,DK i,CA g h l d,λn y O H w c p v Q s r k=>k _<|s.set r)
inductive For (l:List PV) (fs:List Nat) (g:ZG) (u:ZS) (D:ZD) (ρ:Bx):Prop
 |mk (I:Nat->Bx->Prop) (h0:I 0 (GI fs ρ)) (hs:∀i p ρ',l[i]?=some p->I i ρ'->g p ρ' λρ2=>u ⟨λρ3=>I (i+1) (GI fs ρ3),D.rt,D.nx,λρ3=>I (i+1) (GI fs ρ3)⟩ ρ2) (hd:∀ρ',I l.length ρ'->D.nx ρ'):For l fs g u D ρ
abbrev iV(d:List Nat)(zi:ZA)(g:ZG)(u:ZS):ZS:=λD c=>zi c λl=>For l d g u D c
theorem D3(L:List Nat){Y it:Expr}{g:ZG}(N:QI Z X Y it t)(hg:QG Z X Y g)(h:DH Z X ss u)(hp:PassesOwn (model X.prog X.w) X.A X.env X.xe:=by exact PassesOwn.leaving)(hc:X.calm=true:=by rfl)(B:∀x,foldedSetIterable it X.env x=pure x:=by intro _;rfl):QS Z X (.For Y it ss [] pos) (iV L t g u):=by
 obtain ⟨mg,g',pg,a0⟩:=hg;refine (λD D' G l q=>N.mo G _ _ (λls ⟨I,Q,B,P⟩=>(I,Q,λi p d e w=>by
  refine mg _ _ _ _ (λf k=>?_)<|B i p d e w;exact h.m k (λ_ z=>z,l.rt,l.nx,λ_ z=>z),λd w=>l.nx _<|P d w)) q,λF C=>Du (Gz hp hc (N.ok F C) pg (h.ok F C) B) λD σ H ⟨O,G,s,q⟩=>(O,G,s,N.mo G _ _ (λl ⟨I,Q,B,P⟩ J H1 S1 wk=>?_) q))
 refine (λi m n E=>m=l.length-i/\i<=l.length/\∃v d,SR Z F C v E n d/\Ad (hide O H1) (hide v E)/\I i d,(_,rfl,Qe _,O,_,(s.same S1).fg L,BI,Q),?_);rintro i m n E ⟨rfl,a1,v,d,T,K,w⟩;obtain ⟨w1,w2⟩:=wk v E K T.ls i;have S0:=AW (Ct S1) K
 by_cases e:i=l.length
 ·refine .inl (w1 e,P d (e ▸ w) v n E T S0)
 ·have lt:i<l.length:=⋯;obtain ⟨go,yl⟩:=w2 l[i]<|Q6 lt;refine .inr (go,λr A=>∃M f,SR Z F C M A r f/\Ad (hide O H1) (hide M A)/\I (i+1) f,λr A ⟨M,f,a,b,c⟩=>(l.length-(i+1),⋯,rfl,lt,M,f,a,b,c),λx A y=>?_);obtain ⟨S2,r2⟩:=yl x A y;refine a0 F C v A n d _ x _ (T.same S2) r2<|mg _ _ _ _ (λf k r s2=>?_)<|B i _ d (Q6 lt) w;refine (v,f,s2,h.m k (?_,λ_ z=>z,?_,?_))
  ·exact λR w3 O3 U H3 W S=>(O3,_,W.fg L,AW K<|AW (Ct S2) S,w3)
  ·exact Jv (AW S0<|Ct S2)
  ·exact λR w3 O3 U H3 W S=>(O3,_,W.fg L,AW K<|AW (Ct S2) S,w3)
abbrev iF(i:Nat)(f:Int->Int->Int)(te:ZE):ZS:=λD c=>zV i c λp=>te c λq=>DD p λd=>DD q λj=>D.nx<|A2 c i<|some<|.val<|.int<|f d j
theorem Tj{A B:AH}(f:∀p,A p->B p)(q:zV i ρ A):zV i ρ B:=by
 unfold zV at *
 split at q
 ·exact f _ q
 ·exact q.elim
theorem Vt(q:zV i ρ A):∃p,A0 ρ i=some (.val p)/\A p:=by
 unfold zV at q
 split at q
 ·exact (_,by assumption,q)
 ·exact q.elim
theorem Lq(i:Nat){n:Operator}{f:Int->Int->Int}(I:HB X n (PZ f))(A:X.N.Nodup)(h:QE Z X e te)(B:X.N[i]?=some x:=by rfl)(F:Loc X.env.scope x:=by first|exact .inl rfl|exact .inr rfl)(K:X.fn x=true\/X.env.scope.names.lookup x=some .local:=by first|exact .inl rfl|exact .inr rfl|assumption):QS Z X (.AugAssign (.Name x p2) n e pos) (iF i f te) :=
 (λD P g l q=>Tj (λp k=>h.mo g _ _ (λ_ k=>EB (λ_ k=>EB (λ_ k=>l.nx _ k) k) k) k) q,λG y=>Du (Lo A B F (h.ok G y) I K) λD R H ⟨O,g,s,q⟩=>by
  obtain ⟨p,z,q⟩:=Vt q;obtain ⟨v,C,r⟩:=s.rel i _ z
  cases r with|val r=>?_
  refine (v,C,O,g,s,h.mo g _ _ (λQ k N M w J=>?_) q);obtain ⟨c,rfl,L⟩:=EG k;obtain ⟨d,rfl,E⟩:=EG L;exact (c,d,A3 r,A3 J,E O _ M ((s.same w).set rep_i)<|Ct w))
abbrev YP(i:Nat)(te:ZE):ZS:=λD c=>zO i (λl=>te c λp=>l.length<1000/\D.nx (A2 c i<|some<|.own<|l++[p])) c
theorem Iv(i:Nat)(h:QE Z X e te)(I:X.N[i]?=some x:=by rfl)(P:ET X.env.scope x:=by first | exact .inl rfl | exact .inr (.inl rfl) | exact .inr (.inr rfl))(J:(x==("__debug__" : Str))=false:=by decide) (z:(x==("__classdict__" : Str))=false:=by decide)
 (d:attributeBase (.Name x p3) "append" X.env (eval (.Name x p3) X.env)=eval (.Name x p3) X.env:=by rfl)
 (n:((backTo p2<|starEach [e] X.env).all (λx=>!x.1)&&(backToKw p2<|keywordEach [] X.env).all (λx=>x.1.isSome)&&decide (([e]:List Expr).length+([]:List Keyword).length+(if ([]:List Keyword).isEmpty then 0 else 1)<30))=true:=by rfl)
 (c:(apos.endLine==p2.line)=true:=by rfl) (A:starEach [e] X.env=[(false,eval e X.env)]:=by rfl) (y:swapsWith (.Call (.Attribute (.Name x p3) "append" apos) [e] [] p2) none pos.line X.env=pure false:=by rfl):QS Z X (.Expr (.Call (.Attribute (.Name x p3) "append" apos) [e] [] p2) pos) (YP i te) :=
 (λD Q w l q=>G1 (λ_ k=>h.mo w _ _ (λ_ k=>(k.1,l.nx _ k.2)) k) q,λL G=>Du (Gb (Lr sS sI sJ JT (FH I P J z) (Ag (h.ok L G) An A) d n c A rfl) y) λD N H ⟨O,w,s,q⟩=>by
  obtain ⟨l,C,q⟩:=Hh q;obtain ⟨a,B,E,m,g,r⟩:=s.ow C;refine (_,E,.inl (rfl,B,.of g),O,w,s,h.mo w _ _ (λp k v R f M=>?_) q);obtain ⟨F,K⟩:=(s.same f).wr C E (f _ _ g) m<|(r.h f).append<|.cons M .nil;exact (a,B,v,rfl,rfl,f _ _ g,by rw[r.len]; exact FX<|Wf k.1,k.2 O N _ F<|AW (Ct f) K))
abbrev bH(i:Nat)(te tb:ZE):ZS:=λD c=>te c λp=>zO i (λl=>tb c λq=>DD q λk=>∃j,DE l.length k=some j/\D.nx (A2 c i<|some<|.own<|l.set j p)) c
theorem dS(i:Nat)(h:QE Z X e te)(w:QE Z X b tb)(I:X.N[i]?=some x:=by rfl)(P:ET X.env.scope x:=by first | exact .inl rfl | exact .inr (.inl rfl) | exact .inr (.inr rfl))(J:(x==("__debug__" : Str))=false:=by decide) (f:(x==("__classdict__" : Str))=false:=by decide)
 (C:∀v,assign (.Subscript (.Name x p3) b p2) X.env v=(do
  let ov ← holding [v] (eval (.Name x p3) X.env)
  let iv ← holding [v,ov] (eval b X.env)
  standAt p2
  holding [v,ov,iv] (setItem ov iv v)
  release [v,ov,iv] []):=by intros; rfl)
 (E:swapsWithSole [.Subscript (.Name x p3) b p2] e pos.line X.env=pure false:=by rfl) (hw:swappedStores [.Subscript (.Name x p3) b p2] e X.env=pure none:=by rfl)
 (Q:(assignEach [.Subscript (.Name x p3) b p2] X.env).map (·.2)=[assign (.Subscript (.Name x p3) b p2) X.env]:=by rfl):QS Z X (.Assign [.Subscript (.Name x p3) b p2] e pos) (bH i te tb) :=
 (λD U c l q=>h.mo c _ _ (λ_ k=>G1 (λ_ k=>w.mo c _ _ (λ_ k=>EB (λ_ ⟨j,e,k⟩=>(j,e,l.nx _ k)) k) k) k) q,λA y=>Du (M9 (h.ok A y) (Rv (FH I P J f) (w.ok A y) V6 C) E hw Q) λD N H ⟨O,c,s,q⟩=>(O,c,s,h.mo c _ _ (λp k v Y d M=>by
  obtain ⟨l,z,k⟩:=Hh k;obtain ⟨a,F,B,m,g,r⟩:=(s.same d).ow z;refine (_,B,O,c,s.same d,w.mo c _ _ (λW k T S S2 L=>?_) k);obtain ⟨n,rfl,j,R,k⟩:=EG k;obtain ⟨G,K⟩:=(s.same<|AW d S2).wr z B (S2 _ _ g) m<|(r.h S2).set j<|M.h S2;exact (a,F,n,j,rfl,A3 L,S2 _ _ g,by rw[r.len]; exact R,k O N _ G<|AW (Ct<|AW d S2) K)) q))
end
@[reducible] def DT:List Str->List PV->Bx
 | [],_=>[]
 |_::N,[]=>none::DT N []
 |_::N,v::vs=>some (.val v)::DT N vs
theorem Io:∀(N:List Str) (vs:List PV),(DT N vs).length=N.length
 | [],_=>rfl
 |_::N,[]=>qW (· + 1)<|Io N []
 |_::N,_::vs=>qW (· + 1)<|Io N vs
theorem R4:∀(N:List Str) (i:Nat),A0 (DT N []) i=none
 | [],_=>rfl
 |_::_,0=>rfl
 |_::N,i+1=>R4 N i
theorem Ft:∀ {N:List Str} {vs:List PV} {i:Nat} {s:Sl},A0 (DT N vs) i=some s->∃p,s = .val p/\vs[i]?=some p
 | [],_,_,_,h=>by cases h
 |_::N,[],i,s,h=>by rw[R4] at h;cases h
 |_::N,v::vs,0,s,h=>by cases h;exact (v,rfl,rfl)
 |_::N,v::vs,i+1,s,h=>Ft (N:=N) (vs:=vs) (i:=i) h
theorem IZ{N ps:List Str}{S:ZF}{t:ZS}{vs:List V}(c:∀vs Q,S vs Q->vs.length=ps.length)(d:DH Z X body t)
 (G:ps.length<=N.length) (o:∀vs Q,S vs Q->t (λ_=>Q .non,Q,λ_=>False,λ_=>False) (DT N vs)) (h:EO Z S vs H Q E):∃t,CT X body t/\t { nx:=λ_ b=>Q .non b,rt:=Q } (L2.start N vs) H:=by
 obtain ⟨O,pv,l,r,q⟩:=h;have I:=r.len;have J:=c _ _ q;refine (_,d.ok H O,O,DT N pv,(BI,λ_ m=>m,λ_ m => .inl m,l,?_,λi C e=>?_,λi j g m n y _=>?_,λi g a e _=>?_),d.m (o pv _ q) (λB k D x b A F=>k .non b A.ext (by unfold Rep; rfl),λp k v b=>k v b,λ_ z=>z.elim,λ_ z=>z.elim))
 ·unfold L2.start; rw[Qi,Q1,Wv,Io]; omega
 ·obtain ⟨p,rfl,s⟩:=Ft e
  obtain ⟨u,f,w⟩:=r.get s;refine (u,?_,.val w);unfold L2.start;rw[U3 (by rw[Q1]; exact (Qr.mp f).1),Q7,f]; rfl
 ·obtain ⟨p,z,_⟩:=Ft y; cases z
 ·obtain ⟨p,z,_⟩:=Ft e; cases z
theorem UX{K:Ac}{st:Stmt}{N ps:List Str}{t:ZS}(m:Ae K mg x st)(b:∀f e,BT K x x st f e->AB K e ps [])(i:Aa N ps (Ao st))(o:Eo S)(d:∀vs Q,S vs Q->vs.length=ps.length)
 (body:∀(f:Addr) (c:Value) (A:Around) (a:List Env) (s:Shared) (H:Hp) (E:XK),Av k (A.deeper<|envOfC x (Ao st) s.heap.objs.size f c)->DH Z (F1 P w K mg base N x (Ao st) f c A a s H E) (CL st) t)
 (j:ps.length<=N.length) (n:∀vs Q,S vs Q->t (λ_=>Q .non,Q,λ_=>False,λ_=>False) (DT N vs)):Fn P w K mg base Z x (k+1) S :=
 (o,ps,m.hasX b λf e F=>F.okx i (λvs H Q E h=>by
  obtain ⟨O,pv,l,r,q⟩:=h;rw[r.len]; exact d _ _ q) λc A a s H vs Q E g h=>IZ d (body f c A a s H E g) j n h)
section
variable{P:Program}{w:World}{K:Ac}{mg:Ai}{base:Heap}{x:Str}{st:Stmt}{k:Nat}{N ps:List Str}
theorem Cg{S:ZF}{t:ZS}(m:Ae K mg x st)(j:Aa N ps (Ao st))
 (body:∀(f:Addr) (c:Value) (A:Around) (a:List Env) (s:Shared) (H:Hp) (E:XK),Av k (A.deeper<|envOfC x (Ao st) s.heap.objs.size f c)->DH Z (F1 P w K mg base N x (Ao st) f c A a s H E) (CL st) t)
 (g:∀vs Q,S vs Q->t (λ_=>Q .non,Q,λ_=>False,λ_=>False) (DT N vs)) (l:ps.length<=N.length:=by decide)
 (b:∀f e,BT K x x st f e->AB K e ps []:=by exact λ_ _ F=>by first | exact F.b1 λ_ _ _ _ _ _ _=>rfl | exact F.b2 λ_ _ _ _ _ _ _ _=>rfl | exact F.b3 λ_ _ _ _ _ _ _ _ _=>rfl | exact F.b4 λ_ _ _ _ _ _ _ _ _ _=>rfl)
 (i:Eo S:=by intro _ _ _ f h; cases h; rename_i q; constructor <;> first | assumption | (intros; apply f; apply q <;> assumption))
 (d:∀vs Q,S vs Q->vs.length=ps.length:=by intro _ _ h; cases h; rfl):Fn P w K mg base Z x (k+1) S:=UX m b j i d body l g
theorem has_okA{sp:Sp}(h:Ae K mg x st)(l:Aa N ps (Ao st))(e:∀vs H Q E,sp vs H Q E->vs.length=ps.length)
 (body:∀(f:Addr) (d:Value) (A:Around) (a:List Env) (s:Shared) (H:Hp) (vs:List V) (Q:VK) (E:XK),Av k (A.deeper<|envOfC x (Ao st) s.heap.objs.size f d)->sp vs H Q E →
  ∃t,CT (Gi DW P w K mg base N x (Ao st) f d A a s H E).nox (CL st) t/\t { nx:=λ_ j=>Q .non j,rt:=Q } (L2.start N vs) H)
 (b:∀f g,BT K x x st f g->AB K g ps []:=by exact λ_ _ F=>by first | exact F.b1 λ_ _ _ _ _ _ _=>rfl | exact F.b2 λ_ _ _ _ _ _ _ _=>rfl | exact F.b3 λ_ _ _ _ _ _ _ _ _=>rfl | exact F.b4 λ_ _ _ _ _ _ _ _ _ _=>rfl):AF P w K mg base x (k+1) ps sp :=
 h.has b λf _ F=>F.ok l e λc A o s H vs Q E i=>body f c A o s H vs Q E i
end
variable{P:Program}{w:World}{K:Ac}{mg:Ai}{base:Heap}
@[irreducible] def num:(κ:KX)->κ.F->PV
 | .q,x => .tup [.int x.num,.int x.den]
 | .r _ _,x => .int x.val
abbrev nums(κ:KX)(xs:Ab κ):PV:=.lst<|xs.map<|num κ
theorem E9{κ:KX}{x:κ.F}(l:Ls O H)(h:NR κ H v x):Rep Z (hide O H) (num κ x) v:=by
 unfold num
 cases κ with
 |q =>
  obtain ⟨a,rfl,h⟩:=h;have b:a∉O:=λm=>by obtain ⟨c,q⟩:=l a m;rw[h] at q;cases q
  exact Pf (by rw[hide_out b];exact h)<|.cons rep_i<|.cons rep_i .nil
 |r p d=>cases h;exact rep_i
theorem D5{κ:KX}{x:κ.F}(h:Rep Z (hide O H) (num κ x) v):NR κ H v x:=by
 unfold num at h
 cases κ with
 |q =>
  obtain ⟨a,f,rfl,h,r⟩:=Iz h;unfold Af at r;obtain ⟨u,e,rfl,b,r⟩:=r;obtain ⟨g,rfl,c⟩:=r.one;rw[A3 b,A3 c] at h;exact (a,rfl,hide_le _ _ h)
 |r p d=>exact A3 h
theorem Gj{κ:KX}(h:Rep Z (hide O H) (.kd κ) v):∃a,v = .ref a/\EV Z.f Z.r κ H a:=by
 unfold Rep at h;obtain ⟨a,e,h⟩:=h;exact (a,e,h.1.same hide_le)
theorem Kz{κ:KX}(h:Rep Z H (.kd κ) v):Gd Z H:=by
 unfold Rep at h;obtain ⟨a,e,h⟩:=h;exact h.2
theorem Af.two{p q:PV}(h:Af Z H [p,q] us):∃u v,us=[u,v]/\Rep Z H p u/\Rep Z H q v:=by
 unfold Af at h;obtain ⟨u,r,e,a,t⟩:=h;obtain ⟨v,b,c⟩:=t.one;exact (u,v,by rw[e,b],a,c)
inductive S2 (g:(κ:KX)->κ.F->κ.F->κ.F):ZF
 |mk {Q:AH} {κ:KX} {x y:κ.F} (h1:B1 κ x) (h2:B1 κ y) (q:Q (num κ (g κ x y))):S2 g [.kd κ,num κ x,num κ y] Q
inductive Snz:ZF
 |mk {Q:AH} {κ:KX} {x:κ.F} (q:∀b:Bool,(b=true↔x=0)->Q (.bl b)):Snz [.kd κ,num κ x] Q
inductive Hx:ZF
 |mk {Q:AH} {κ:KX} {x:κ.F} (h:x≠0) (q:Q (num κ (Fd.inv x))):Hx [.kd κ,num κ x] Q
inductive Fy:ZF
 |mk {Q:AH} {κ:KX} {t:Int} (x:κ.F) (h:Cq κ t x) (q:Q (num κ x)):Fy [.kd κ,.int t] Q
theorem G2(p:PV)(A B:Prop)(f:A->B)(h:zKd p A):zKd p B:=by cases p <;> first|exact f h|exact h
theorem Hd(p:PV)(A:Prop)(h:zKd p A):A:=by cases p <;> first|exact h|exact h.elim
theorem GT(h:zKd p A):∃κ,p = .kd κ:=by cases p <;> first|exact (_,rfl)|exact h.elim
theorem mt_2{g:(b:KX)->b.F->b.F->b.F}(h:PM P w K mg base Z.f Z.r m g):Mt P w K mg base Z zKd m 2 (S2 g) :=
 (λi A B f ⟨d,c,q⟩=>(d,c,f _ q),G2,Hd,λp x H O r y=>by
  obtain ⟨b,rfl⟩:=GT y;obtain ⟨a,rfl,T⟩:=Gj r;obtain ⟨C,E,R,i,S,G,F,L,k,U,rfl,z⟩:=h b H a T;refine (a,C,E,R,i,_,G,rfl,F,L,k.toX,U,λW I Y Q J N M j=>?_);generalize e:PV.kd b::I=l at j;obtain ⟨d,c,q⟩:=j
  cases e
  obtain ⟨u,v,rfl,D,s⟩:=M.two;exact z W u v _ _ Q J (D5 D) (D5 s) d c λt o S2 n=>q t o S2<|E9 (N.same S2) n)
theorem mt_m(h:UH P w K mg base Z.f Z.r):Mt P w K mg base Z zKd "minus" 3 (S2 λ_ x y=>x-y) :=
 (λg A B f ⟨c,b,q⟩=>(c,b,f _ q),G2,Hd,λp x H O r o=>by
  obtain ⟨d,rfl⟩:=GT o;obtain ⟨a,rfl,S⟩:=Gj r;obtain ⟨C,D,N,g,R,F,E,J,j,T,rfl,s⟩:=h d H a S;refine (a,C,D,N,g,_,F,rfl,E,J,j.toX,T,λU G W Q I M L i=>?_);generalize e:PV.kd d::G=l at i;obtain ⟨c,b,q⟩:=i
  cases e
  obtain ⟨u,v,rfl,z,m⟩:=L.two;exact s U u v _ _ Q I (D5 z) (D5 m) c b λt k S2 n=>q t k S2<|E9 (M.same S2) n)
def NoughtZ(P:Program)(w:World)(K:Ac)(mg:Ai)(base:Heap)(i CR:Addr):Prop :=
 ∀(c:KX) (H:Hp) (s:Addr),EV i CR c H s->∃C g e h a f,H s=some (.ins C g e)/\BV K C/\AC P w K mg base C "is_nought" 2 h a f/\e.lookup ("is_nought":Str)=none/\a=[] ∧
  ∀(d:Hp) (u:V) (x:c.F) (Q:VK),NR c d u x->(∀b:Bool,(b=true↔x=0)->Q (.bl b) d)->f [.ref s,u] d Q E0
theorem mt_nz(h:NoughtZ P w K mg base Z.f Z.r):Mt P w K mg base Z zKd "is_nought" 2 Snz :=
 (λd A B f ⟨q⟩=>⟨λb e=>f _<|q b e⟩,G2,Hd,λp x H O r k=>by
  obtain ⟨c,rfl⟩:=GT k;obtain ⟨a,rfl,G⟩:=Gj r;obtain ⟨C,o,D,d,E,t,s,y,j,I,rfl,m⟩:=h c H a G;refine (a,C,o,D,d,_,t,rfl,s,y,j.toX,I,λi v J Q L M z g=>?_);generalize e:PV.kd c::v=l at g;obtain ⟨q⟩:=g
  cases e
  obtain ⟨u,rfl,n⟩:=z.one;exact m i u _ Q (D5 n) λb F=>q b F _ i BI D2)
theorem mt_back(h:Vh P w K mg base Z.f Z.r):Mt P w K mg base Z zKd "back" 4 Hx :=
 (λd A B f ⟨b,q⟩=>(b,f _ q),G2,Hd,λp x H O r k=>by
  obtain ⟨c,rfl⟩:=GT k;obtain ⟨a,rfl,L⟩:=Gj r;obtain ⟨C,s,I,d,J,y,v,E,i,M,rfl,m⟩:=h c H a L;refine (a,C,s,I,d,_,y,rfl,v,E,i,M,λN z R Q D G F g=>?_);generalize e:PV.kd c::z=l at g;obtain ⟨b,q⟩:=g
  cases e
  obtain ⟨u,rfl,o⟩:=F.one;exact m N u _ Q _ D (D5 o) b λt j S2 n=>q t j S2<|E9 (G.same S2) n)
theorem mt_num(h:SN P w K mg base Z.f Z.r):Mt P w K mg base Z zKd "number" 3 Fy :=
 (λd A B f ⟨x,b,q⟩=>(x,b,f _ q),G2,Hd,λp x H O r k=>by
  obtain ⟨c,rfl⟩:=GT k;obtain ⟨a,rfl,L⟩:=Gj r;obtain ⟨C,s,I,d,J,y,v,E,i,M,rfl,m⟩:=h c H a L;refine (a,C,s,I,d,_,y,rfl,v,E,i,M,λN z R Q D G F g=>?_);generalize e:PV.kd c::z=l at g;obtain ⟨x,b,q⟩:=g
  cases e
  obtain ⟨u,rfl,o⟩:=F.one;rw[A3 o];exact m N _ _ Q _ D b λt j S2 n=>q t j S2<|E9 (G.same S2) n)
abbrev P0(s:Option Sl):Option Sl:=match s with
 |some (.val p)=>some<|.val p
 |_=>none
@[reducible] def cap:List (Nat×Str)->Bx->Bx
 | [],_=>[]
 |c::r,ρ=>P0 (A0 ρ c.1)::cap r ρ
theorem RB:∀(caps:List (Nat×Str)) (ρ:Bx),(cap caps ρ).length=caps.length
 | [],_=>rfl
 |_::r,ρ=>qW (· + 1)<|RB r ρ
theorem WW:∀ {caps:List (Nat×Str)} {ρ:Bx} {i:Nat} {s:Sl},A0 (cap caps ρ) i=some s->∃p c,s = .val p/\caps[i]?=some c/\A0 ρ c.1=some (.val p)
 | [],_,_,_,h=>by cases h
 |c::r,ρ,0,s,h=>by
  have h:P0 (A0 ρ c.1)=some s:=h;unfold P0 at h
  split at h
  ·cases h;exact (_,c,rfl,rfl,by assumption)
  ·cases h
 |c::r,ρ,i+1,s,h=>WW (caps:=r) (i:=i) h
theorem SR.cap(h:SR Z o k O H σ ρ)(S:Ad H f)(caps:List (Nat×Str)):∀ {vs:List V} {ps:List PV},Af Z (hide O f) ps vs →
 SR Z o k O f (vs.map some++caps.map λp=>(σ[p.1]?).join) (ps.map (λp=>some<|.val p)++Zp.cap caps ρ):=fun {vs ps} r=>by
 have y:=r.len;have b:∀(ps:List PV) (vs:List V),Af Z (hide O f) ps vs->∀i s,A0 (ps.map (λp=>some<|.val p)++Zp.cap caps ρ) i=some s->∃p v,s = .val p/\(vs.map some++caps.map λp=>(σ[p.1]?).join)[i]?=some (some v)/\Rep Z (hide O f) p v:=by
  intro ps
  induction ps with
  | nil =>
   intro vs r i s e;have:vs=[]:=by unfold Af at r; exact r
   subst this;obtain ⟨p,c,rfl,E,x⟩:=WW (ρ:=ρ) (i:=i) e;obtain ⟨v,g,d⟩:=h.rel _ _ x
   cases d with | val d=>exact (p,v,rfl,by show (List.map _ caps)[i]?=_; rw[Q7,E]; show some ((σ[c.1]?).join)=_; rw[g]; rfl,d.h S)
  | cons q ps B =>
   intro vs r i s e;unfold Af at r;obtain ⟨u,t,rfl,D,A⟩:=r
   cases i with
   | zero=>cases e; exact (q,u,rfl,rfl,D)
   | succ i=>exact B t A i s e
 refine (AW h.ext S,h.sub,h.new,h.ls.same S,?_,λi s e=>?_,λi j l m n C _=>?_,λi l a e _=>?_)
 ·rw[Qi,Qi,Q1,Q1,Q1,RB,y]
 ·obtain ⟨p,v,rfl,g,d⟩:=b ps vs r i s e; exact (v,g,.val d)
 ·obtain ⟨p,v,z,_⟩:=b ps vs r i _ C; cases z
 ·obtain ⟨p,v,z,_⟩:=b ps vs r i _ e; cases z
inductive DP (l:List PV) (f:PV->AH->Prop) (Q:List PV->Prop):Prop
 |mk (r:List PV) (h:r.length=l.length) (hz:l.length<=1000) (hs:∀(i:Nat) p,l[i]?=some p->f p λv=>r[i]?=some v) (q:Q r):DP l f Q
section
variable{x y:Str}{pos p2 p3 apos:Pos}{a b e elt it tg:Expr}{es:List Expr}{ta tb te:ZE}{t ti:ZA}{scope:Scope}{caps:List (Nat×Str)}
theorem DP.mo{f g:PV->AH->Prop}{A B:List PV->Prop}(h:∀p (C:AH),f p C->g p C)(k:∀r,A r->B r)(c:DP l f A):DP l g B:=let ⟨r,h1,h2,h3,h4⟩:=c;(r,h1,h2,λi p e=>h _ _<|h3 i p e,k _ h4)
theorem SI{g:TG}{Q:VK}(s:SR Z B A O H σ ρ)(F:Ad H j)(wk:PY Z O j J l)(me:Mo te){f:PV->AH->Prop}
 (c:DP l f λr=>∀a us h,Ad H h->H a=none->h a=some (.lst us)->Af Z (hide (a::O) h) r us->Q (.ref a) h)
 (R:∀p v d C N,Ad j d->Rep Z (hide O d) p v->f p C->(∀q,C q->Up Z O d N q)->g v (CY n caps σ) d λo H3=>(∀(i:Nat) v,(CY n caps σ)[i]?=some (some v)->o[i]?=some (some v))/\E1 Z B A te o H3 N) :
 Jz n caps g (E1 Z B A te) σ J j λys d=>∀D,d D=none->Q (.ref D) (As d D<|.lst ys):=by
 obtain ⟨r,S,U,I,q⟩:=c;refine (λi m ys h=>m=l.length-i/\i<=l.length/\Ad j h/\Af Z (hide O h) (r.take i) ys,(_,rfl,Qe _,BI,.nil),?_);rintro i m ys h ⟨rfl,hi,k,u⟩;have ly:ys.length=i:=by rw[u.len,Qn]; omega
 have l1:=FX U;obtain ⟨w1,T⟩:=wk O h (Ct k) ((s.ls.same F).same k) i;refine (⋯,?_)
 by_cases e:i=l.length
 ·refine .inl (w1 e,nw (AW F k) q ?_)
  rw[e,<-S,Uk] at u; exact u
 ·have E:i<l.length:=⋯
  obtain ⟨L,yl⟩:=T l[i]<|Q6 E;refine .inr (L,⋯,λv z=>Ad j z/\Af Z (hide O z) (r.take<|i+1) (ys++[v]),λv z ⟨k1,k2⟩=>(l.length-(i+1),⋯,rfl,E,k1,k2),λx d M=>?_);obtain ⟨S2,r2⟩:=yl x d M;refine R _ x d _ _ (AW k S2) r2 (I i _<|Q6 E) λq W v z G Y=>(AW k<|AW S2 G,?_);rw[Ul,W];exact (u.h<|AW S2 G).append<|.cons Y .nil
abbrev J0(caps:List (Nat×Str))(ti:ZA)(te:ZE):ZA:=λc Q=>ti c λl=>DP l (λp=>te (some (.val p)::cap caps c)) Q
theorem Xe(o:Mo ti)(j:Mo te)(σ:L2.St)(H:Hp)(Q:VK)(h:Jt Z c d (J0 caps ti te) σ H Q):Jk 1 caps (Jx Z c d ti) (DK 0) (E1 Z c d te) σ H Q:=by
 obtain ⟨O,i,s,q⟩:=h;refine (O,i,s,o i _ _ (λl k J z g n=>SI s g n j k λp v u C N S2 r f m=>?_) q);exact (Ke,O,_,s.cap (AW g S2) caps (vs:=[v]) (ps:=[p])<|.cons r .nil,j _ _ _ m f)
theorem Gh(x:Str)(caps:List (Nat×Str))(p:QI Z X (.Name x p2) it ti)(u:∀g d c C,QE Z (A9 X scope (x::caps.map (·.2)) d c C g) elt te)(n:AV X scope caps:=by repeat (first | exact trivial | refine And.intro (rfl,rfl,by first | exact .inl rfl | exact .inr rfl) ?_))(E:X.calm=true:=by rfl)
 (o:(x::caps.map (·.2)).Nodup:=by decide +kernel)
 (r:(scope.names.all λy=>!(y.2==NameKind.free)||(X.env.cells.lookup y.1).isSome)=true:=by rfl)
 (m:scope.kind = .function:=by rfl) (j:∀y∈scope.names,y.2 ≠ .cell:=by decide +kernel)
 (h:∀y∈scope.names,y.2 = .local->scope.names.lookup y.1=some .local:=by decide +kernel) (F:∀x,foldedSetIterable it X.env x=pure x:=by intro _; rfl)
 (D:∀g d c C,Loc (A9 X scope (x::caps.map (·.2)) d c C g).env.scope x/\(A9 X scope (x::caps.map (·.2)) d c C g).env.scope.names.lookup x=some .local:=by exact λ_ _ _ _=>(.inl rfl,rfl)) :
 QL Z X (.ListComp elt [(.Name x p2,it,[],0)] scope pos) (J0 caps ti te):=by
 have H:=(u [] X.s₀ X.H₀ 0).mo;exact (λG A B f q=>p.mo G _ _ (λl k=>k.mo (λ_ _ z=>z) f) q,λs v=>BZ (KO [x] caps E (p.ok s v) (λg d c C=>CA (i:=0) o rfl (D g d c C).1<|.inr (D g d c C).2) (λg d c C=>(u g d c C).ok s v) n r m j h F)<|Xe p.mo H)
theorem Yj(i:Nat)(x:Str)(caps:List (Nat×Str)){j L:Pos}(Q:X.N.Nodup)(u:QI Z X (.Name x p2) it ti)(F:∀h c d C,QE Z (A9 X scope (x::caps.map (·.2)) c d C h) elt te)(hy:X.N[i]?=some y:=by rfl)(A:X.env.scope.names.lookup y=some .local:=by rfl)(p:AV X scope caps:=by repeat (first | exact trivial | refine And.intro (rfl,rfl,by first | exact .inl rfl | exact .inr rfl) ?_))(T:X.calm=true:=by rfl)
 (v:(x::caps.map (·.2)).Nodup:=by decide +kernel)
 (E:(scope.names.all λy=>!(y.2==NameKind.free)||(X.env.cells.lookup y.1).isSome)=true:=by rfl)
 (B:swapsWith (.ListComp elt [(.Name x p2,it,[],0)] scope pos) (some<|.Name y L) j.line X.env=pure true:=by rfl)
 (o:scope.kind = .function:=by rfl) (m:∀y∈scope.names,y.2 ≠ .cell:=by decide +kernel)
 (f:∀y∈scope.names,y.2 = .local->scope.names.lookup y.1=some .local:=by decide +kernel) (M:∀x,foldedSetIterable it X.env x=pure x:=by intro _; rfl)
 (I:∀h c d C,Loc (A9 X scope (x::caps.map (·.2)) c d C h).env.scope x/\(A9 X scope (x::caps.map (·.2)) c d C h).env.scope.names.lookup x=some .local:=by exact λ_ _ _ _=>(.inl rfl,rfl)) :
 QS Z X (.Assign [.Name y L] (.ListComp elt [(.Name x p2,it,[],0)] scope pos) j) (JQ i<|J0 caps ti te):=by
 have me:=(F [] X.s₀ X.H₀ 0).mo;refine (λD D' r l q=>u.mo r _ _ (λR k=>k.mo (λ_ _ z=>z) λ_=>l.nx _) q,λJ G=>Du (KM [x] caps Q hy A T (u.ok J G) (λh c d C=>CA (i:=0) v rfl (I h c d C).1<|.inr (I h c d C).2) (λh c d C=>(F h c d C).ok J G) p E B o m f M) λD Y H ⟨O,r,s,q⟩=>Xe u.mo me Y H _ (O,r,s,u.mo r _ _ (λR k=>k.mo (λ_ _ z=>z) λl k a us H1 U n g W=>?_) q));obtain ⟨N,S⟩:=s.own U (i:=i) n g W;exact k _ _ H1 N S
def ID(c:Int)(n:Nat):List PV:=(List.range n).map λi:Nat => .int<|c-(i:Int)
theorem N9{lo:Int}:(ID lo n).length=n:=by unfold ID;rw[Q1,Qu]
theorem T6{lo:Int}{n i:Nat}{p:PV}(h:(ID lo n)[i]?=some p):i<n/\p = .int (lo-i):=by
 have l:i<n:=by have:=(Qr.mp h).1;rw[N9] at this;exact this
 unfold ID at h;rw[Q7,Ww l] at h;exact (l,(rA h).symm)
def EN:List PV->List PV->List PV
 |a::l,b::m => .tup [a,b]::EN l m
 |_,_=>[]
theorem II:∀(l m:List PV),(EN l m).length=min l.length m.length
 | [],[]=>rfl
 | [],_::_=>by simp[EN]
 |_::_,[]=>by simp[EN]
 |a::l,b::m=>by simp only[EN,Ws,II l m];omega
theorem Oj:∀ {l m:List PV} {i:Nat} {p:PV},(EN l m)[i]?=some p->∃a b,l[i]?=some a/\m[i]?=some b/\p = .tup [a,b]
 | [],[],i,p,h=>by simp[EN] at h
 | [],_::_,i,p,h=>by simp[EN] at h
 |_::_,[],i,p,h=>by simp[EN] at h
 |a::l,b::m,0,p,h=>by simp only[EN] at h;cases h;exact (a,b,rfl,rfl,rfl)
 |a::l,b::m,i+1,p,h=>by simp only[EN] at h;exact Oj (l:=l) (m:=m) (i:=i) h
abbrev Yn(ta tb:ZE):ZA:=λc Q=>ta c λp=>tb c λq=>zL p λl=>zL q λm=>Q<|EN l m
theorem RH{o:List Expr}{k0}{j p:Pos}(hm:X.mg "zip"=none) (D:QE Z X a ta) (G:QE Z X b tb) (hg:Gl X "zip":= by rfl) (J:starEach [a,b] X.env=[(false,eval a X.env),(false,eval b X.env)]:=by rfl) (h:starEach [b] X.env=[(false,eval b X.env)]:=by rfl):QI Z X (.Tuple o k0 j) (.Call (.Name "zip" p) [a,b] [] pos) (Yn ta tb) :=
 (λg _ _ f q=>D.mo g _ _ (λ_ k=>G.mo g _ _ (λ_ k=>GC (λ_ k=>GC (λ_ k=>f _ k) k) k) k) q,λQ L=>Ho (QP hg hm (Ag (D.ok Q L) (Ag (G.ok Q L) An h) (by rw[J,h])) J h) λσ H R ⟨O,g,s,q⟩=>(O,g,s,D.mo g _ _ (λp k v H1 U r1=>(O,g,s.same U,G.mo g _ _ (λp' k v' H2 S2 r2=>by
  obtain ⟨l,rfl,k2⟩:=Gp k;obtain ⟨m,rfl,k3⟩:=Gp k2;obtain ⟨c,A,rfl,hc,r⟩:=Db r1;obtain ⟨d,C,rfl,N,W⟩:=Db r2;have n:=Ct S2 _ _ hc;refine (c,d,rfl,(A,.of<|hide_le _ _ n),(C,.of<|hide_le _ _ N),k3 _ H2 (AW U S2) λO3 H3 B L3 i=>?_);have E:=hide_le _ _<|B _ _ n;have I:=hide_le _ _<|B _ _ N;have lr:=r.len;have a0:=W.len;refine (λe=>(A,C,.of E,.of I,by rw[II] at e;omega),λp hp=>?_);obtain ⟨x,y,hx,hy,rfl⟩:=Oj hp;obtain ⟨u,hu,ru⟩:=r.get hx;obtain ⟨v,Y,rv⟩:=W.get hy;refine ((A,C,u,v,.of E,.of I,hu,Y),λz H4 ⟨T,S,ez,x',y',ex,ey,eH⟩=>?_);have e1:=ex A<|.of E;have M:=ey C<|.of I;rw[hu] at e1;cases e1;rw[Y] at M;cases M;subst ez eH;have F:=Bg S<|HO.tup [u,v];exact (F,Pf (by rw[hide_out<|L3.new S];exact A4)<|.cons (((ru.h S2).same B).h F)<|.cons ((rv.same B).h F) .nil)) k)) q))
abbrev gT(i j:Nat):ZG:=λp c k=>match p with
 | .tup [a,b]=>k<|A2 (A2 c i<|some<|.val a) j<|some<|.val b
 |_=>False
theorem WH(h:gT i j p ρ k):∃a b,p = .tup [a,b]/\k (A2 (A2 ρ i<|some<|.val a) j<|some<|.val b):=by
 unfold gT at h
 split at h
 ·exact (_,_,rfl,h)
 ·exact h.elim
theorem kI(i j:Nat){k:Nat}(m:X.N.Nodup)(C:X.N[i]?=some x:=by rfl)(I:X.N[j]?=some y:=by rfl)(E:Loc X.env.scope x:=by first | exact .inl rfl | exact .inr rfl)(J:Loc X.env.scope y:=by first | exact .inl rfl | exact .inr rfl)(G:X.fn x=true\/X.env.scope.names.lookup x=some .local:=by first | exact .inl rfl | exact .inr rfl | assumption)(l:X.fn y=true\/X.env.scope.names.lookup y=some .local:=by first | exact .inl rfl | exact .inr rfl | assumption)(g:X.calm=true:=by rfl)
 (n:(assignEach [.Name x p2,.Name y p3] X.env).map (·.2)=assign (.Name x p2) X.env::(assignEach [.Name y p3] X.env).map (·.2):=by rfl) (h:(assignEach [.Name y p3] X.env).map (·.2)=assign (.Name y p3) X.env::(assignEach [] X.env).map (·.2):=by rfl)
 (D:(assignEach [.Name x p2,.Name y p3] X.env).length=2:=by rfl) (d:(assignEach [.Name x p2,.Name y p3] X.env).findIdx? (·.1)=none:=by rfl):QG Z X (.Tuple [.Name x p2,.Name y p3] k pos) (gT i j) :=
 (λp z A B f q=>by obtain ⟨a,b,rfl,k⟩:=WH q; exact f _ k,_,Ia g (E3 (CA m C E G) (E3 (CA m I J l) HN h) n) D d,λN M O H R z p v Q s r q=>by
  obtain ⟨a,b,rfl,k⟩:=WH q;obtain ⟨c,L,rfl,g,r⟩:=Iz r;obtain ⟨u,v,rfl,F,o⟩:=r.two;exact (c,[u,v],rfl,.of<|hide_le _ _ g,rfl,u,[v],rfl,v,[],rfl,rfl,k _<|(s.set F).set o))
abbrev IX(l:List PV)(f:Int->Int->Prop):Prop:=match l with
 | [.int i,.int j]=>f i j
 |_=>False
theorem Vj(h:IX l f):∃i j,l=[.int i,.int j]/\f i j:=by
 unfold IX at h
 split at h
 ·exact (_,_,rfl,h)
 ·exact h.elim
theorem RA{f:Int->Int->Int}:LC Z (λxs H Q=>∃i j,xs=[.int i,.int j]/\Q (.int<|f i j) H) (λl Q=>IX l λi j=>Q<|.int<|f i j) :=
 (λp A B g h=>by obtain ⟨i,j,rfl,k⟩:=Vj h;exact g _ k,λO H p x Q _ r h=>by
  obtain ⟨i,j,rfl,k⟩:=Vj h;obtain ⟨u,v,rfl,c,d⟩:=r.two;exact (i,j,by rw[A3 c,A3 d],k _ H BI rep_i))
theorem YR{p:Pos}(n:X.mg "max"=none) (h:QE Z X a ta) (m:QE Z X b tb) (k:Gl X "max":= by rfl) (g:X.calm=true:=by rfl) (f:starEach [a,b] X.env=(false,eval a X.env)::starEach [b] X.env:=by rfl) (d:starEach [b] X.env=[(false,eval b X.env)]:=by rfl) (c:(backTo pos<|starEach [b] X.env).any (·.1)=false:=by rfl):QE Z X (.Call (.Name "max" p) [a,b] [] pos) (GK (λl Q=>IX l λi j=>Q<|.int (if j>i then j else i))<|DG ta<|DG tb FK) :=
 Ix RA (pE g) k n PyProof.Rows.Boot.«max» (DR h (DR m EM d) f) ∅ ∅ f c
theorem bC{p:Pos}(n:X.mg "min"=none) (h:QE Z X a ta) (m:QE Z X b tb) (k:Gl X "min":= by rfl) (g:X.calm=true:=by rfl) (f:starEach [a,b] X.env=(false,eval a X.env)::starEach [b] X.env:=by rfl) (d:starEach [b] X.env=[(false,eval b X.env)]:=by rfl) (c:(backTo pos<|starEach [b] X.env).any (·.1)=false:=by rfl):QE Z X (.Call (.Name "min" p) [a,b] [] pos) (GK (λl Q=>IX l λi j=>Q<|.int (if j<i then j else i))<|DG ta<|DG tb FK) :=
 Ix RA (mP g) k n PyProof.Rows.Boot.«min» (DR h (DR m EM d) f) ∅ ∅ f c
end
end Lake.Zp
namespace Lake.My
open PySem L2 PyProof.Rows
end Lake.My
namespace Lake.L2
open PySem PySem.Spec PyProof.Rows
theorem RV{α c:Type}{f g:α->Option c}:∀ {l:List α},(∀a∈l,f a=g a)->l.filterMap f=l.filterMap g
 | [],_=>rfl
 |a::l,h=>by
  have d:=RV (l:=l) λb e=>h b<|Wg _ e;rw[rV,rV,h a Wc,d]
theorem cM(its:List Value):slicePick its.toArray none none (some<|-1)=its.reverse.toArray:=by
 have e:sliceBounds none none (some<|-1) its.toArray.size=((its.length:Int)-1,-1,-1):=by
  simp[sliceBounds]
 unfold slicePick;rw[e]
 congr 1
 show (sliceRange ((its.length:Int)-1) (-1)<|-1).filterMap _=_;have f:sliceRange ((its.length:Int)-1) (-1) (-1)=(List.range its.length).map λ(k:Nat)=>its.length-1-k:=by
  unfold sliceRange
  by_cases h:0<its.length
  ·have c:(((its.length:Int)-1 - -1 - -1-1)/(- -1))=(its.length:Int):=by
    rw[show (- -1:Int)=1 from rfl,Int.ediv_one]; omega
   simp only[show ¬((-1:Int)>0) by decide,s9,show (its.length:Int)-1 > -1 by omega,if_true,c,Ui]
   apply rN
   intro k a;have:=Wq.mp a;omega
  ·have z:its.length=0:=⋯
   rw[z]
   rfl
 rw[f];have b:=pick_run its.reverse.toArray 0 its.length;rw[List.drop_zero,Ux (by simp)] at b;have d:its.reverse.toArray.toList=its.reverse:=rfl;rw[d] at b;rw[<-b,List.filterMap_map,List.filterMap_map];refine RV ?_;intro k a;have a:=Wq.mp a;show its.toArray[its.length-1-k]?=its.reverse.toArray[0+k]?;rw[Nat.zero_add,sW,sW,rK a]
section
variable{X:Cx}{e st:Expr}{te ts:TE}{pos p2:Pos}
theorem VF{xs:List V}:∀ {us:List Value},Al xs us->Al xs.reverse us.reverse:=by
 induction xs with
 |nil=>intro us r;cases r;exact .nil
 |cons x xs a =>
  intro us r
  cases r with
  |cons b c =>
   rw[List.reverse_cons,List.reverse_cons];exact (a c).append<|.cons b .nil
def nK(K:Ac)(te ts:TE):TE:=λc H Q=>te c H λx f=>ts c f λy b=>y = .int (-1)/\∃a d,x = .ref a/\AR K b a d/\∀p,b p=none->Q (.ref p) (As b p<|.lst d.reverse)
theorem qD(p:PE X e te)(k:PE X st ts):PE X (.Subscript e (.Slice none none (some st) p2) pos) (nK X.K te ts):=by
 intro c s g H Q I h;refine Subscript_<|Ax (p c s g H _ I h) λv C ⟨x,G,J,n,w⟩=>?_;refine wpAny_Slice ?_;rw[evalPart_none];refine qS<|qS ?_;rw[evalPart_some];refine Ax (k c C g G _ J w) λK d ⟨y,l,u,B,A⟩=>?_;obtain ⟨rfl,a,E,rfl,D,q⟩:=A;obtain ⟨t,rfl⟩:=B
 cases n
 have f:Inv X c g l { d with heap:=d.heap.push { cls:=.type "slice", data:=.fields #[.none,.none,.int (-1) t] } }:=u.kept (t':=d.toks) λb m q=>qJ _ q;obtain ⟨z,r,j,F⟩:=f.list D;have i:=r.length;refine tail_any (ops:=[.ref a,.ref d.heap.objs.size]) j.isList.typeIs slot_list_getitem.lookup ?_ (by with_unfolding_all rfl);refine wpAny_getItem_list_slice j.isList (Heap.IsSliceOf.new ..) .none .none (.int (-1) t) (by simp) ?_ (by rw[Qh];omega);rw[cM];refine (.ref _,_,f.laid (t':=d.toks) (o:=.lst E.reverse) (λb m q=>qJ _ q) (Q4 _) ?_,rfl,q _<|f.hok.fresh<|Q4 _);exact (by rw[We];exact F,_,0,VF r,qO _ rfl)
end
def Ot(b:Int)(n:Nat):It:=(λi _=>i<n,λi H x a=>a=H/\x = .int (b-i),λi _=>n<=i)
theorem o9{K:Ac}(it:Addr)(lo:Int)(n:Nat):DB P w K J (Ot lo n) [it] it (λi h=>IsRangeIter h it (lo+(i:Nat)*(-1)) ((n:Int)-(i:Nat))<|-1) where
 mem:=by simp
 obj:=λi h a b d=>by
  have e:b=it:=by simpa using d
  subst e;exact (_,a,λv z=>by
   have L:=z
   cases L)
 keep:=λi h g a k=>k it (by simp) _ a
 item:=by
  intro X r u y A i c s C H E I j a m;subst r u y;obtain ⟨x,p,N,l,q,B⟩:=j it (by simp);have W:=Walks.range (prog:=X.prog) (w:=X.w) (I.ok.hd A) it lo (-1) n;refine W.item i s _ _ m a λv g D M f G=>?_;obtain ⟨t,rfl⟩:=M;have O:Inv X c C H { s with heap:=g,toks:=D }:=I.turned (λb o d e=>G b o (by simpa using d) e) x p l q B;refine (_,rfl,Ja (s:={ s with heap:=g,toks:=D }) (n :="range_iterator") f rfl rfl ∅ (.int<|lo-i,H,O,(t,?_),(rfl,rfl),f,λb d=>(j b d).1))
  congr 1
  omega
 done:=by
  intro X r u y A i c s C H E I j a m;subst r u y;obtain ⟨x,p,N,l,q,B⟩:=j it (by simp);exact wpAny_pyNext_range_end (I.ok.hd A) a (by have:n<=i:=m;omega) λg F=>(rfl,I.turned (t':=s.toks) (λb o d e=>F b o d e) x p l q B)
 self:=λ_ _ _ _ _ a h=>wpAny_pyIter_rangeiter a h
section
variable{X:Cx}{tg:Expr}
theorem Vv(a b:Int):Builtin.Range.rangeSize a b (-1)=((a-b).toNat:Int):=by
 unfold Builtin.Range.rangeSize
 simp only[show ¬((-1:Int)>0) by decide,s9,show (-(-1):Int)=1 from rfl,Int.ediv_one]
 split <;> omega
theorem nQ{a b:Int}(e:-(2^62)<=a)(c:a<2^62)(f:-(2^62)<=b)(d:b<2^62):Builtin.Range.small a b (-1)=true:=by
 unfold Builtin.Range.small;rw[Vv]
 simp only[Builtin.Range.rangeFitsLong,sN,Bool.or_eq_true,decide_eq_true_eq,sV,show ¬((-1:Int)>0) by decide,s9]
 omega
theorem dY{s:Shared}{R:It->Hp->Prop}{lo c:Int}{t u v:Tok}{d:Nat}(I:Inv X a σ H s)(j:-(2^62)<=lo)(m:lo<2^62)(i:-(2^62)<=c)(g:c<2^62)
 (q:R (Ot lo (lo-c).toNat) H):wpAny (model X.prog X.w) X.A (pyIter<|.ref s.heap.objs.size) (MT X a σ tg R) E { s with heap:=s.heap.push { cls:=.type "range", data:=.fields #[.int lo t,.int c u,.int (-1) v] },toks:=d }:=by
 refine wpAny_pyIter_range (IsRange.new ..) (nQ j m i g) ?_;have f:Inv X a σ H { s with heap:=s.heap.push { cls:=.type "range", data:=.fields #[.int lo t,.int c u,.int (-1) v] },toks:=d }:=I.kept λb o e=>qJ _ e;refine ((s.heap.push { cls:=.type "range", data:=.fields #[.int lo t,.int c u,.int (-1) v] }).objs.size,[(s.heap.push { cls:=.type "range", data:=.fields #[.int lo t,.int c u,.int (-1) v] }).objs.size],_,_,H,rfl,
  f.kept (t':=d) λb o e=>qJ _ e,o9 _ lo (lo-c).toNat,?_,λb l=>?_,q)
 ·have k:lo+((0:Nat):Int)*(-1)=lo:=by simp
  have h:(((lo-c).toNat:Nat):Int)-((0:Nat):Int)=Builtin.Range.rangeSize lo c (-1):=by rw[Vv]; omega
  rw[k,h];exact qO _ rfl
 ·have e:b=(s.heap.push { cls:=.type "range", data:=.fields #[.int lo t,.int c u,.int (-1) v] }).objs.size:=by simpa using l
  subst e;exact f.fpOk (Q4 _)<|f.hok.fresh<|Q4 _
inductive T9 (vs:List V) (H1:Hp) (R:It->Hp->Prop):Prop
 |mk (i j:Int) (_:vs=[.int i,.int j,.int (-1)]) (_:-(2^62)<=i/\i<2^62 /\ -(2^62)<=j/\j<2^62) (_:R (Ot i (i-j).toNat) H1):T9 vs H1 R
def n6(b:TA):TI:=λa H R=>b a H λc d=>T9 c d R
theorem hU{a b c:Expr}{p pos:Pos}(v:Gl X "range") (x:X.mg "range" = none) (n:PA X [a,b,c] m) (o:starEach [a,b,c] X.env=[(false,eval a X.env),(false,eval b X.env),(false,eval c X.env)]:=by rfl) (g:starEach [b,c] X.env=[(false,eval b X.env),(false,eval c X.env)]:=by rfl) :
 PI X tg (.Call (.Name "range" p) [a,b,c] [] pos) (n6 m):=by
 intro d s A H R I h;refine Call_<|EH I v x boot_range<|qV (Ax (n pos d s A H _ I h) λE J ⟨F,K,D,y,l⟩=>?_) (by rw[o,g]) (by rw[g]; rfl);obtain ⟨i,j,e,⟨l,w,B,u⟩,q⟩:=l;subst e
 cases y with
 | cons r f =>
  cases f with
  | cons z f =>
   cases f with
   | cons k f =>
    cases f
    obtain ⟨t,rfl⟩:=r;obtain ⟨G,rfl⟩:=z;obtain ⟨C,rfl⟩:=k;exact call_range_3 ∅ (dY D l w B u q)<|Or.inl<|rQ ‹4›
end
theorem YJ:typeLookup (.type "list_reverseiterator") "__len__"=pure none:=by rw[typeLookup_type,builtinLookup_eq_fast];kernel_rfl
theorem iL:typeLookup (.type "list_reverseiterator") "__length_hint__"=pure (some<|.builtin "list_reverseiterator.__length_hint__"):=by rw[typeLookup_type,builtinLookup_eq_fast];kernel_rfl
section
variable{prog:Program}{w:World}{A:Around}{s:Shared}{R:Result->Shared->Prop}
theorem XN{I l:Addr}{items:Array Value}(M:A.handled=none)(q:l≠I)(S:Addr)(g:Value)(d:Nat)(j:s.heap.IsRevIter I l ((items.size:Int)-1))(C:s.heap.IsList l items)(n:S≠I)(y:S≠l)(J:items.size<=sizeLine)
 (K:s.heap.get? S=some { cls:=.type "list", data:=.seq #[] d })
 (H:∀h' D c k,(∀b o,b≠S->b≠I->s.heap.get? b=some o->h'.get? b=some o)->h'.get? S=some { cls:=.type "list", dict:=none,data:=.seq c k,slots:=#[] }->ItemsOf (λi v=>items[items.size-1-i]?=some v) c items.size->R (.ok<|.ret g) { s with heap:=h',toks:=D }) :
 wpAny (model prog w) A.in1 (Builtin.List.listExtendWith (.ref S) (.ref I) g)
  (λr h=>match r with | .done f=>R (.ok f) h | .again k=>k.quiet=true/\codeAny (model prog w) A k R h) (λe h=>R (.error e) h) s:=by
 have W:=(Walks.listRev (prog:=prog) (w:=w) (A:=A.in1) M I l q items).toS;unfold Builtin.List.listExtendWith;refine qM<|wpAny_typeOf j.typeIs ?_;have E:Builtin.List.listSameRef (.ref S) (.ref I)=false:=by simp[Builtin.List.listSameRef,n]
 have B:(Value.type "list_reverseiterator" == Value.type "list")=false:=∅;have L:(Value.type "list_reverseiterator" == Value.type "tuple")=false:=∅
 simp only[E,B,L,Bool.or_false,r9,s9]
 refine qM<|wpAny_pyIter_revIter j ?_;refine qM<|rY ?_;unfold Builtin.List.listLengthHint;refine qM<|wpAny_specialOf j.typeIs YJ ?_;show wpAny _ A.in1 (specialOf (Value.ref I) (Str.ofString "__length_hint__") >>= _) _ _ _;refine qM<|wpAny_specialOf j.typeIs iL ?_;generalize hid:("list_reverseiterator.__length_hint__" : String)=t
 wp_delta
 rw[show splitId t=some ("list_reverseiterator", "__length_hint__") from by subst hid; decide +kernel];subst hid;refine qM<|wpAny_isInstance (T := "list_reverseiterator") (b:=true) j.typeIs (by rw[isSubtype_type]; kernel_rfl) ?_;refine wpAny_ite_split (λa=>absurd a ∅)<|λ_=>?_;refine wpAny_ite_split (λ_=>?_)<|λa=>absurd ‹4› a;refine wpAny_ite_split (λa=>absurd a ‹4›)<|λ_=>?_;refine qS ?_;have u:(0:Nat)<=items.size/\s.heap.IsRevIter I l ((items.size:Int)-1-((0:Nat):Int))/\s.heap.IsList l items:=(Qe _,by simpa using j,C);refine wpAny_ite_split (λa=>absurd a ‹4›)<|λ_=>qS (plainId_quiet F.plain_extend_loop _,?_);refine codeAny_extend_loopS W J S ?_ g items.size 0 s #[] d rfl (Qe _) u K (ItemsOf.nil _) λh c k p x m=>?_
 ·intro p
  rcases Qd.mp p with e | e
  ·exact n e
  ·exact y (Qf.mp e)
 rw[Moved.eq_with p];refine H h.heap h.toks c k (λb o G z e=>p.heap b o (λhmem=>?_) e) x m;rcases Qd.mp hmem with e' | hmem
 ·exact G e'
 ·exact z (Qf.mp hmem)
theorem lS{I l:Addr}{items:Array Value}(E:A.handled=none)(p:l≠I)(S:Addr)(z:s.heap.IsRevIter I l ((items.size:Int)-1))(D:s.heap.IsList l items)(k:S≠I)(h:S≠l)(B:items.size<=sizeLine)
 (t:s.heap.get? S=some { cls:=.type "list", data:=.seq #[] })
 (y:∀h' r a g,(∀b o,b≠S->b≠I->s.heap.get? b=some o->h'.get? b=some o)->h'.get? S=some { cls:=.type "list", dict:=none,data:=.seq a g,slots:=#[] }->ItemsOf (λi v=>items[items.size-1-i]?=some v) a items.size->R (.ok<|.ret .none) { s with heap:=h',toks:=r }) :
 wpAny (model prog w) A.in1 (Builtin.«list.__init__» ([.ref S,.ref I],[]))
  (λq n=>match q with | .done f=>R (.ok f) n | .again g=>g.quiet=true/\codeAny (model prog w) A g R n) (λe n=>R (.error e) n) s:=by
 show wpAny _ _ (do let old ← Builtin.List.listItems (.ref S); Builtin.List.listUpdate (.ref S) (λ_=>#[]); letGo old.toList.reverse; Builtin.List.listExtendWith (.ref S) (.ref I) .none) _ _ s;refine qM ?_;unfold Builtin.List.listItems;refine qM<|wpAny_seqItems t rfl<|qS ?_;refine qM<|wpAny_updateSeq t rfl ?_;have d:=Heap.get?_update_self (Obj.mapSeq<|λ_=>(#[]:Array Value)) t rfl;have c:∀b o,b≠S->s.heap.get? b=some o->(s.heap.update S<|Obj.mapSeq<|λ_=>(#[]:Array Value)).get? b=some o :=
  λb o m e=>(q9 _ _<|rC m).trans e
 refine qM<|wpAny_letGo ?_;refine XN E p S .none _ (z.at λo e=>c I o (rC k) e) (D.at λo e=>c l o (rC h) e) k h B d λh' r a g C x j=>?_;exact y h' r a g (λb o m u e=>C b o m u<|c b o m e) x j
end
section
variable{prog:Program}{w:World}{A:Around}{E:Value->Shared->Prop}{s:Shared}
theorem bS{Q:Value->Shared->Prop}{I l:Addr}{items:Array Value}(B:A.handled=none)(h:l≠I)(q:s.heap.IsRevIter I l ((items.size:Int)-1))(r:s.heap.IsList l items)(u:items.size<=sizeLine)
 (z:∀h' k a m,(∀b o,b≠I->s.heap.get? b=some o->h'.get? b=some o) →
  h'.get? s.heap.objs.size=some { cls:=.type "list", dict:=none,data:=.seq a m,slots:=#[] }->ItemsOf (λi v=>items[items.size-1-i]?=some v) a items.size->Q (.ref s.heap.objs.size) { s with heap:=h',toks:=k }) :
 wpAny (model prog w) A (call (.type "list") [.ref I]) Q E s:=by
 refine callType_codes (Q₁:=λg c=>g = .ref s.heap.objs.size/\c={ s with heap:=s.heap.push { cls:=.type "list", data:=.seq #[] } }) F.called_list (F.typeCall_list_1 _) F.entry_list_init
  (code_list_new _ (rfl,rfl)) λg c f=>?_
 obtain ⟨rfl,rfl⟩:=f;have t:(s.heap.push { cls:=.type "list", data:=.seq #[] }).get? s.heap.objs.size=some { cls:=.type "list", data:=.seq #[] }:=qO _ rfl;obtain ⟨C,n,_⟩:=id q;obtain ⟨D,j,_⟩:=id r;refine ((_,t,rfl),F.args_list_init_2 _ _,lS (A:=A.in1) B h _ (q.at λo e=>qJ _ e) (r.at λo e=>qJ _ e) (rC<|Qb<|qN n) (rC<|Qb<|qN j) u t λh' k a m y p d=>?_);exact (rfl,z h' k a m (λb o x e=>y b o (Qb<|qN e) x<|qJ _ e) p d)
end
section
variable{X:Cx}{e1:Expr}{ta:TA}{p p2 pos pos2:Pos}
inductive Rm (K:Ac) (vs:List V) (H1:Hp) (Q:VK):Prop
 |mk (a:Addr) (xs:List V) (_:vs=[.ref a]) (_:AR K H1 a xs) (_:∀p,H1 p=none->Q (.ref p) (As H1 p (.lst xs.reverse))):Rm K vs H1 Q
def mJ(K:Ac)(ta:TA):TE:=λa H Q=>ta a H λb c=>Rm K b c Q
theorem Xu{its:List Value}(h:ItemsOf (λi v=>its.toArray[its.toArray.size-1-i]?=some v) a its.toArray.size):a=its.reverse.toArray:=by
 obtain ⟨g,d⟩:=h;have j:its.toArray.size=its.length:=Qh;have f:its.reverse.toArray.size=its.length:=Qh.trans We;refine Array.ext ⋯ λi c b=>?_;have:=d i a[i]<|Array.getElem?_eq_getElem c;have e:its.reverse.toArray[i]?=some a[i]:=by
  rw[sW,rK ⋯,<-sW,<-this,Qh]
 rw[Array.getElem?_eq_getElem b] at e;exact (rA e).symm
theorem fV(r:Gl X "list") (t:X.mg "list" = none) (B:Gl X "reversed") (E:X.mg "reversed" = none) (g:X.calm=true) (z:PA X [e1] ta) (A:starEach [e1] X.env=[(false,eval e1 X.env)]:=by rfl) (j:starEach [.Call (.Name "reversed" p) [e1] [] pos] X.env=[(false,eval (.Call (.Name "reversed" p) [e1] [] pos) X.env)]:=by rfl) :
 PE X (.Call (.Name "list" p2) [.Call (.Name "reversed" p) [e1] [] pos] [] pos2) (mJ X.K ta):=by
 intro d s y H Q I h;refine q8<|EH I r t boot_list ?_;refine qV ?_ (by rw[j]; rfl) (by rfl);rw[j];refine Calls.spliced_cons ?_;refine q8<|EH I B E PyProof.Rows.Boot.«reversed»<|qV (Ax (z pos d s y H _ I h) λT f ⟨Z,S,k,J,L⟩=>?_) (by rw[A]; rfl) (by rfl);obtain ⟨a,Y,e,C,q⟩:=L;subst e;obtain ⟨u,rfl,K⟩:=Fw J
 cases (show u=Value.ref a from K)
 obtain ⟨c,v,l,F⟩:=k.list C;have hl:=v.length;obtain ⟨U,n,_⟩:=id l.isList;refine call_reversed_list l.isList ?_;refine Calls.spliced_nil ?_;have M:({ f with heap:=f.heap.push (revObj a<|(c.toArray.size:Int)-1) }:Shared).heap.IsRevIter f.heap.objs.size a ((c.toArray.size:Int)-1):=(_,qO _ rfl,rfl,rfl);have W:Inv X d y S { f with heap:=f.heap.push (revObj a<|(c.toArray.size:Int)-1) }:=k.kept (t':=f.toks) λb o e=>qJ _ e;refine bS (k.ok.hd g) (Qb<|qN n) M (l.isList.at λo e=>qJ _ e) (by rw[Qh]; omega) λh' N w O P m i=>?_;have R:=Xu i;subst R;have G:=λb D e=>P b D (Qb<|qN e)<|qJ _ e;have x:f.heap.objs.size<=(f.heap.push<|revObj a<|(c.toArray.size:Int)-1).objs.size:=by rw[sO]; omega
 refine (.ref _,_,k.laid (t':=N) (h':=h') G x ?_,rfl,q _<|k.hok.fresh x);exact (by rw[We]; exact F,_,O,VF v,m)
end
end Lake.L2
namespace Lake.My
open PySem L2 PyProof.Rows
section
variable{κ:KX}
def QN(κ:KX)(D:Int)(M:Nat)(x:κ.F):Prop:=match κ with
 | .q=>∃X:Int,x=Rat.divInt X D/\X.natAbs<=M
 | .r _ _=>True
theorem QN.mono{M N:Nat}{x:κ.F}(h:QN κ D M x)(l:M<=N):QN κ D N x:=by
 cases κ with
 |r p b=>exact trivial
 |q=>obtain ⟨X,e,a⟩:=h;exact (X,e,Q0 a l)
theorem QN.mul{x y:κ.F}(h:QN κ D M x)(g:QN κ E N y):QN κ (D*E) (M*N) (x*y):=by
 cases κ with
 |r p c=>exact trivial
 |q =>
  obtain ⟨X,rfl,b⟩:=h;obtain ⟨Y,rfl,a⟩:=g;exact (X*Y,rL _ _,by rw[Qj];exact Qk b a)
theorem QN.add{D:Int}(a:0<D){M N:Nat}{x y:κ.F}(h:QN κ D M x)(g:QN κ D N y):QN κ D (M+N) (x+y):=by
 cases κ with
 |r p d=>exact trivial
 |q =>
  obtain ⟨X,rfl,c⟩:=h;obtain ⟨Y,rfl,b⟩:=g;refine (X+Y,?_,Q0 (Int.natAbs_add_le X Y)<|Nat.add_le_add c b);rw[sX _ _ ⋯ ⋯,Wl (Int.ne_of_gt<|Wk a a) ⋯,<-Int.add_mul,Qy]
theorem QN.zero:QN κ D M 0:=by
 cases κ with
 |r p a=>exact trivial
 |q=>exact (0,(Rat.zero_divInt D).symm,Qe _)
theorem QN.b1{D:Int}(a:0<D)(c:D.natAbs<2^8900){M:Nat}(d:M<2^30000){x:κ.F}(h:QN κ D M x):B1 κ x:=by
 cases κ with
 |r p g=>exact trivial
 |q =>
  obtain ⟨X,rfl,e⟩:=h;obtain ⟨f,b⟩:=FZ X a;refine (?_,?_)
  ·exact Lu b ((Ak.of (n:=30000)<|Q5 e d).up ∅) (Lk X a)
  ·exact Lu f ((Ak.of (n:=8900) c).up ∅) (λz=>⋯)
theorem Bc{κ:KX}:QN κ 1 1 1:=by
 cases κ with
 |r p a=>exact trivial
 |q=>exact (1,rfl,Q4 _)
theorem V7{t b:Int}(c:1<=b)(h:b<=4)(a:t.natAbs<=9):QN .q 12 108 (Rat.divInt t b):=by
 rcases (by omega:b=1\/b=2\/b=3\/b=4) with rfl|rfl|rfl|rfl
 ·exact (t*12,by rw[Wl ∅ ∅];omega,⋯)
 ·exact (t*6,by rw[Wl ∅ ∅];omega,⋯)
 ·exact (t*4,by rw[Wl ∅ ∅];omega,⋯)
 ·exact (t*3,by rw[Wl ∅ ∅];omega,⋯)
noncomputable def pI(F G:Ab κ)(i:Nat):Nat->Nat->κ.F
 |0,_=>0
 |j+1,k=>pI F G i j k+(if i+j=k then F.getD i 0*G.getD j 0 else 0)
noncomputable def pO(F G:Ab κ):Nat->Nat->κ.F
 |0,_=>0
 |i+1,k=>pO F G i k+pI F G i G.length k
noncomputable def CM(F G:Ab κ)(i j:Nat):Ab κ:=(List.range<|F.length+G.length).map λk=>pO F G i k+pI F G i j k
theorem FJ(F G:Ab κ)(i j:Nat):(CM F G i j).length=F.length+G.length:=by unfold CM;simp
theorem RN{F G:Ab κ}{i j k:Nat}(h:k<F.length+G.length):(CM F G i j).getD k 0=pO F G i k+pI F G i j k:=by
 unfold CM;rw[Q3,Q7,Ww h];rfl
theorem N7{F G:Ab κ}{i j k:Nat}(h:k<(CM F G i j).length):(CM F G i j)[k]=pO F G i k+pI F G i j k:=by simp[CM]
theorem Dk{κ:KX}:(0:κ.F)+0=0:=by grind
theorem gW(F G:Ab κ):CM F G 0 0=List.replicate (F.length+G.length) 0:=by
 apply List.ext_getElem (by rw[FJ,Wv])
 intro k b a;rw[N7,List.getElem_replicate];exact Dk
theorem hY(F G:Ab κ)(i:Nat):CM F G i G.length=CM F G (i+1) 0:=by
 unfold CM
 congr 1
 funext k
 show pO F G i k+pI F G i G.length k=(pO F G i k+pI F G i G.length k)+0;grind
theorem cI{F G:Ab κ}{i j:Nat}(d:i<F.length)(a:j<G.length):CM F G i (j+1)=(CM F G i j).set (i+j) ((CM F G i j).getD (i+j) 0+F.getD i 0*G.getD j 0):=by
 rw[RN ⋯]
 apply List.ext_getElem (by rw[U7,FJ,FJ])
 intro k b c;rw[List.getElem_set,N7,N7];show pO F G i k+(pI F G i j k+(if i+j=k then F.getD i 0*G.getD j 0 else 0))=_
 by_cases e:i+j=k
 ·subst e;rw[qK rfl,qK rfl];grind
 ·rw[qI e,qI e];grind
theorem MP{F G:Ab κ}{D E:Int}(c:0<D*E)(f:∀x∈F,QN κ D M x)(g:∀x∈G,QN κ E N x)(i:Nat)(d:i<F.length):∀(j k:Nat),j<=G.length->QN κ (D*E) (j*(M*N)) (pI F G i j k)
 |0,k,_=>QN.zero
 |j+1,k,h=>by
  have l:=MP c f g i d j k ⋯;have e:(j+1)*(M*N)=j*(M*N)+M*N:=Nat.succ_mul _ _;rw[e];refine QN.add c l ?_
  split
  ·have a:F.getD i 0∈F:=by rw[Q3,Q6 d];exact W7 d
   have b:G.getD j 0∈G:=by rw[Q3,Q6 (show j<G.length by omega)];exact W7 _
   exact QN.mul (f _ a)<|g _ b
  ·exact QN.zero
theorem NH{F G:Ab κ}{D E:Int}(a:0<D*E)(b:∀x∈F,QN κ D M x)(c:∀x∈G,QN κ E N x):∀(i k:Nat),i<=F.length->QN κ (D*E) (i*(G.length*(M*N))) (pO F G i k)
 |0,k,_=>QN.zero
 |i+1,k,h=>by
  have e:(i+1)*(G.length*(M*N))=i*(G.length*(M*N))+G.length*(M*N):=Nat.succ_mul _ _;rw[e];exact QN.add a (NH a b c i k ⋯)<|MP a b c i ⋯ _ k<|Q4 _
theorem oU{F G:Ab κ}{D E:Int}(c:0<D*E)(d:∀x∈F,QN κ D M x)(h:∀x∈G,QN κ E N x){i j:Nat}(e:i<F.length)(f:j<=G.length):∀x∈CM F G i j,QN κ (D*E) (F.length*(G.length*(M*N))) x:=λx g=>by
 unfold CM at g;obtain ⟨k,_,rfl⟩:=s8.mp g;refine (QN.add c (NH c d h i k ⋯)<|MP c d h i e j k f).mono ?_;have a:j*(M*N)<=G.length*(M*N):=W2 _ f;have b:(i+1)*(G.length*(M*N))<=F.length*(G.length*(M*N)):=W2 _ e;rw[Nat.succ_mul] at b;omega
theorem R5{F G:Ab κ}{i k:Nat}:∀ {j:Nat},i+j<=k->pI F G i j k=0
 |0,_=>rfl
 |j+1,h=>by
  show pI F G i j k+(if i+j=k then F.getD i 0*G.getD j 0 else 0)=0;rw[R5 ⋯,qI ⋯];exact Dk
theorem RP{F G:Ab κ}{k:Nat}:∀ {i:Nat},i+G.length<=k+1->pO F G i k=0
 |0,_=>rfl
 |i+1,h=>by
  show pO F G i k+pI F G i G.length k=0;rw[RP ⋯,R5 ⋯];exact Dk
theorem Rq{F G:Ab κ}{k:Nat}(h:F.length+G.length<=k+1):pO F G F.length k=0:=RP h
def KD(F:Ab κ):Prop:=1<=F.length/\F.getD (F.length-1) 0=1
end
theorem HA{p:Int}(h:p=2\/p=3\/p=5\/p=7\/p=11\/p=97):M2.Prm p:=by
 refine (⋯,λd b g c=>?_);have i:d<10:=by
  refine Int.lt_of_not_ge λz=>?_;have:=M2.sq_mono (a:=10) ⋯ z;omega
 have e:=U9 c;have f:=M2.sq_mono (a:=2) ⋯ b;rcases (by omega:d=2\/d=3\/d=4\/d=5\/d=6\/d=7\/d=8\/d=9) with rfl|rfl|rfl|rfl|rfl|rfl|rfl|rfl <;> omega
inductive Ji (vs:List V) (H:Hp) (Q:VK) (zE:XK):Prop
 |mk (κ:KX) (t:Int) (x:κ.F) (_:vs=[.int κ.P,.int t]) (_:Cq κ t x) (_:∀H' v,Ad H H'->NR κ H' v x->Q v H'):Ji vs H Q zE
inductive PQ (vs:List V) (H:Hp) (Q:VK) (zE:XK):Prop
 |mk (κ:KX) (u:V) (x:κ.F) (_:vs=[.int κ.P,u]) (_:NR κ H u x) (_:Q (.bl true) H):PQ vs H Q zE
theorem V5[Decidable p]{Q:V->Hp->Prop}{H:Hp}(h:p)(k:Q (.bl true) H):Q (.bl<|decide p) H:=by rw[rG h];exact k
theorem Xv(K:Ac):PySem.W.kitOne K (.type "int") (.type "tuple")=some false:=JC K ‹4› ‹4› ‹4›
theorem SE(K:Ac):PySem.W.kitOne K (.type "int") (.type "list")=some false:=JC K ‹4› ‹4› ‹4›
theorem aY(K:Ac):PySem.W.kitOne K (.type "tuple") (.type "list")=some false:=JC K ‹4› ‹4› ‹4›
theorem aB(K:Ac):PySem.W.kitOne K (.type "list") (.type "tuple")=some false:=JC K ‹4› ‹4› ‹4›
def FU:Sp:=λ_ _ _ _=>False
theorem E8{κ:KX}{l:Ab κ}{i:Nat}(h:i<l.length):l[i]?=some (l.getD i 0):=by
 rw[Q3,Q6 h];rfl
theorem Lj{κ:KX}{f:Ab κ}(h:AT (NR κ H) xs f){i:Nat}(c:i<f.length):∃v,xs[i]?=some v/\NR κ H v (f.getD i 0):=by
 obtain ⟨v,b⟩:=Kq (E8 c) h.1.symm;obtain ⟨x,a,d⟩:=h.get b;rw[E8 c] at a
 cases a
 exact (v,b,d)
inductive MV (vs:List V) (H:Hp) (Q:VK) (zE:XK):Prop
 |mk (c j:Int) (_:vs=[.int c,.int j]) (_:j.natAbs<=1000) (_:∀m:Int,Q (.int m) H):MV vs H Q zE
inductive MH (vs:List V) (H:Hp) (Q:VK) (zE:XK):Prop
 |mk (κ:KX) (c:Int) (_:vs=[.int κ.P,.int c]) (_:∀H' v (x:κ.F),Ad H H'->NR κ H' v x->QN κ 12 108 x->Q v H'):MH vs H Q zE
inductive Pj (vs:List V) (H:Hp) (Q:VK) (zE:XK):Prop
 |mk (κ:KX) (a:Addr) (xs:List V) (g:Ab κ) (_:vs=[.int κ.P,.ref a]) (_:H a=some (.lst xs)) (_:AT (NR κ H) xs g) (_:∀(H':Hp) (D:Addr) (r:Nat),Ad H H'->H' D=some (.lst (xs.take r))->r<=g.length->(∀j,r<=j->g.getD j 0=0)->(r=0\/g.getD (r-1) 0≠0)->(D=a\/H D=none)->Q (.ref D) H'):Pj vs H Q zE
theorem oQ{κ:KX}{xs:List V}{f:Ab κ}(h:AT (NR κ H) xs f)(r:Nat):AT (NR κ H) (xs.take r) (f.take r):=by
 obtain ⟨l,h⟩:=h;refine (by rw[Qn,Qn,l],λi v d a b=>?_);rw[Uj] at a b
 by_cases c:i<r
 ·rw[qK c] at a b;exact h i v d a b
 ·rw[qI c] at a;cases a
section
variable{κ:KX}
noncomputable def Fk(f g:Ab κ):Nat->κ.F
 |0=>0
 |k+1=>Fk f g k+f.getD k 0*g.getD k 0
noncomputable def GO(f g:Ab κ):κ.F:=Fk f g f.length
theorem iT{f g:Ab κ}{i:Nat}{x y:κ.F}(b:f[i]?=some x)(a:g[i]?=some y):Fk f g (i+1)=Fk f g i+x*y:=by
 show Fk f g i+f.getD i 0*g.getD i 0=_;rw[Q3,Q3,b,a];rfl
end
theorem QU{x:Rat}{A:Int}(b:0<A)(h:(x.den:Int) ∣ A):x=Rat.divInt (x.num*(A/x.den)) A:=by
 have a:=(Cn x).pos;obtain ⟨c,rfl⟩:=h;rw[Int.mul_ediv_cancel_left c ⋯];have:Rat.divInt x.num x.den=Rat.divInt (x.num*c) (x.den*c):=by
  rw[Wl ⋯ ⋯];rw[Qy,Qx c]
 rw[<-this,W4]
theorem pL{X Y D:Int}(a:0<D):Rat.divInt X D+Rat.divInt Y D=Rat.divInt (X+Y) D:=by
 rw[sX _ _ ⋯ ⋯,Wl (Int.ne_of_gt<|Wk a a) ⋯,<-Int.add_mul,Qy]
def tS(f g:List Rat)(A C:Int):Nat->Int
 |0=>0
 |k+1=>tS f g A C k+(f.getD k 0).num*(A/(f.getD k 0).den)*(g.getD k 0).num*(C/(g.getD k 0).den)
theorem RW{f g:List Rat}{A C:Int}(d:0<A)(c:0<C)(h:∀x∈f,(x.den:Int) ∣ A)(e:∀x∈g,(x.den:Int) ∣ C):∀k,k<=f.length->k<=g.length->Rat.divInt (tS f g A C k) (A*C)=Fk (κ:=.q) f g k
 |0,_,_=>Rat.zero_divInt _
 |k+1,h1,h2=>by
  have a:f.getD k 0∈f:=by rw[Q3,Q6 (show k<f.length by omega)];exact W7 _
  have b:g.getD k 0∈g:=by rw[Q3,Q6 (show k<g.length by omega)];exact W7 _
  have i:=RW d c h e k ⋯ ⋯;have j:=QU d<|h _ a;have l:=QU c<|e _ b;have m:(f.getD k 0)*(g.getD k 0)=Rat.divInt ((f.getD k 0).num*(A/(f.getD k 0).den)*(g.getD k 0).num*(C/(g.getD k 0).den)) (A*C):=by
   conv=>lhs;rw[j,l]
   rw[rL,<-Qy]
  show Rat.divInt (tS f g A C k+_) (A*C)=Fk (κ:=.q) f g k+(f.getD k 0:Rat)*(g.getD k 0:Rat);rw[<-pL (Wk d c),i,m]
def Nf(f:List Rat):Prop:=∀x∈f,x.num.natAbs<=10^3000/\x.den<=10^2000
inductive J6 (vs:List V) (H:Hp) (Q:VK) (zE:XK):Prop
 |mk (s:Addr) (t b:Int) (_:vs=[.ref s,.int t,.int b]) (_:0<b) (_:b.natAbs<=10^2650) (_:∀(r:Addr) (x y:Int),H r=none->Fc x y->x*b=t*y->Q (.ref r) (As H r (.tup [.int x,.int y]))):J6 vs H Q zE
inductive Ox (CF:Addr) (vs:List V) (H:Hp) (Q:VK) (zE:XK):Prop
 |mk (s r1 r2:Addr) (xs ys:List V) (f g:List Rat) (B C:Int) (_:vs=[.ref s,.ref r1,.ref r2]) (_:G4 CF H s) (_:H r1=some (.lst xs)) (_:H r2=some (.lst ys)) (_:AT (NR .q H) xs f) (_:AT (NR .q H) ys g) (_:f.length=g.length) (_:f.length<=100) (_:Nf f) (_:Nf g) (_:0<B) (_:B.natAbs<=10^2000) (_:(∀x∈f,((Rat.den x:Nat):Int) ∣ B)) (_:0<C) (_:C.natAbs<=10^600) (_:(∀x∈g,((Rat.den x:Nat):Int) ∣ C)) (_:∀H' v,Ad H H'->NR .q H' v (GO (κ:=.q) f g)->Q v H'):Ox CF vs H Q zE
inductive LO (CR:Addr) (vs:List V) (H:Hp) (Q:VK) (zE:XK):Prop
 |mk (p:Nat) (hp:BB p) (s r1 r2:Addr) (xs ys:List V) (f g:List (KX.r p hp).F) (_:vs=[.ref s,.ref r1,.ref r2]) (_:Gn CR p H s) (_:H r1=some (.lst xs)) (_:H r2=some (.lst ys)) (_:AT (NR (.r p hp) H) xs f) (_:AT (NR (.r p hp) H) ys g) (_:f.length=g.length) (_:f.length<=100) (_:∀H' v,Ad H H'->NR (.r p hp) H' v (GO f g)->Q v H'):LO CR vs H Q zE
def UR(P:Program)(w:World)(K:Ac)(mg:Ai)(base:Heap)(o CR:Addr):Prop :=
 ∀(a:KX) (H:Hp) (s:Addr),EV o CR a H s->∃C m h n d j,H s=some (.ins C m h)/\BV K C/\AC P w K mg base C "sum_of_products" 3 n d j/\h.lookup ("sum_of_products":Str)=none/\d=[] ∧
  ∀(c:Hp) (e i:Addr) (k l:List V) (f g:Ab a) (D E M N:Nat) (Q:VK),Ad H c->c e=some (.lst k)->c i=some (.lst l)->AT (NR a c) k f->AT (NR a c) l g->f.length=g.length->f.length<=100->(∀x∈f,QN a (D:Int) M x)->(∀x∈g,QN a (E:Int) N x)->0<D->D<=10^2000->0<E->E<=10^600->M<=10^3000->N<=10^3000->(∀b v,Ad c b->NR a b v (GO f g)->Q v b)->j [.ref s,.ref e,.ref i] c Q E0
theorem Tl{D M:Nat}(j:0<D)(i:D<=10^2000)(g:M<=10^3000){f:List Rat}(h:∀x∈f,QN .q (D:Int) M x):Nf f/\∀x∈f,((Rat.den x:Nat):Int) ∣ (D:Int):=by
 refine (λx a=>?_,λx a=>?_)
 ·obtain ⟨X,e,c⟩:=h x a;have e:=e;obtain ⟨d,b⟩:=FZ X (show (0:Int)<(D:Int) by omega);rw[<-e] at d b;refine (?_,?_)
  ·by_cases z:X=0
   ·have:=Lk X (show (0:Int)<(D:Int) by omega) z;rw[<-e] at this;rw[this];exact Qe _
   ·exact Q0 (GE b z) (Q0 c g)
  ·have:=GE d (show (D:Int)≠0 by omega);rw[Qa,Qa] at this;omega
 ·obtain ⟨X,e,c⟩:=h x a;have e:=e;rw[e];exact (FZ X (show (0:Int)<(D:Int) by omega)).1
theorem Pq{n i:Nat}(h:n<=10^i)(a:i<=2650:=by decide):n<=10^2650:=Q0 h<|Q8 ∅ a
theorem Gf{n i:Nat}(h:n<=10^i)(a:i<=9000:=by decide):n<=10^9000:=Q0 h<|Q8 ∅ a
theorem Vb:10^9000<2^30000:=by decide +kernel
theorem Kr{i j:Int}(h:i.natAbs<=10^9000)(h':j.natAbs<=10^9000):IntMulOk i j :=
 .of_bits (Q0 (JB (n:=30000)<|Q5 h Vb) ∅) (Q0 (JB (n:=30000)<|Q5 h' Vb) ∅)
theorem Mp{a b:Int}{i j:Nat}(c:a.natAbs<=10^i)(d:b.natAbs<=10^j):(a*b).natAbs<=10^(i+j):=by
 rw[Qj,Wd];exact Qk c d
theorem SJ{A b:Int}:(A/b).natAbs<=A.natAbs:=Int.natAbs_ediv_le_natAbs A b
end Lake.My
namespace Lake.Zp
open My
open PySem L2 PyProof.Rows
variable{Z:Zc}{X:Cx}
section
variable{x y m:Str}{pos p2 p3 p4 apos:Pos}{a b c e elt it tg o:Expr}{es:List Expr}{ta tb tc te:ZE}{t ti:ZA}{scope:Scope}{caps:List (Nat×Str)}
abbrev mT(ta tb tc:ZE):ZA:=λd Q=>ta d λp=>tb d λq=>tc d λr=>DD p λi=>DD q λj=>DD r λc=>c = -1/\(-(2^62)<=i/\i<2^62 /\ -(2^62)<=j/\j<2^62)/\Q (ID i (i-j).toNat)
theorem Yh{p:Pos}(G:X.mg "range"=none) (u:QE Z X a ta) (C:QE Z X b tb) (z:QE Z X c tc) (E:Gl X "range":= by rfl) (D:starEach [a,b,c] X.env=[(false,eval a X.env),(false,eval b X.env),(false,eval c X.env)]:=by rfl) (h:starEach [b,c] X.env=[(false,eval b X.env),(false,eval c X.env)]:=by rfl) (r:starEach [c] X.env=[(false,eval c X.env)]:=by rfl):QI Z X tg (.Call (.Name "range" p) [a,b,c] [] pos) (mT ta tb tc) :=
 (λg _ _ f q=>u.mo g _ _ (λp k=>C.mo g _ _ (λ_ k=>z.mo g _ _ (λ_ k=>EB (λ_ k=>EB (λ_ k=>EB (λ_ k=>(k.1,k.2.1,f _ k.2.2)) k) k) k) k) k) q,λA w=>Ho (hU E G (Ag (u.ok A w) (Ag (C.ok A w) (Ag (z.ok A w) An r) (by rw[h,r])) (by rw[D,h])) D h) λσ H R ⟨O,g,s,q⟩=>(O,g,s,u.mo g _ _ (λp k v H1 B M=>(O,g,s.same B,C.mo g _ _ (λp' k Y W S2 K=>(O,g,s.same<|AW B S2,z.mo g _ _ (λp3 k v3 L T P=>by
  obtain ⟨i,rfl,U⟩:=EG k;obtain ⟨j,rfl,I⟩:=EG U;obtain ⟨d,rfl,rfl,Q,N⟩:=EG I;refine (i,j,by rw[A3 M,A3 K,A3 P],Q,N _ L (AW B<|AW S2 T) λO4 H4 _ _ n=>(λe=>by rw[N9] at e;exact Wt e.symm,λp J=>?_));obtain ⟨l,rfl⟩:=T6 J;refine (l,λx H' ⟨S,F⟩=>?_);subst S F;exact (BI,rep_i)) k)) k)) q))
theorem lZ{p I:Pos}{g:Pos}(u:X.mg "list"=none) (G:X.mg "reversed"=none) (h:QE Z X e te) (n:Gl X "list":= by rfl) (C:Gl X "reversed":= by rfl) (d:X.calm=true:=by rfl) (w:starEach [e] X.env=[(false,eval e X.env)]:=by rfl) (j:starEach [.Call (.Name "reversed" p) [e] [] pos] X.env=[(false,eval (.Call (.Name "reversed" p) [e] [] pos) X.env)]:=by rfl):QL Z X (.Call (.Name "list" I) [.Call (.Name "reversed" p) [e] [] pos] [] g) (VA te) :=
 (λi _ _ f q=>h.mo i _ _ (λp k=>GC (λ_=>f _) k) q,λz F=>BZ (fV n u C G d (Ag (h.ok z F) An w) w j) λJ H Q ⟨O,i,s,q⟩=>(O,i,s,h.mo i _ _ (λp k v K B D=>by
  obtain ⟨l,rfl,k⟩:=Gp k;obtain ⟨a,E,rfl,A,r⟩:=Db D;exact (a,E,rfl,.of<|hide_le _ _ A,nw B k r.reverse)) q))
abbrev QB(p:PV)(f:PV->PV->Prop):Prop:=match p with
 | .tup [a,b]=>f a b
 |_=>False
theorem Xw(h:QB p f):∃a b,p = .tup [a,b]/\f a b:=by
 unfold QB at h
 split at h
 ·exact (_,_,rfl,h)
 ·exact h.elim
abbrev OP(caps:List (Nat×Str))(ti:ZA)(te:ZE):ZA:=λd Q=>ti d λl=>DP l (λp C=>QB p λa b=>te (some (.val a)::some (.val b)::cap caps d) C) Q
theorem OX{u v:V}{d:List (Option V)}:∀(i:Nat) w,((none:Option V)::none::d)[i]?=some (some w)->(some u::some v::d)[i]?=some (some w)
 |0,_,h=>by simp at h
 |1,_,h=>by simp at h
 |i+2,_,h=>by simpa using h
theorem WF{K:Ac}(F:Mo ti)(w:Mo te)(σ:L2.St)(H:Hp)(Q:VK)(h:Jt Z i g (OP caps ti te) σ H Q):Jk 2 caps (Jx Z i g ti) (GQ K 2<|Fx (DK 0)<|Fx (DK 1) Jd) (E1 Z i g te) σ H Q:=by
 obtain ⟨O,j,s,q⟩:=h;refine (O,j,s,F j _ _ (λl k J L n E=>SI s n E w k λp v G C N S2 r f z=>?_) q);obtain ⟨a,b,rfl,f⟩:=Xw f;obtain ⟨d,I,rfl,B,r⟩:=Iz r;obtain ⟨u,v,rfl,D,A⟩:=r.two;exact (d,[u,v],rfl,.of<|hide_le _ _ B,rfl,u,[v],rfl,v,[],rfl,rfl,OX,O,_,s.cap (AW n S2) caps (vs:=[u,v]) (ps:=[a,b])<|.cons D<|.cons A .nil,w _ _ _ z f)
theorem p8(x y:Str)(caps:List (Nat×Str)){k0:Nat}(v:QI Z X (.Tuple [.Name x p2,.Name y p3] k0 p4) it ti)(F:∀h g d C,QE Z (A9 X scope (x::y::caps.map (·.2)) g d C h) elt te)(s:AV X scope caps:=by repeat (first | exact trivial | refine And.intro (rfl,rfl,by first | exact .inl rfl | exact .inr rfl) ?_))(D:X.calm=true:=by rfl)
 (u:(x::y::caps.map (·.2)).Nodup:=by decide +kernel)
 (w:(scope.names.all λy=>!(y.2==NameKind.free)||(X.env.cells.lookup y.1).isSome)=true:=by rfl)
 (r:scope.kind = .function:=by rfl) (p:∀y∈scope.names,y.2 ≠ .cell:=by decide +kernel)
 (j:∀y∈scope.names,y.2 = .local->scope.names.lookup y.1=some .local:=by decide +kernel) (H:∀x,foldedSetIterable it X.env x=pure x:=by intro _; rfl)
 (L:∀h g d C,Loc (A9 X scope (x::y::caps.map (·.2)) g d C h).env.scope x/\(A9 X scope (x::y::caps.map (·.2)) g d C h).env.scope.names.lookup x=some .local/\Loc (A9 X scope (x::y::caps.map (·.2)) g d C h).env.scope y/\(A9 X scope (x::y::caps.map (·.2)) g d C h).env.scope.names.lookup y=some .local:=by exact λ_ _ _ _=>(.inl rfl,rfl,.inl rfl,rfl)) :
 QL Z X (.ListComp elt [(.Tuple [.Name x p2,.Name y p3] k0 p4,it,[],0)] scope pos) (OP caps ti te):=by
 have I:∀h g d C,PG (A9 X scope (x::y::caps.map (·.2)) g d C h) (.Tuple [.Name x p2,.Name y p3] k0 p4) (GQ X.K 2<|Fx (DK 0)<|Fx (DK 1) Jd):=λh g d C=>let ⟨l1,l2,l3,l4⟩:=L h g d C; Ia (n:=2) D (E3 (CA (i:=0) u rfl l1<|.inr l2)<|E3 (CA (i:=1) u rfl l3<|.inr l4) HN);have K:=(F [] X.s₀ X.H₀ 0).mo;exact (λJ A B f q=>v.mo J _ _ (λl k=>k.mo (λ_ _ z=>z) f) q,λE G=>BZ (KO [x,y] caps D (v.ok E G) I (λh g d C=>(F h g d C).ok E G) s w r p j H)<|WF v.mo K)
abbrev dW(te:ZE):ZE:=λd Q=>te d λp=>match p with
 | .kp κ=>Q<|.kd κ
 |_=>False
theorem Ib(z:AU X.K Z.p "under") (C:BV X.K Z.p) (h:QE Z X e te) (B:attributeBase e "under" X.env (eval e X.env)=eval e X.env:=by rfl):QE Z X (.Attribute e "under" pos) (dW te) :=
 (λg _ _ f q=>h.mo g _ _ (λp k=>by
  split at k
  ·exact f _ k
  ·exact k.elim) q,λj r=>BZ (F8 (h.ok j r) B) λD H Q ⟨O,g,s,q⟩=>(O,g,s,h.mo g _ _ (λp k v w n i=>by
  split at k
  ·unfold Rep at i;obtain ⟨a,u,d,rfl,l,A⟩:=i;exact (a,Z.p,u,_,.ref d,rfl,hide_le _ _ l,C,z,rfl,k _ w n (by unfold Rep;exact (d,rfl,A)))
  ·exact k.elim) q))
end
section
variable{x y:Str}{pos p2 p3 p4:Pos}{e elt it:Expr}{te:ZE}{ti:ZA}{scope:Scope}
theorem cX{z:Str}(i:Nat)(x y:Str)(caps:List (Nat×Str)){k0:Nat}{h G:Pos}(L:X.N.Nodup)(t:QI Z X (.Tuple [.Name x p2,.Name y p3] k0 p4) it ti)(A:∀d b c C,QE Z (A9 X scope (x::y::caps.map (·.2)) b c C d) elt te)(W:X.N[i]?=some z:=by rfl)(u:X.env.scope.names.lookup z=some .local:=by rfl)(p:AV X scope caps:=by repeat (first | exact trivial | refine And.intro (rfl,rfl,by first | exact .inl rfl | exact .inr rfl) ?_))(E:X.calm=true:=by rfl)
 (o:(x::y::caps.map (·.2)).Nodup:=by decide +kernel)
 (w:(scope.names.all λy=>!(y.2==NameKind.free)||(X.env.cells.lookup y.1).isSome)=true:=by rfl)
 (v:swapsWith (.ListComp elt [(.Tuple [.Name x p2,.Name y p3] k0 p4,it,[],0)] scope pos) (some<|.Name z G) h.line X.env=pure true:=by rfl)
 (m:scope.kind = .function:=by rfl) (j:∀y∈scope.names,y.2 ≠ .cell:=by decide +kernel)
 (f:∀y∈scope.names,y.2 = .local->scope.names.lookup y.1=some .local:=by decide +kernel) (I:∀x,foldedSetIterable it X.env x=pure x:=by intro _; rfl)
 (P:∀d b c C,Loc (A9 X scope (x::y::caps.map (·.2)) b c C d).env.scope x/\(A9 X scope (x::y::caps.map (·.2)) b c C d).env.scope.names.lookup x=some .local/\Loc (A9 X scope (x::y::caps.map (·.2)) b c C d).env.scope y/\(A9 X scope (x::y::caps.map (·.2)) b c C d).env.scope.names.lookup y=some .local:=by exact λ_ _ _ _=>(.inl rfl,rfl,.inl rfl,rfl)) :
 QS Z X (.Assign [.Name z G] (.ListComp elt [(.Tuple [.Name x p2,.Name y p3] k0 p4,it,[],0)] scope pos) h) (JQ i<|OP caps ti te):=by
 have J:∀d b c C,PG (A9 X scope (x::y::caps.map (·.2)) b c C d) (.Tuple [.Name x p2,.Name y p3] k0 p4) (GQ X.K 2<|Fx (DK 0)<|Fx (DK 1) Jd):=λd b c C=>let ⟨l1,l2,l3,l4⟩:=P d b c C; Ia (n:=2) E (E3 (CA (i:=0) o rfl l1<|.inr l2)<|E3 (CA (i:=1) o rfl l3<|.inr l4) HN);have U:=(A [] X.s₀ X.H₀ 0).mo;refine (λD D' r l q=>t.mo r _ _ (λM k=>k.mo (λ_ _ z=>z) λ_=>l.nx _) q,λF B=>Du (KM [x,y] caps L W u E (t.ok F B) J (λd b c C=>(A d b c C).ok F B) p w v m j f I) λD S H ⟨O,r,s,q⟩=>WF t.mo U S H _ (O,r,s,t.mo r _ _ (λM k=>k.mo (λ_ _ z=>z) λl k a Y T Q n g R=>?_) q));obtain ⟨K,N⟩:=s.own Q (i:=i) n g R;exact k _ _ T K N
end
theorem XW(p:PV)(A B:Prop)(f:A->B)(h:Ec p A):Ec p B:=by cases p <;> first|exact f h|exact h
theorem pG(p:PV)(A:Prop)(h:Ec p A):A:=by cases p <;> first|exact h|exact h.elim
section
variable{P:Program}{w:World}{K:Ac}{mg:Ai}{base:Heap}
theorem PF(o:BV K Z.p)(l:Eo S)(h:Au P w K mg base Z.p m k ps [] (EO Z S))(j:(m==("under":Str))=false:=by decide):Mt P w K mg base Z Ec m k S :=
 (l,XW,pG,λp x H O r g=>by
  cases p <;> try exact g.elim
  unfold Rep at r;obtain ⟨a,e,d,rfl,b,n⟩:=r;refine (a,Z.p,e,_,ps,[],_,rfl,hide_le _ _ b,o,h,?_,λu t s Q c i f q=>?_)
  ·rw[U4,j];rfl
  ·rw[Wu];refine (O,_,i,.cons ?_ f,q);unfold Rep;exact (a,e,d,rfl,Ct c _ _ b,n.same<|Ct c))
theorem NJ{st:Stmt}{N ps:List Str}{S:ZF}{t:ZS}(o:Am K Z.p m c st)(b:∀f g,BT K m c st f g->AB K g ps [])(j:Aa N ps (Ao st))(e:∀vs Q,S vs Q->vs.length=ps.length)
 (body:∀(f:Addr) (d:Value) (A:Around) (a:List Env) (s:Shared) (H:Hp) (E:XK),Av k (A.deeper<|envOfC c (Ao st) s.heap.objs.size f d)->DH Z (F1 P w K mg base N c (Ao st) f d A a s H E) (CL st) t)
 (n:ps.length<=N.length) (p:∀vs Q,S vs Q->t (λ_=>Q .non,Q,λ_=>False,λ_=>False) (DT N vs)):Au P w K mg base Z.p m (k+1) ps [] (EO Z S) :=
 o.hasMX b λf g F=>F.okx j (λvs H Q E h=>by
  obtain ⟨O,pv,l,r,q⟩:=h;rw[r.len]; exact e _ _ q) λd A a s H vs Q E i h=>IZ e (body f d A a s H E i) n p h
end
inductive Nx (D:ZD) (ρ:Bx) (i:Nat):PV->Prop
 |mk {a:Int} (b:Int) (e:a=b) (h:D.nx (A2 ρ i (some (.val (.int b))))):Nx D ρ i (.int a)
theorem Nx.ok{D:ZD}(h:Nx D ρ i p):D.nx (A2 ρ i<|some<|.val p):=by
 obtain ⟨b,e,h⟩:=h;rw[e];exact h
abbrev cP(i:Nat)(te:ZE):ZS:=λD a=>te a λp=>Nx D a i p
theorem Ry{x:Str}{p2 pos:Pos}(i:Nat)(m:X.N.Nodup)(h:QE Z X e te)(n:X.N[i]?=some x:=by rfl)(o:Loc X.env.scope x:=by first|exact .inl rfl|exact .inr rfl)(d:swapsWith e (some<|.Name x p2) pos.line X.env=pure false:=by rfl)(j:X.fn x=true\/X.env.scope.names.lookup x=some .local:=by first|exact .inl rfl|exact .inr rfl|assumption):QS Z X (.Assign [.Name x p2] e pos) (cP i te) :=
 have g:=AE i m h n o d j
 (λD r a l q=>h.mo a _ _ (λp ⟨b,e,k⟩=>(b,e,l.nx _ k)) q,λc f=>Du (g.ok c f) λD t H ⟨O,a,s,q⟩=>(O,a,s,h.mo a _ _ (λp k=>k.ok) q))
inductive DL (l:List PV) (f:PV->AH->Prop) (Q:List PV->Prop):Prop
 |mk (Pv:Nat->List PV->Prop) (hz:l.length<=3000) (h0:Pv 0 []) (hs:∀(i:Nat) p r,l[i]?=some p->r.length=i->Pv i r->f p λv=>Pv (i+1) (r++[v])) (q:∀r,r.length=l.length->Pv l.length r->Q r):DL l f Q
theorem DL.mo{A B:List PV->Prop}(k:∀r,A r->B r)(c:DL l f A):DL l f B:=let ⟨Pv,h1,h2,h3,h4⟩:=c;(Pv,h1,h2,h3,λr a b=>k _<|h4 r a b)
section
variable{x:Str}{pos p2:Pos}{elt it:Expr}{te:ZE}{ti:ZA}{scope:Scope}{caps:List (Nat×Str)}
abbrev KQ(caps:List (Nat×Str))(ti:ZA)(te:ZE):ZA:=λa Q=>ti a λl=>DL l (λp=>te (some (.val p)::cap caps a)) Q
theorem Ta(T:Mo ti)(R:Mo te)(σ:L2.St)(H:Hp)(Q:VK)(h:Jt Z n j (KQ caps ti te) σ H Q):Jk 1 caps (Jx Z n j ti) (DK 0) (E1 Z n j te) σ H Q:=by
 obtain ⟨O,w,s,q⟩:=h;refine (O,w,s,T w _ _ (λl c J A o P=>?_) q);obtain ⟨z,I,F,B,q⟩:=c;refine (λi m f d=>m=l.length-i/\i<=l.length/\Ad A d/\∃r,r.length=i/\z i r/\Af Z (hide O d) r f,(_,rfl,Qe _,BI,[],rfl,F,.nil),?_);rintro i m f d ⟨rfl,W,a,r,b,pv,t⟩;have ly:f.length=i:=by rw[t.len,b]
 have Y:l.length<sizeLine:=Q5 I ∅;obtain ⟨M,G⟩:=P O d (Ct a) ((s.ls.same o).same a) i;refine (⋯,?_)
 by_cases e:i=l.length
 ·refine .inl (M e,nw (AW o a) (q r (by rw[b,e]) (by rw[<-e];exact pv)) t)
 ·have u:i<l.length:=⋯;obtain ⟨C,U⟩:=G l[i]<|Q6 u;refine .inr (C,⋯,λv g=>Ad A g/\∃r,r.length=i+1/\z (i+1) r/\Af Z (hide O g) r (f++[v]),λv g ⟨N,S⟩=>(l.length-(i+1),⋯,rfl,u,N,S),λx E D=>?_);obtain ⟨S2,L⟩:=U x E D;refine (Ke,O,_,s.cap (AW o<|AW a S2) caps (vs:=[x]) (ps:=[l[i]])<|.cons L .nil,R _ _ _ (λp k v g y K=>(AW a<|AW S2 y,r++[p],by rw[Qi,b];rfl,k,(t.h<|AW S2 y).append<|.cons K .nil))<|B i _ r (Q6 u) b pv)
theorem oT(x:Str)(caps:List (Nat×Str))(m:QI Z X (.Name x p2) it ti)(p:∀c b a C,QE Z (A9 X scope (x::caps.map (·.2)) b a C c) elt te)(h:AV X scope caps:=by repeat (first | exact trivial | refine And.intro (rfl,rfl,by first | exact .inl rfl | exact .inr rfl) ?_))(t:X.calm=true:=by rfl)
 (j:(x::caps.map (·.2)).Nodup:=by decide +kernel)
 (n:(scope.names.all λy=>!(y.2==NameKind.free)||(X.env.cells.lookup y.1).isSome)=true:=by rfl)
 (g:scope.kind = .function:=by rfl) (e:∀y∈scope.names,y.2 ≠ .cell:=by decide +kernel)
 (d:∀y∈scope.names,y.2 = .local->scope.names.lookup y.1=some .local:=by decide +kernel) (u:∀x,foldedSetIterable it X.env x=pure x:=by intro _; rfl)
 (s:∀c b a C,Loc (A9 X scope (x::caps.map (·.2)) b a C c).env.scope x/\(A9 X scope (x::caps.map (·.2)) b a C c).env.scope.names.lookup x=some .local:=by exact λ_ _ _ _=>(.inl rfl,rfl)) :
 QL Z X (.ListComp elt [(.Name x p2,it,[],0)] scope pos) (KQ caps ti te):=by
 have w:=(p [] X.s₀ X.H₀ 0).mo;exact (λv A B f q=>m.mo v _ _ (λl k=>k.mo f) q,λo r=>BZ (KO [x] caps t (m.ok o r) (λc b a C=>CA (i:=0) j rfl (s c b a C).1<|.inr (s c b a C).2) (λc b a C=>(p c b a C).ok o r) h n g e d u)<|Ta m.mo w)
end
theorem P9:∀ {ρ:Bx} {i:Nat} {s:Option Sl},i<ρ.length->A0 (A2 ρ i s) i=s
 |_::_,0,_,_=>rfl
 |_::ρ,i+1,_,h=>P9 (ρ:=ρ) (i:=i)<|Nat.lt_of_succ_lt_succ h
theorem Ow:∀ {ρ:Bx} {i:Nat} {s:Option Sl},ρ.length<=i->A2 ρ i s=ρ
 | [],_,_,_=>rfl
 |a::ρ,i+1,_,h=>qW (a :: ·)<|Ow (ρ:=ρ) (i:=i)<|Nat.le_of_succ_le_succ h
theorem L9:∀ {ρ:Bx} {i:Nat} {s t:Option Sl},A2 (A2 ρ i s) i t=A2 ρ i t
 | [],_,_,_=>rfl
 |_::_,0,_,_=>rfl
 |a::ρ,i+1,_,_=>qW (a :: ·)<|L9 (ρ:=ρ) (i:=i)
theorem MO{st:Stmt}{t:ZA}(m:Mo t)(h:QS Z X st (JQ i t)):QS Z X st (Iw i<|JH t) :=
 (λD r a l q=>m a _ _ (λ_=>l.nx _) q,λd f=>Du (h.ok d f) λD u H ⟨O,a,s,q⟩=>(O,a,s,m a _ _ (λl k p b n c g=>by
  by_cases e:i<a.length
  ·obtain ⟨o,j,S2⟩:=c.free<|P9 e;rw[L9] at j;exact k o b n j<|AW g S2
  ·rw[Ow<|Uf e] at c;have k:HF Z d f O H D.nx (A2 a i<|some<|.val<|.lst l):=k;rw[Ow<|Uf e] at k;exact k p b n c g) q))
abbrev Yo(i:Nat)(te:ZE):ZS:=λD c=>zV i c λp=>te c λq=>DD p λa=>DD q λb=>IntMulOk a b/\D.nx (A2 c i<|some<|.val<|.int<|a*b)
theorem pW(i:Nat){x:Str}{p2 pos:Pos}{e:Expr}{te:ZE}{t:Jo}(B:HB X .Mult t)(f:∀x y H Q,(∃i j,x = .int i/\y = .int j/\IntMulOk i j/\Q (.int<|i*j) H)->t x y H Q)(n:X.N.Nodup)(h:QE Z X e te)(o:X.N[i]?=some x:=by rfl)(z:Loc X.env.scope x:=by first|exact .inl rfl|exact .inr rfl)(F:X.fn x=true\/X.env.scope.names.lookup x=some .local:=by first|exact .inl rfl|exact .inr rfl|assumption):QS Z X (.AugAssign (.Name x p2) .Mult e pos) (Yo i te) :=
 (λD K a l q=>Tj (λp k=>h.mo a _ _ (λ_ k=>EB (λ_ k=>EB (λ_ k=>(k.1,l.nx _ k.2)) k) k) k) q,λA g=>Du (Lo n o z (h.ok A g) B F) λD M H ⟨O,a,s,q⟩=>by
  obtain ⟨p,m,q⟩:=Vt q;obtain ⟨v,u,r⟩:=s.rel i _ m
  cases r with|val r=>?_
  refine (v,u,O,a,s,h.mo a _ _ (λL k J I b C=>f _ _ _ _ ?_) q);obtain ⟨c,rfl,G⟩:=EG k;obtain ⟨d,rfl,w,E⟩:=EG G;exact (c,d,A3 r,A3 C,w,E O _ I ((s.same b).set rep_i)<|Ct b))
section
variable{x y:Str}{pos p2:Pos}{elt it:Expr}{te:ZE}{ti:ZA}{scope:Scope}
theorem Zn(i:Nat)(x:Str)(caps:List (Nat×Str)){d s:Pos}(w:X.N.Nodup)(r:QI Z X (.Name x p2) it ti)(u:∀j a b C,QE Z (A9 X scope (x::caps.map (·.2)) a b C j) elt te)(F:X.N[i]?=some y:=by rfl)(n:X.env.scope.names.lookup y=some .local:=by rfl)(h:AV X scope caps:=by repeat (first | exact trivial | refine And.intro (rfl,rfl,by first | exact .inl rfl | exact .inr rfl) ?_))(E:X.calm=true:=by rfl)
 (m:(x::caps.map (·.2)).Nodup:=by decide +kernel)
 (p:(scope.names.all λy=>!(y.2==NameKind.free)||(X.env.cells.lookup y.1).isSome)=true:=by rfl)
 (o:swapsWith (.ListComp elt [(.Name x p2,it,[],0)] scope pos) (some<|.Name y s) d.line X.env=pure true:=by rfl)
 (g:scope.kind = .function:=by rfl) (e:∀y∈scope.names,y.2 ≠ .cell:=by decide +kernel)
 (c:∀y∈scope.names,y.2 = .local->scope.names.lookup y.1=some .local:=by decide +kernel) (t:∀x,foldedSetIterable it X.env x=pure x:=by intro _; rfl)
 (D:∀j a b C,Loc (A9 X scope (x::caps.map (·.2)) a b C j).env.scope x/\(A9 X scope (x::caps.map (·.2)) a b C j).env.scope.names.lookup x=some .local:=by exact λ_ _ _ _=>(.inl rfl,rfl)) :
 QS Z X (.Assign [.Name y s] (.ListComp elt [(.Name x p2,it,[],0)] scope pos) d) (Iw i<|JH<|J0 caps ti te) :=
 MO (λv A B f q=>r.mo v _ _ (λl k=>k.mo (λ_ _ z=>z) f) q) (Yj i x caps w r u F n h E m p o g e c t D)
end
variable{P:Program}{w:World}{K:Ac}{mg:Ai}{base:Heap}
section
variable{pos:Pos}{e:Expr}{te:ZE}{t:ZA}
abbrev zG(i:Nat)(ρ:Bx)(A:Prop):Prop:=match A0 ρ i with
 |some (.val<|.kd _)=>A
 |some (.val<|.kp _)=>A
 |_=>False
theorem Z7(s:SR Z c d O H σ ρ)(h:zG i ρ A):A/\Gd Z (hide O H):=by
 unfold zG at h
 split at h
 ·next κ e =>
  obtain ⟨v,b,r⟩:=s.rel i _ e
  cases r with|val r =>
   unfold Rep at r;obtain ⟨a,_,r⟩:=r;exact (h,r.2)
 ·next κ e =>
  obtain ⟨v,b,r⟩:=s.rel i _ e
  cases r with|val r =>
   unfold Rep at r;obtain ⟨a,_,_,_,_,r⟩:=r;exact (h,r.2)
 ·exact h.elim
theorem XI{A B:Prop}(f:A->B)(h:zG i ρ A):zG i ρ B:=by
 unfold zG at *
 split at h
 ·exact f h
 ·exact f h
 ·exact h.elim
abbrev jD(i:Nat)(t:ZA):ZE:=λa Q=>zG i a<|t a λl=>Q<|.fr l
theorem nX(i:Nat)(h:QL Z X e t):QE Z X e (jD i t):=(λc A B f q=>XI (λq=>h.mo c _ _ (λ_=>f _) q) q,λd o=>BZ (h.ok d o) λv H Q ⟨O,c,s,q⟩=>by
 obtain ⟨q,g⟩:=Z7 s q;exact (O,c,s,h.mo c _ _ (λl k a j u S n p r=>k _ u S (by
  unfold Rep;exact (a,j,rfl,λm=>g.1 a m (by by_cases e:a∈O;exact Jf e;rw[hide_out e];exact n),by rw[hide_out<|s.ls.new n];exact p,r.same<|LH λb m=>Wg _ m))) q))
abbrev zF(p:PV)(f:List PV->Prop):Prop:=match p with
 | .fr l=>f l
 |_=>False
theorem Re(h:zF p λl=>Up Z O H Q<|.lst l):Up Z O H Q p:=λv c S r=>by
 unfold zF at h
 split at h
 ·refine h v c S ?_;unfold Rep at *;obtain ⟨a,b,e,_,q,r⟩:=r;exact (a,b,e,q,r)
 ·exact h.elim
end
theorem Tg(h:Fn P w K mg base Z x k c)(d:Eo S)(f:∀ps Q,S ps Q->c ps λp=>zF p λl=>Q<|.lst l):Fn P w K mg base Z x k S :=
 (d,let ⟨ps,a⟩:=h.has;(ps,let ⟨f',fd,F,m,kp,b⟩:=a.ex;(f',fd,F.imp (λe H Q E q=>by
  obtain ⟨O,pv,l,r,s⟩:=q;exact (O,pv,l,r,h.mo _ _ _ (λp k=>Re k)<|f _ _ s)),m,kp,b)))
theorem pQ(h:Mt P w K mg base Z G m k b)(j:Eo S)(f:∀ps Q,S ps Q->b ps λp=>zF p λl=>Q<|.lst l):Mt P w K mg base Z G m k S :=
 (j,h.2,h.3,λp x H O r g=>let ⟨a,C,dx,fs,ps,dvs,sp,e,c1,c2,c3,c4,c5⟩:=h.4 p x H O r g;(a,C,dx,fs,ps,dvs,sp,e,c1,c2,c3,c4,λs q n Q c i d o=>c5 s q n Q c i d<|h.1 _ _ _ (λp k=>Re k)<|f _ _ o))
end Lake.Zp
namespace Lake.My
open PySem L2 PyProof.Rows
section
variable{P:Program}{w:World}{K:Ac}{mg:Ai}{base:Heap}{CF CR:Addr}
theorem AX:Aa ["self","some","bottom","one"] ["self","some"] (Ao NY):=‹2›
theorem ZH(h:Am K CF "common_bottom" "Fractions.common_bottom" NY) (c:AF P w K mg base "divisor" 1 ["one","other"] EF):AC P w K mg base CF "common_bottom" 2 ["self","some"] [] (Ik K):=by
 refine h.hasM (λ_ _ F=>F.b2 λ_ _ _ _ _ _ _ _=>rfl) λf fd F=>F.ok AX (λvs H Q E h=>?_)<|λY A C s H vs Q E hr h=>?_
 ·obtain ⟨_,_,_,_,_,rfl,_⟩:=h
  rfl
 obtain ⟨X,r,xs,f,B,rfl,l,L,hB,N,j,k⟩:=h;have G:=AX.nd;refine (_,(AQ (Bv (i:=2) G rfl (Or.inl rfl) Aj)
  (AQ (Gz q5 rfl (LB<|pv 1) (CA (i:=3) G rfl<|Or.inl rfl)<|Az<|BX (BK Ga (Ar D0 (pv 2)<|AY A6 (pv 3) Aj<|λ_ _=>rfl) Aj<|Bn _) (Az<|Bv (i:=2) G rfl (Or.inl rfl)<|Ar BM (Ar F3 (pv 2)<|BJ c hr (by rfl)<|Ag (pv 2)<|Ag (AY A6 (pv 3) Aj<|λ_ _=>rfl) An)<|AY A6 (pv 3) Aj<|λ_ _=>rfl) BW)
  (Az<|A7<|pv 2))),?_)
 have la:=L.1;refine (_,rfl,r,rfl,(_,AR.of l),?_);refine VQ (xs:=xs) (λi p o=>∃(A:Int) (z:Option V),p=[some<|.ref X,some<|.ref r,some<|.int A,z]/\o=H/\J9 .q (f.take i) A) (1,none,rfl,rfl,∅,λx m=>by simp at m,λB _=>Int.one_dvd _) ?_ ?_ ?_
 ·rintro i p o-⟨A,z,rfl,rfl,-⟩;exact AR.of l
 ·rintro i v p o hv ⟨A,z,rfl,rfl,g,O,D⟩;obtain ⟨x,m,a,rfl,u⟩:=L.get hv;have U:=(Cn x).pos;have mx:=Ql m;have I:=D B λy e=>j y<|List.mem_of_mem_take e;have S:=N.le<|GE I ⋯;have bd:=N.le<|GE (j x mx) ⋯;have n:f.take (i+1)=f.take i++[x]:=by rw[List.take_succ,m];rfl
  refine (_,rfl,_,rfl,a,_,1,_,rfl,rfl,AI.of u,rfl,_,_,rfl,rfl,(show (Rat.den x:Int)≠0 by omega),rfl,_,rfl,?_);refine Hz (λM=>?_)<|λM=>?_
  ·obtain ⟨Z,d1,d2,lm⟩:=X7 g U;have J:(Int.gcd A (Rat.den x:Int):Int)≠0:=by have:=M3.gcd_ne (a:=A) (b:=(Rat.den x:Int)) ⋯;omega
   have T:=S.le<|GE (U0 A (Rat.den x:Int)) ⋯;have W:=M3.fdiv_le (U0 A (Rat.den x:Int)) J;refine (_,rfl,_,rfl,_,rfl,a,_,1,_,rfl,rfl,AI.of u,rfl,A,_,rfl,_,_,rfl,rfl,(J,T),_,rfl,a,_,1,_,rfl,rfl,AI.of u,rfl,_,_,rfl,rfl,Ak.mulH ((S.le W).up ∅) bd,?_);refine (_,_,rfl,rfl,Z,λy e=>?_,λt d=>?_)
   ·rw[n] at e;rcases Qp.mp e with q|q
    ·exact Int.dvd_trans (O y q) d1
    ·rw[Qf.mp q];exact d2
   ·rw[n] at d;exact lm t (D t λy e=>d y<|Qp.mpr<|.inl e)<|d x<|Qp.mpr<|.inr<|Qf.mpr rfl
  ·refine (A,_,rfl,rfl,g,λy e=>?_,λt d=>?_)
   ·rw[n] at e;rcases Qp.mp e with q|q
    ·exact O y q
    ·rw[Qf.mp q];have R:=M;rw[Wr _ ⋯] at R;exact rR R
   ·rw[n] at d;exact D t λy e=>d y<|Qp.mpr<|.inl e
 ·rintro p o ⟨A,z,rfl,rfl,g⟩;rw[la,Uk] at g;exact (_,rfl,k A g)
theorem XM:Aa ["self","some"] ["self","some"] (Ao NA):=‹2›
theorem gZ(h:Am K CR "common_bottom" "Kind.common_bottom" NA):AC P w K mg base CR "common_bottom" 1 ["self","some"] [] Ma:=by
 refine h.hasM (λ_ _ F=>F.b2 λ_ _ _ _ _ _ _ _=>rfl) λf d F=>F.ok XM (λc H Q E h=>?_)<|λb A a s H c Q E g h=>?_
 ·obtain ⟨_,_,rfl,_⟩:=h
  rfl
 obtain ⟨e,r,rfl,k⟩:=h;exact (_,(Az<|A7 Aj),k)
end
section
variable{P:Program}{w:World}{K:Ac}{mg:Ai}{base:Heap}{CF CR cN:Addr}
theorem YU{B:Tok}(h:BC K CF "number" "Fractions.number" Hm #[.int 1 B]) (c:CD K mg "NoNumber" cN) (d:AF P w K mg base "divisor" 1 ["one","other"] EF):Au P w K mg base CF "number" 2 ["self","top","bottom"] [] J6:=by
 refine h.hasMX (ds:=[]) .nil (λf y T F=>F.binds λ_ _ _ _ _ _ n u=>by obtain ⟨_,_,_,rfl⟩:=K8 (show n.length=3 by simpa using u);exact (_,rfl,rfl)) λf y T F=>?_;refine F.okx AJ (λq H Q E h=>?_)<|λC A g s H q Q E o h=>?_
 ·obtain ⟨_,_,_,rfl,_⟩:=h
  rfl
 obtain ⟨M,t,b,rfl,G,lb,k⟩:=h;have m:=AJ.nd;refine (_,(AQ (BX (BK BO (pv 2) Aj<|Bn _) (Az<|Kn c JX rfl (by rfl)<|Ag LD An) BW)
  (AQ (Bv (i:=3) m rfl (Or.inl rfl)<|BJ d o (by rfl)<|Ag (pv 1)<|Ag (pv 2) An)
  (AQ (BX (BK EW (pv 2) Aj<|Bn _) (Az<|Bv (i:=3) m rfl (Or.inl rfl)<|G6 Hj<|pv 3) BW)
  (Az<|A7<|DI<|Ag (Ar Lb (pv 1)<|pv 3)<|Ag (Ar Lb (pv 2)<|pv 3) An)))),?_)
 refine (_,rfl,rfl,_,rfl,?_);refine EI (λz=>absurd z ⋯)<|λ_=>?_;refine (_,rfl,_,rfl,t,b,rfl,?_);refine (_,rfl,_,_,rfl,rfl,_,rfl,?_);refine Ex (λl=>absurd l ⋯)<|λl=>?_;have I:=M3.gcd_ne (a:=t) (b:=b) ⋯;have x:Int.gcd t b<=b.natAbs:=Wm ⋯<|Wo.mpr<|W9 t b;have e:(Int.gcd t b:Int)≠0/\((Int.gcd t b:Int)).natAbs<=10^2650:=(⋯,Q0 (show _<=b.natAbs from x) lb);obtain ⟨v,p,D,J,L⟩:=M3.low (t:=t) G;refine (_,rfl,_,rfl,_,_,rfl,rfl,e,_,rfl,_,rfl,_,_,rfl,rfl,e,(by show 2<=sizeLine;decide),λr j=>?_);exact k r _ _ j (p,v) D
theorem AO:Aa ["self","some","others","ahead","behind","total","one","other"] ["self","some","others"] (Ao Nd):=‹2›
theorem iI(h:Am K CF "sum_of_products" "Fractions.sum_of_products" Nd) (O:BV K CF) (Tz:mg "zip"=none) (hB:AC P w K mg base CF "common_bottom" 2 ["self","some"] [] (Ik K)) (hN:Au P w K mg base CF "number" 2 ["self","top","bottom"] [] J6):AC P w K mg base CF "sum_of_products" 3 ["self","some","others"] [] (Ox CF):=by
 refine h.hasM (λ_ _ F=>F.b3 λ_ _ _ _ _ _ _ _ _=>rfl) λf fd F=>F.ok AO (λvs H Q E h=>?_)<|λa4 A L s H vs Q E hr h=>?_
 ·obtain ⟨_,_,_,_,_,_,_,_,_,rfl,_⟩:=h
  rfl
 obtain ⟨d,r1,r2,xs,ys,b,c,Y,a1,rfl,⟨X,J⟩,R,M,j,g,a3,a2,w1,w2,b0,bl,bd,c0,o,cd,k⟩:=h;have l:=AO.nd;refine (_,(AQ (Bv (i:=3) l rfl (Or.inl rfl)<|L0 (pv 0) hr<|Ag (pv 1) An)
  (AQ (Bv (i:=4) l rfl (Or.inl rfl)<|L0 (pv 0) hr<|Ag (pv 2) An)
  (AQ (Bv (i:=5) l rfl (Or.inl rfl) Aj)
  (AQ (Gz q5 rfl (QP (by rfl) Tz<|Ag (pv 1)<|Ag (pv 2) An) (Ia rfl<|E3 (CA (i:=6) l rfl<|Or.inl rfl)<|E3 (CA (i:=7) l rfl<|Or.inl rfl) HN)<|Az<|Lo (i:=5) l rfl (Or.inl rfl) (Ar BM (Ar BM (Ar BM (AY A6 (pv 6) Aj<|λ_ _=>rfl)<|Ar Lb (pv 3)<|AY A6 (pv 6) Aj<|λ_ _=>rfl)<|AY A6 (pv 7) Aj<|λ_ _=>rfl)<|Ar Lb (pv 4)<|AY A6 (pv 7) Aj<|λ_ _=>rfl) KN)
  (Az<|A7<|P4 (pv 0) HV hr<|Ag (pv 5)<|Ag (Ar BM (pv 3)<|pv 4) An))))),?_)
 have lx:=j.1;have ly:=g.1;have a:∀ {Z:Int},Z.natAbs<=10^2000->Ak 8900 Z:=fun {Z} hz=>Ak.of<|Q5 hz<|Q9 (show 10^2000<2^8000 by decide)<|Q8 ∅ ∅
 refine (_,rfl,d,CF,X,[],_,_,Ik K,rfl,J,O,hB,rfl,_,rfl,d,r1,xs,b,Y,rfl,R,j,b0,a bl,bd,λA ⟨hA,dA,mA⟩=>?_);refine (_,rfl,d,CF,X,[],_,_,Ik K,rfl,J,O,hB,rfl,_,rfl,d,r2,ys,c,a1,rfl,M,g,c0,a<|Q0 o<|Q8 ∅ ∅,cd,λC ⟨hC,dC,mC⟩=>?_);have lA:A.natAbs<=10^2000:=Q0 (GE (mA _ bd) ⋯) bl;have W:C.natAbs<=10^600:=Q0 (GE (mC _ cd) ⋯) o;refine (_,rfl,_,rfl,r1,r2,rfl,(_,AR.of R),(_,AR.of M),?_);refine lB (xs:=xs) (ys:=ys) (λi I n=>∃D G:Option V,I=[some<|.ref d,some<|.ref r1,some<|.ref r2,some<|.int A,some<|.int C,some<|.int<|tS b c A C i,D,G]/\Ad H n) (none,none,rfl,Ad.refl H) ?_ ?_ ?_
 ·rintro i I n ⟨D,G,rfl,S⟩;exact (AR.of<|S _ _ R,AR.of<|S _ _ M)
 ·rintro i u v Tp I n hx hy nT ⟨D,G,rfl,S⟩;obtain ⟨x,B,t,rfl,ht⟩:=j.get hx;obtain ⟨y,m,z,rfl,U⟩:=g.get hy;have ex:b.getD i 0=x:=by rw[Q3,B];rfl
  have ey:c.getD i 0=y:=by rw[Q3,m];rfl
  have hb:=(Cn x).pos;have hd:=(Cn y).pos;obtain ⟨la,lb⟩:=w1 x<|Ql B;obtain ⟨lc,ld⟩:=w2 y<|Ql m;have ST:=Bg nT<|.tup [.ref t,.ref z];refine (Tp,_,rfl,AI.of A4,rfl,_,_,rfl,_,_,rfl,rfl,?_);generalize As n Tp (.tup [.ref t,.ref z])=H3 at *;have T:=S.trans ST;have qt:=AI.of (K:=K)<|T _ _ ht;have qu:=AI.of (K:=K)<|T _ _ U;have eA:A.fdiv (x.den:Int)=A/x.den:=sA _ ⋯;have eC:C.fdiv (y.den:Int)=C/y.den:=sA _ ⋯;have p:(A.fdiv (x.den:Int)).natAbs<=10^2000:=by rw[eA];exact Q0 SJ lA
  have N:(C.fdiv (y.den:Int)).natAbs<=10^600:=by rw[eC];exact Q0 SJ W
  have m1:=Mp la p;have m2:=Mp m1 lc;refine (_,rfl,_,rfl,t,_,_,_,rfl,rfl,qt,rfl,_,rfl,_,rfl,t,_,_,_,rfl,rfl,qt,rfl,_,_,rfl,rfl,((show (x.den:Int)≠0 by omega),Pq (by rw[Qa];exact lb)),_,_,rfl,rfl,Kr (Gf la)<|Gf p,_,rfl,z,_,_,_,rfl,rfl,qu,rfl,_,_,rfl,rfl,Kr (Gf m1)<|Gf lc,_,rfl,_,rfl,z,_,_,_,rfl,rfl,qu,rfl,_,_,rfl,rfl,((show (y.den:Int)≠0 by omega),Pq (by rw[Qa];exact ld)),_,_,rfl,rfl,Kr (Gf m2)<|Gf N,_,_,rfl,rfl,?_);refine (some<|.ref t,some<|.ref z,?_,T);have e:tS b c A C (i+1)=tS b c A C i+x.num*(A.fdiv (x.den:Int))*y.num*(C.fdiv (y.den:Int)):=by
   show tS b c A C i+_=_;rw[ex,ey,eA,eC]
  rw[e]
  rfl
 ·rintro i I n hi ⟨D,G,rfl,S⟩;have hi:i=b.length:=⋯;subst hi;have a0:0<A*C:=Wk hA hC;refine (_,rfl,d,CF,X,[],_,_,J6,rfl,S _ _ J,O,hN,rfl,_,rfl,_,rfl,_,rfl,_,_,rfl,rfl,Kr (Gf lA)<|Gf W,d,_,_,rfl,a0,Pq<|Mp lA W,λr x y nr fc e=>?_);obtain ⟨q,q1,q2⟩:=IA fc;have y0:=fc.pos;have eq:q=GO (κ:=.q) b c:=by
   have t:=RW hA hC dA dC b.length (Q4 _) ⋯;have:q=Rat.divInt (tS b c A C b.length) (A*C):=by
    rw[<-W4 q,q1,q2,Wl ⋯ ⋯];exact e
   exact this.trans t
  refine k _ _ (S.trans<|Bg nr _) (r,rfl,?_);rw[A4,<-eq];show some (HO.tup [V.int x,V.int y])=some (HO.tup [V.int<|Rat.num q,V.int ((Rat.den q:Nat):Int)]);rw[q1,q2]
theorem mQ:Aa ["self","some","others"] ["self","some","others"] (Ao Nr):=‹2›
theorem Zd(h:Am K CR "sum_of_products" "Rests.sum_of_products" Nr) (cl:BV K CR) (X:AU K CR "prime") (Tz:mg "zip"=none) (Ts:mg "sum"=none):AC P w K mg base CR "sum_of_products" 3 ["self","some","others"] [] (LO CR):=by
 refine h.hasM (λ_ _ F=>F.b3 λ_ _ _ _ _ _ _ _ _=>rfl) λf fd F=>F.ok mQ (λZ H Q E h=>?_)<|λa2 A m s H Z Q E hr h=>?_
 ·obtain ⟨_,_,_,_,_,_,_,_,_,rfl,_⟩:=h
  rfl
 obtain ⟨p,l,sr,L,I,xs,ys,C,O,rfl,⟨W,T⟩,N,G,g,e,a0,J,k⟩:=h;refine (_,(Az<|A7<|Ar D0 (Cf (Xs rfl) (by rfl) Ts boot_sum<|Ag (KO ["one","other"] [] rfl (QP (by rfl) Tz<|Ag (pv 1)<|Ag (pv 2) An) (by exact λ_ _ _ _=>(Y0 (n:=2) K rfl rfl<|E3 (CA (i:=0) (show (["one","other"]:List Str).Nodup by decide +kernel) rfl<|Or.inl rfl)<|E3 (CA (i:=1) (show (["one","other"]:List Str).Nodup by decide +kernel) rfl<|Or.inl rfl) HN)) (by exact λ_ _ _ _=>(Ar BM (pv 0)<|pv 1)) trivial) An)<|F8 (pv 0) rfl),?_);have lx:=g.1;have ly:=e.1;have a1:=l.two;refine (_,rfl,_,rfl,L,I,rfl,(_,AR.of N),(_,AR.of G),?_);refine pU (K:=K) (a:=L) (b:=I) (xs:=xs) (ys:=ys) (λi j d=>Ad H d/\∃c:List Int,j=c.map V.int/\(c.sum%p:Int)=((Fin.val (Fk C O i:Fin p):Nat):Int)) ⋯ (Ad.refl H,[],rfl,?_) (λi j d q=>(AR.of<|q.1 _ _ N,AR.of<|q.1 _ _ G)) ?_ ?_
 ·show (0:Int)%p=((Fin.val (K0<|.r p l):Nat):Int);rw[Hs];simp
 ·rintro i u v Tp j d Y hy hl nT ⟨S,c,rfl,B⟩;obtain ⟨x,t,z⟩:=g.get Y;obtain ⟨y,r,o⟩:=e.get hy;have z:=z;have o:=o;subst z o;have ST:=Bg nT<|.tup [.int<|Fin.val (x:Fin p),.int<|Fin.val (y:Fin p)];generalize As d Tp (.tup [.int<|Fin.val (x:Fin p),.int<|Fin.val (y:Fin p)])=H3 at *;refine (_,rfl,_,rfl,_,_,rfl,rfl,Di (FD l x)<|FD l y,S.trans ST,c++[(Fin.val (x:Fin p):Int)*Fin.val (y:Fin p)],by simp,?_);have R:=iT t r;rw[R,Fin.val_add,Fin.val_mul,List.sum_append]
  simp only[List.sum_cons,List.sum_nil,Int.add_zero]
  rw[Int.add_emod,B,U5,Ua,U5,W3,Int.add_emod (Fin.val (Fk C O i:Fin p):Int)]
  first|done|simp
 ·rintro j d hl ⟨S,c,rfl,B⟩ D U;have M:=S.trans<|Bg U<|.lst<|c.map V.int;refine (D,_,rfl,AR.of A4,?_);refine (_,rfl,sr,CR,W,_,_,rfl,M _ _ T,cl,X,GJ p,_,_,rfl,rfl,(show (p:Int)≠0 by omega),?_);refine k _ _ M ?_;rw[Wr _ ⋯,B]
  congr 4
  omega
theorem kN(z:Kd K mg CF CR)(R:AC P w K mg base CF "sum_of_products" 3 ["self","some","others"] [] (Ox CF)) (F:AC P w K mg base CR "sum_of_products" 3 ["self","some","others"] [] (LO CR)):UR P w K mg base CF CR:=by
 intro G H s C
 cases G with
 |q =>
  obtain ⟨c,h⟩:=C;refine (CF,c,[],_,_,_,h,z.clF,R,rfl,rfl,λO l j d o f g D E M N Q S m e n t b a v u x dl y i A B k=>?_);obtain ⟨T,U⟩:=Tl x dl A v;obtain ⟨J,L⟩:=Tl y (Q0 i<|Q8 ∅ ∅) B u;exact (s,l,j,d,o,f,g,(D:Int),(E:Int),rfl,(c,S _ _ h),m,e,n,t,b,a,T,J,⋯,by rw[Qa];exact dl,U,⋯,by rw[Qa];exact i,L,k)
 |r p I =>
  obtain ⟨c,h⟩:=C;exact (CR,c,En p,_,_,_,h,z.clR,F,FQ _ ∅,rfl,λO l j d o f g D E M N Q S m e n t b a v u x dl y i A B k=>(p,I,s,l,j,d,o,f,g,rfl,(c,S _ _ h),m,e,n,t,b,a,k))
end
theorem UZ{κ:KX}{D M:Nat}(b:0<D){x:κ.F}(h:QN κ (D:Int) M x):VL κ (D:Int) x:=by
 cases κ with
 |r p a=>exact trivial
 |q =>
  obtain ⟨X,e,_⟩:=h;have e:=e;rw[e];exact (FZ X (show (0:Int)<(D:Int) by omega)).1
end Lake.My
namespace Lake.My.Rg
open PySem L2 PyProof.Rows
section
variable{α:Type}[Lean.Grind.CommRing α]
theorem OH{j t:Nat}(h:t<j):skip j t=t:=by unfold skip;rw[qK h]
theorem IV{j t:Nat}(h:j<=t):skip j t=t+1:=by unfold skip;rw[qI ⋯]
def lin(x y:α):Ps α:=⟨λn=>if n=0 then x else if n=1 then y else 0⟩
theorem mul_lin(f:Ps α)(x y:α)(n:Nat):(f*lin x y).c n=f.c n*x+(if n=0 then 0 else f.c (n-1)*y):=by
 rw[Ps.c_mul]
 match n with
 |0 =>
  show 0+f.c 0*x=f.c 0*x+0;grind
 |n+1 =>
  show (Sg (λi=>f.c i*(lin x y).c (n+1-i)) n+f.c n*(lin x y).c (n+1-n))+f.c (n+1)*(lin x y).c (n+1-(n+1))=_;have e:Sg (λi=>f.c i*(lin x y).c (n+1-i)) n=Sg (λ_=>(0:α)) n:=Sg_congr λi a=>by
   show f.c i*(if n+1-i=0 then x else if n+1-i=1 then y else 0)=0;rw[qI ⋯,qI ⋯];grind
  rw[e,Sg_zero,show n+1-n=1 by omega,show n+1-(n+1)=0 by omega,qI ⋯,show n+1-1=n by omega];show 0+f.c n*y+f.c (n+1)*x=_;grind
end
end Lake.My.Rg
namespace Lake.My
open PySem L2 PyProof.Rows
end Lake.My
namespace Lake.L2
open PySem PySem.Spec PyProof.Rows
end Lake.L2
namespace Lake.My.Rg
open PySem L2 PyProof.Rows
section
variable{α:Type}[Lean.Grind.CommRing α]
theorem WI(j t:Nat):skip (j+1) (t+1)=skip j t+1:=by
 by_cases h:t<j
 ·rw[OH h,OH ⋯]
 ·rw[IV ⋯,IV ⋯]
theorem Tx(j:Nat):skip (j+1) 0=0:=OH ⋯
theorem Pi:∀ {n:Nat} {a:Nat->Nat->α},det (n+1) a=Sg (λi=>sgn α i*a i 0*det n λt k=>a (skip i t)<|k+1) (n+1)
 |0,a=>by
  show (0:α)+sgn α 0*a 0 0*1=0+sgn α 0*a 0 0*1
  rfl
 |n+1,a=>by
  show Sg (λj=>sgn α j*a 0 j*det (n+1) (λi k=>a (i+1)<|skip j k)) (n+1+1)=_;rw[HZ,HZ<|λi=>sgn α i*a i 0*det (n+1) λt k=>a (skip i t)<|k+1];have z:det (n+1) (λi k=>a (i+1)<|skip 0 k)=det (n+1) λt k=>a (skip 0 t) (k+1):=det_congr λi k _ _=>by rw[IV<|Qe k,IV<|Qe i]
  rw[z]
  congr 1
  have l:∀j,sgn α (j+1)*a 0 (j+1)*det (n+1) (λi k=>a (i+1)<|skip (j+1) k)=Sg (λi=>sgn α (j+1)*a 0 (j+1)*(sgn α i*a (i+1) 0*det n λt k=>a (skip i t+1)<|skip j k+1)) (n+1):=λj=>by
   rw[<-Sg_mul,Pi (n:=n) (a:=λi k=>a (i+1)<|skip (j+1) k)]
   congr 1
   refine Sg_congr λi _=>?_;rw[Tx]
   congr 1
   exact det_congr λt k _ _=>by rw[WI]
  have r:∀i,sgn α (i+1)*a (i+1) 0*det (n+1) (λt k=>a (skip (i+1) t)<|k+1)=Sg (λj=>sgn α (i+1)*a (i+1) 0*(sgn α j*a 0 (j+1)*det n λt k=>a (skip i t+1)<|skip j k+1)) (n+1):=λi=>by
   rw[<-Sg_mul]
   congr 1
   show Sg _ (n+1)=_;refine Sg_congr λj _=>?_;show sgn α j*a (skip (i+1) 0) (j+1)*det n (λt k=>a (skip (i+1)<|t+1)<|skip j k+1)=_;rw[Tx]
   congr 1
   exact det_congr λt k _ _=>by rw[WI]
  rw[Sg_congr<|λj _=>l j,Sg_congr<|λi _=>r i,TF];refine Sg_congr λi _=>Sg_congr λj _=>?_;generalize (det n λt k=>a (skip i t+1)<|skip j k+1)=x;show (0-sgn α j)*a 0 (j+1)*(sgn α i*a (i+1) 0*x)=(0-sgn α i)*a (i+1) 0*(sgn α j*a 0 (j+1)*x);grind
theorem MZ:∀ {n:Nat} {a:Nat->Nat->α},det n (λi j=>a j i)=det n a
 |0,_=>rfl
 |n+1,a=>by
  rw[Pi (a:=a)];exact Sg_congr λj _=>by rw[MZ (n:=n) (a:=λi k=>a (skip j i)<|k+1)]
def dl(α:Type)[Lean.Grind.CommRing α](r k:Nat):α:=if r=k then 1 else 0
theorem gI:∀n,det n (dl α)=1
 |0=>rfl
 |n+1=>by
  show Sg (λj=>sgn α j*dl α 0 j*det n (λi k=>dl α (i+1)<|skip j k)) (n+1)=1;rw[HZ];have c:det n (λi k=>dl α (i+1)<|skip 0 k)=1:=by
   rw[<-gI n];refine det_congr λi k _ _=>?_;rw[IV<|Qe k];unfold dl
   by_cases q:i=k
   ·rw[qK q,qK ⋯]
   ·rw[qI q,qI ⋯]
  have b:Sg (λi=>sgn α (i+1)*dl α 0 (i+1)*det n (λa k=>dl α (a+1)<|skip (i+1) k)) n=Sg (λ_=>(0:α)) n:=Sg_congr λi _=>by
   rw[show dl α 0 (i+1)=0 from qI ⋯];grind
  rw[c,b,Sg_zero,show dl α 0 0=1 from qK rfl];show 1*1*1+0=(1:α);grind
theorem Sg_only{h:Nat->α}{n i:Nat}(b:i<n)(z:∀j,j<n->j≠i->h j=0):Sg h n=h i:=by
 have e:Sg h n=Sg (λl=>h l*(if i=l then 1 else 0)) n:=Sg_congr λj a=>by
  by_cases q:i=j
  ·rw[qK q];grind
  ·rw[qI q,z j a<|λy=>q y.symm];grind
 rw[e,VO,qK b]
end
end Lake.My.Rg
namespace Lake.My
open PySem L2 PyProof.Rows
section
variable{κ:KX}
theorem QN.up{D E:Int}(a:0<D)(b:0<E){M e:Nat}{x:κ.F}(h:QN κ D M x)(c:E.natAbs<=e):QN κ (D*E) (M*e) x:=by
 cases κ with
 |r p f=>exact trivial
 |q =>
  obtain ⟨X,rfl,d⟩:=h;refine (X*E,?_,by rw[Qj];exact Qk d c);rw[Wl ⋯<|Int.ne_of_gt<|Wk a b,Qy,Qx D E]
theorem QN.neg{x:κ.F}(h:QN κ D M x):QN κ D M (0-x):=by
 cases κ with
 |r p a=>exact trivial
 |q =>
  obtain ⟨X,rfl,b⟩:=h;refine (-X,?_,⋯);have:(0-Rat.divInt X D:Rat) = -Rat.divInt X D:=by grind
  rw[this,Rat.neg_divInt]
theorem QN.sub{D:Int}(a:0<D){M N:Nat}{x y:κ.F}(h:QN κ D M x)(g:QN κ D N y):QN κ D (M+N) (x-y):=by
 have e:x-y=x+(0-y):=by grind
 rw[e];exact QN.add a h g.neg
theorem Kf{E N:Nat}(o:0<E)(i:0<N){c:κ.F}(h:QN κ (E:Int) N c)(f:c≠0):∃a:Nat,0<a/\a<=N/\QN κ (a:Int) E (Fd.inv c):=by
 cases κ with
 |r p n=>exact (1,∅,i,trivial)
 |q =>
  obtain ⟨X,e,j⟩:=h;have b:X≠0:=λz=>f (by rw[e,z];exact Rat.zero_divInt _);have m:Rat.divInt X E*Rat.divInt E X=(1:Rat):=by
   rw[rL];have:X*(E:Int)≠0:=Int.mul_ne_zero b ⋯;have g:(1:Rat)=Rat.divInt 1 1:=rfl;have l:(E:Int)*X≠0:=Int.mul_ne_zero ⋯ b;rw[g,Wl l ∅];rw[U2,Wa,Qx]
  have d:Fd.inv c=Rat.divInt E X:=by
   have k:(c:Rat)*Rat.divInt E X=1:=by rw[e];exact m
   exact (Mg (α:=Rat) k).symm
  refine (X.natAbs,⋯,j,?_);show ∃Y:Int,(Fd.inv c:Rat)=Rat.divInt Y (X.natAbs:Int)/\Y.natAbs<=E;rcases Int.lt_or_gt_of_ne b with s|s
  ·refine (-(E:Int),?_,⋯);have:((X.natAbs:Nat):Int) = -X:=⋯;rw[d,this,Wl b ⋯,U8,Int.neg_mul]
  ·refine ((E:Int),?_,⋯);have:((X.natAbs:Nat):Int)=X:=⋯;rw[d,this]
noncomputable def gs(G:Ab κ)(p k:Nat):κ.F:=if p<=k then G.getD (k-p) 0 else 0
theorem BF{F:Ab κ}{k:Nat}(h:F.length<=k):F.getD k 0=0:=by
 rw[Q3,U1 h];rfl
theorem Tw{F G:Ab κ}:∀j:Nat,pI F G i j k=if i<=k/\k<i+j then F.getD i 0*G.getD (k-i) 0 else 0
 |0=>by rw[qI ⋯];rfl
 |j+1=>by
  show pI F G i j k+(if i+j=k then F.getD i 0*G.getD j 0 else 0)=_;rw[Tw j]
  by_cases a:i+j=k
  ·subst a;rw[qI ⋯,qK rfl,qK ⋯,sR];grind
  ·rw[qI a]
   by_cases b:i<=k/\k<i+j
   ·rw[qK b,qK ⋯];grind
   ·rw[qI b,qI ⋯];exact Dk
theorem JU{F G:Ab κ}:pI F G i G.length k=F.getD i 0*gs G i k:=by
 rw[Tw];unfold gs
 by_cases a:i<=k
 ·rw[qK a]
  by_cases b:k<i+G.length
  ·rw[qK (a,b)]
  ·rw[qI ⋯,BF (show G.length<=k-i by omega)];grind
 ·rw[qI ⋯,qI a];grind
theorem RT{G:Ab κ}{m k:Nat}:∀n:Nat,pO (List.replicate m (0:κ.F)) G n k=0
 |0=>rfl
 |n+1=>by
  show pO _ G n k+pI _ G n G.length k=0;have e:(List.replicate m (0:κ.F)).getD n 0=0:=by
   rw[Q3,sQ]
   split <;> rfl
  rw[RT n,JU,e];grind
theorem fU{L:Ab κ}{p i:Nat}{x:κ.F}(hp:p<L.length):(L.set p x).getD i 0=if p=i then x else L.getD i 0:=by
 rw[Q3,Q3,sY]
 by_cases e:p=i
 ·rw[qK e,qK e,qK hp];rfl
 ·rw[qI e,qI e]
theorem RS{L G:Ab κ}{p k:Nat}{x:κ.F}(hp:p<L.length)(a:L.getD p 0=0):∀n:Nat,pO (L.set p x) G n k=pO L G n k+(if p<n then x*gs G p k else 0)
 |0=>by rw[qI ⋯];exact Dk.symm
 |n+1=>by
  show pO (L.set p x) G n k+pI (L.set p x) G n G.length k=(pO L G n k+pI L G n G.length k)+_;rw[RS hp a n,JU,JU,fU hp]
  by_cases e:p=n
  ·subst e;rw[qK rfl,qI ⋯,qK ⋯,a];grind
  ·rw[qI e]
   by_cases l:p<n
   ·rw[qK l,qK ⋯];grind
   ·rw[qI l,qI ⋯];grind
theorem Hv{T:Ab κ}{r:Nat}(h:∀j,r<=j->T.getD j 0=0)(k:Nat):(T.take r).getD k 0=T.getD k 0:=by
 by_cases c:k<r
 ·rw[Q3,Uj,qK c,<-Q3]
 ·rw[h k ⋯,BF (by rw[Qn];omega)]
def Bj(F:Ab κ):Prop:=F.length=0\/F.getD (F.length-1) 0≠0
theorem IT{T:Ab κ}{r:Nat}(a:r<=T.length)(h:r=0\/T.getD (r-1) 0≠0):Bj (T.take r):=by
 have e:(T.take r).length=r:=by rw[Qn];omega
 rcases h with h|h
 ·left;omega
 ·by_cases z:r=0
  ·left;omega
  ·right
   rw[e,Q3,Uj,qK ⋯,<-Q3];exact h
theorem ZV{F G:Ab κ}(d:Bj F)(g:Bj G)(h:∀k,F.getD k 0=G.getD k 0):F=G:=by
 have a:∀ {A B:Ab κ},Bj A->(∀k,A.getD k 0=B.getD k 0)->A.length<=B.length:=by
  intro A B f h;rcases f with z|z
  ·omega
  ·refine Uf λc=>z ?_;rw[h,BF ⋯]
 have l:=Nat.le_antisymm (a d h)<|a g λk=>(h k).symm
 apply List.ext_getElem l
 intro i b e;have:=h i;rw[Q3,Q3,Q6 b,Q6 e] at this;exact this
noncomputable def dI(G:Ab κ)(x:κ.F)(p a:Nat)(R:Ab κ):Ab κ:=(List.range R.length).map λk=>if p<=k/\k<p+a then R.getD k 0-x*G.getD (k-p) 0 else R.getD k 0
theorem Gc(G:Ab κ)(x:κ.F)(p a:Nat)(R:Ab κ):(dI G x p a R).length=R.length:=by unfold dI;simp
theorem Lw{G:Ab κ}{x:κ.F}{R:Ab κ}{k:Nat}(h:k<(dI G x p a R).length):(dI G x p a R)[k]=if p<=k/\k<p+a then R.getD k 0-x*G.getD (k-p) 0 else R.getD k 0:=by simp[dI]
theorem Ol{G:Ab κ}{x:κ.F}{p a:Nat}{R:Ab κ}{k:Nat}(h:p+a<=R.length):(dI G x p a R).getD k 0=if p<=k/\k<p+a then R.getD k 0-x*G.getD (k-p) 0 else R.getD k 0:=by
 by_cases c:k<R.length
 ·have b:k<(dI G x p a R).length:=by rw[Gc];exact c
  rw[Q3,Q6 b];exact Lw b
 ·rw[BF (by rw[Gc];omega),qI ⋯,BF ⋯]
theorem oW(G:Ab κ)(x:κ.F)(p:Nat)(R:Ab κ):dI G x p 0 R=R:=by
 apply List.ext_getElem (by rw[Gc])
 intro k b a;rw[Lw,qI ⋯,Q3,Q6 a];rfl
theorem fH{G:Ab κ}{x:κ.F}{p a:Nat}{R:Ab κ}(h:p+a<R.length):dI G x p (a+1) R=(dI G x p a R).set (p+a) ((dI G x p a R).getD (p+a) 0-x*G.getD a 0):=by
 rw[Ol ⋯,qI ⋯]
 apply List.ext_getElem (by rw[U7,Gc,Gc])
 intro k c d;rw[List.getElem_set,Lw,Lw]
 by_cases e:p+a=k
 ·subst e;rw[qK ⋯,qK rfl,sR]
 ·rw[qI e]
  by_cases b:p<=k/\k<p+a
  ·rw[qK b,qK ⋯]
  ·rw[qI b,qI ⋯]
structure Dv (F G:Ab κ) (t:Nat) (qs R:Ab κ):Prop where
 lq:qs.length=t
 lr:R.length=F.length
 eq:∀k,F.getD k 0=pO (List.replicate (F.length+1-G.length-t) 0++qs.reverse) G (F.length+1-G.length) k+(if k<F.length-t then R.getD k 0 else 0)
 top:∀x,qs[0]?=some x->x=F.getD (F.length-1) 0*Fd.inv (G.getD (G.length-1) 0)
 fst:t=0->R=F
theorem mI(F G:Ab κ):Dv F G 0 [] F:=by
 refine (rfl,rfl,λk=>?_,λx h=>by simp at h,λ_=>rfl);rw[List.reverse_nil,Wu,RT]
 by_cases c:k<F.length-0
 ·rw[qK c];grind
 ·rw[qI c,BF ⋯];exact Dk.symm
theorem fF{F G:Ab κ}{t d p:Nat}{e R:Ab κ}{x:κ.F}(r:G.length=d+1)(s:G.getD d 0≠0)(hp:p+(d+1)+t=F.length)(h:Dv F G t e R)(j:x=R.getD (p+d) 0*Fd.inv (G.getD d 0)):Dv F G (t+1) (e++[x]) (dI G x p d R):=by
 have i:=h.lq;have q:=h.lr;have B:=Fd.mul_inv (G.getD d 0) s;have m:F.length+1-G.length=p+t+1:=⋯;refine (by rw[Qi,i];rfl,by rw[Gc,q],λk=>?_,λy f=>?_,λz=>⋯)
 ·rw[h.eq k,m];have v:List.replicate (p+t+1-(t+1)) (0:κ.F)++(e++[x]).reverse=(List.replicate (p+t+1-t) (0:κ.F)++e.reverse).set p x:=by
   have w:p+t+1-(t+1)=p:=⋯;have A:p+t+1-t=p+1:=⋯;rw[w,A,List.reverse_append,List.replicate_succ',List.append_assoc];rw[List.set_append_right _ _ (by rw[Wv];omega),Wv,Nat.sub_self]
   rfl
  have n:p<(List.replicate (p+t+1-t) (0:κ.F)++e.reverse).length:=by rw[Qi,Wv];omega
  have u:(List.replicate (p+t+1-t) (0:κ.F)++e.reverse).getD p 0=0:=by
   rw[Q3,U3 (by rw[Wv];omega),sQ,qK ⋯];rfl
  rw[v,RS n u,Ol ⋯];have l:p<p+t+1:=⋯
  simp only[l,if_true]
  have g:(if k<F.length-t then R.getD k 0 else 0)=x*gs G p k+(if k<F.length-(t+1) then (if p<=k/\k<p+d then R.getD k 0-x*G.getD (k-p) 0 else R.getD k 0) else 0):=by
   unfold gs
   by_cases a:k<p
   ·rw[qK ⋯,qI ⋯,qK ⋯,qI ⋯];grind
   ·by_cases b:k<p+d
    ·rw[qK ⋯,qK ⋯,qK ⋯,qK ⋯];grind
    ·by_cases c:k=p+d
     ·subst c;rw[qK ⋯,qK ⋯,qI ⋯,sR,j];grind
     ·rw[qI ⋯,qK ⋯,qI ⋯,BF (show G.length<=k-p by omega)];grind
  rw[g];grind
 ·by_cases z:t=0
  ·subst z;have o:=rH.mp i;subst o;have f:=f
   cases f
   rw[j,h.fst rfl,r]
   congr 2
   omega
  ·rw[U3 ⋯] at f;exact h.top y f
theorem ME{F G:Ab κ}{t d:Nat}{a R:Ab κ}(l:G.length=d+1)(g:t=F.length+1-G.length)(h:Dv F G t a R)(k:Nat):F.getD k 0=pO a.reverse G a.reverse.length k+(R.take d).getD k 0:=by
 have e:=h.eq k;have i:=h.lq;have j:=h.lr;rw[<-g,Nat.sub_self] at e;rw[We,i,e];show pO ([]++a.reverse) G t k+_=_;rw[List.nil_append]
 congr 1
 by_cases c:F.length<=d
 ·have f:t=0:=⋯;subst f;rw[Ux ⋯]
  by_cases b:k<F.length-0
  ·rw[qK b]
  ·rw[qI b,BF ⋯]
 ·by_cases b:k<F.length-t
  ·rw[qK b,Q3,Q3,Uj,qK ⋯]
  ·rw[qI b,BF (by rw[Qn];omega)]
end
theorem Gy{n:Nat}(h:n<2^8900):n<2^30000:=Q9 h<|Q8 ∅ ∅
structure Js {κ:KX} (F G:Ab κ) (D E M N:Nat):Prop where
 lF:F.length<=100
 lG:G.length<=100
 tG:Bj G
 qF:∀x∈F,QN κ (D:Int) M x
 qG:∀x∈G,QN κ (E:Int) N x
 d0:0<D
 e0:0<E
 m0:0<M
 n0:0<N
 eN:E<=N
 bD:D*(N*E)^(F.length+1-G.length)<2^8900
 bM:M*(2*(E*N))^(F.length+1-G.length)<2^30000
 bE:E<2^8900
 bN:N<2^8900
structure Iu {κ:KX} (F G:Ab κ) (D E M N a:Nat) (qs R:Ab κ) (r:Nat):Prop where
 dv:Dv F G (F.length+1-G.length) qs R
 lr:r<=(R.take (G.length-1)).length
 r0:∀j,r<=j->(R.take (G.length-1)).getD j 0=0
 r1:r=0\/(R.take (G.length-1)).getD (r-1) 0≠0
 a0:0<a
 aN:a<=N
 qq:∀x∈qs,QN κ ((D*(a*E)^(F.length+1-G.length):Nat):Int) (M*(2*(E*N))^(F.length+1-G.length)) x
 qR:∀x∈R,QN κ ((D*(a*E)^(F.length+1-G.length):Nat):Int) (M*(2*(E*N))^(F.length+1-G.length)) x
section
variable{κ:KX}
theorem Zh{D a E t n:Nat}(b:0<a)(c:0<E)(h:t<=n):D*(a*E)^t<=D*(a*E)^n:=Qq _<|Q8 (Qg b c) h
theorem XB{M E N t n:Nat}(b:0<E)(a:0<N)(h:t<=n):M*(2*(E*N))^t<=M*(2*(E*N))^n:=Qq _<|Q8 (Qg ∅<|Qg b a) h
theorem aR{D a E N n:Nat}(h:a<=N):D*(a*E)^n<=D*(N*E)^n:=Qq _<|sM (W2 _ h) n
theorem QN.upN{D c:Nat}(b:0<D)(a:0<c){M:Nat}{x:κ.F}(h:QN κ (D:Int) M x):QN κ ((D*c:Nat):Int) (M*c) x:=by
 rw[W3];exact QN.up ⋯ ⋯ h ⋯
theorem QN.mulN{D E M N:Nat}{x y:κ.F}(h:QN κ (D:Int) M x)(g:QN κ (E:Int) N y):QN κ ((D*E:Nat):Int) (M*N) (x*y):=by
 rw[W3];exact QN.mul h g
theorem nF{D a E M N t:Nat}(r:0<D)(d:0<a)(k:a<=N)(f:0<E)(j:E<=N){R c g:κ.F}(p:QN κ ((D*(a*E)^t:Nat):Int) (M*(2*(E*N))^t) R)(n:QN κ (a:Int) E c)(o:QN κ (E:Int) N g):QN κ ((D*(a*E)^(t+1):Nat):Int) (M*(2*(E*N))^(t+1)) (R*c)/\QN κ ((D*(a*E)^(t+1):Nat):Int) (M*(2*(E*N))^(t+1)) (R*c*g)/\(∀S:κ.F,QN κ ((D*(a*E)^t:Nat):Int) (M*(2*(E*N))^t) S->QN κ ((D*(a*E)^(t+1):Nat):Int) (M*(2*(E*N))^(t+1)) S/\QN κ ((D*(a*E)^(t+1):Nat):Int) (M*(2*(E*N))^(t+1)) (S-R*c*g)):=by
 have b:0<D*(a*E)^t:=Qg r<|Qw<|Qg d f;have q:D*(a*E)^(t+1)=D*(a*E)^t*(a*E):=by rw[W5,W8]
 have v:M*(2*(E*N))^(t+1)=M*(2*(E*N))^t*(E*N)+M*(2*(E*N))^t*(E*N):=by
  rw[W5,<-W8,<-W8 (M*(2*(E*N))^t) 2,<-Ug]
  congr 1
  omega
 generalize D*(a*E)^t=i at *;generalize M*(2*(E*N))^t=Mt at *;rw[q,v];have l:=QN.mulN p n;have m:=QN.upN (Qg b d) f l;have e:=QN.mulN l o;have s:i*a*E=i*(a*E):=W8 _ _ _;rw[s] at m e;have x:Mt*E*N=Mt*(E*N):=W8 _ _ _;rw[x] at e;have z:Mt*(a*E)<=Mt*(E*N):=Qq _ (by rw[Wj a E];exact Qq _ k);have y:Mt*E*E<=Mt*(E*N):=by rw[W8];exact Qq _<|Qq _ j
 have h:(0:Int)<((i*(a*E):Nat):Int):=by have:=Qg b<|Qg d f;omega
 refine (m.mono ⋯,e.mono ⋯,λS w=>?_);have u:=QN.upN b (Qg d f) w;exact (u.mono ⋯,(QN.sub h u e).mono ⋯)
theorem X6{G R:Ab κ}{x:κ.F}{p a:Nat}(h:∀y∈R,QN κ B M y)(e:∀y∈R,∀j,j<a->QN κ B M (y-x*G.getD j 0)):∀y∈dI G x p a R,QN κ B M y:=λy d=>by
 unfold dI at d;obtain ⟨k,b,rfl⟩:=s8.mp d;have b:=Wq.mp b;have m:=Ql<|E8 b
 by_cases c:p<=k/\k<p+a
 ·rw[qK c];exact e _ m _ ⋯
 ·rw[qI c];exact h _ m
end
end Lake.My
namespace Lake.L2
open PySem PySem.Spec PyProof.Rows
section
variable{X:Cx}
def iK:Jo:=λx y H Q=>∃i j,x = .int i/\y = .int j/\IntMulOk i j/\Q (.int<|i*j) H
theorem Y4:HB X .Mult iK:=by
 intro a s g H x y v u Q I b f h;obtain ⟨i,j,e,c,d,q⟩:=h;subst e;subst c;obtain ⟨t,rfl⟩:=b;obtain ⟨k,rfl⟩:=f;exact PyProof.Rows.imul_int (.int _,H,I.tok _,(_,rfl),q) d
end
end Lake.L2
namespace Lake.My
open PySem L2 PyProof.Rows
theorem EZ{κ:KX}:(1:κ.F)≠0:=λz=>Fd.zne z.symm
section
variable{κ:KX}
abbrev Sr(κ:KX):Type:=Rg.Ps κ.F
noncomputable def sr(F:Ab κ):Sr κ:=⟨λk=>F.getD k 0⟩
theorem AM(F:Ab κ)(k:Nat):(sr F).c k=F.getD k 0:=rfl
theorem Ht:sr ([]:Ab κ)=0:=Rg.Ps.ext λk=>by rw[Rg.Ps.c_zero];rfl
noncomputable def cn(x:κ.F):Sr κ:=sr [x]
theorem CO(x:κ.F)(k:Nat):(cn x).c k=if k=0 then x else 0:=by
 cases k with
 |zero=>rfl
 |succ k=>rfl
theorem QR(x:κ.F):cn x=Rg.Ps.con x:=Rg.Ps.ext λk=>by rw[CO];rfl
theorem DA(x:κ.F)(a:Sr κ)(k:Nat):(cn x*a).c k=x*a.c k:=by rw[QR];exact Rg.Ps.con_mul x a k
theorem CJ:cn (1:κ.F)=1:=by rw[QR];rfl
theorem Ef:cn (0:κ.F)=0:=by rw[QR];rfl
theorem G0(x y:κ.F):cn x*cn y=cn (x*y):=Rg.Ps.ext λk=>by
 rw[DA,CO,CO]
 split
 ·rfl
 ·grind
theorem EK{x:κ.F}(h:x≠0):cn (Fd.inv x)*cn x=1:=by
 rw[G0,show Fd.inv x*x=1 by have:=Fd.mul_inv x h;grind,CJ]
theorem F4{h:Nat->κ.F}{n:Nat}:∀d,(∀i,n<=i->h i=0)->Rg.Sg h (n+d)=Rg.Sg h n
 |0,_=>rfl
 |d+1,e=>by
  show Rg.Sg h (n+d)+h (n+d)=_;rw[F4 d e,e (n+d) ⋯];generalize Rg.Sg h n=s;grind
theorem Nc{F G:Ab κ}:∀n,pO F G n k=Rg.Sg (λi=>F.getD i 0*gs G i k) n
 |0=>rfl
 |n+1=>by
  show pO F G n k+pI F G n G.length k=Rg.Sg _ n+_;rw[Nc n,JU]
theorem G7(F G:Ab κ)(k:Nat):(sr F*sr G).c k=pO F G F.length k:=by
 rw[Nc,Rg.Ps.c_mul];have d:=F4 (h:=λi=>F.getD i 0*gs G i k) (n:=F.length) (k+1-F.length) λi a=>by
  show F.getD i 0*_=0;rw[BF a]; grind
 have c:Rg.Sg (λi=>F.getD i 0*gs G i k) (k+1)=Rg.Sg (λi=>(sr F).c i*(sr G).c (k-i)) (k+1):=Rg.Sg_congr λi a=>by
  show F.getD i 0*gs G i k=F.getD i 0*G.getD (k-i) 0;unfold gs;rw[qK ⋯]
 rw[<-c]
 by_cases h:F.length<=k+1
 ·rw[<-d,show F.length+(k+1-F.length)=k+1 by omega]
 ·have b:=F4 (h:=λi=>F.getD i 0*gs G i k) (n:=k+1) (F.length-(k+1)) λi a=>by
   show F.getD i 0*gs G i k=0;unfold gs;rw[qI ⋯]; grind
  rw[<-b,show k+1+(F.length-(k+1))=F.length by omega]
def Fs(a:Sr κ):Prop:=∃N,∀k,N<=k->a.c k=0
theorem Fs.sr(F:Ab κ):Fs (sr F):=(F.length,λk h=>by rw[AM];exact BF h)
theorem Fs.cn(x:κ.F):Fs (cn x):=Fs.sr [x]
theorem Fs.zero:Fs (0:Sr κ):=(0,λk _=>Rg.Ps.c_zero k)
theorem Fs.one:Fs (1:Sr κ):=by rw[<-CJ];exact Fs.cn 1
theorem Fs.add{a b:Sr κ}(h:Fs a)(g:Fs b):Fs (a+b):=by
 obtain ⟨N,h⟩:=h;obtain ⟨M,g⟩:=g;exact (N+M,λk c=>by rw[Rg.Ps.c_add,h k ⋯,g k ⋯];grind)
theorem Fs.mul{a b:Sr κ}(h:Fs a)(g:Fs b):Fs (a*b):=by
 obtain ⟨N,h⟩:=h;obtain ⟨M,g⟩:=g;refine (N+M,λk c=>?_);rw[Rg.Ps.c_mul,Rg.Sg_congr (g:=λ_=>0) λi d=>?_,Rg.Sg_zero]
 by_cases q:N<=i
 ·rw[h i q];grind
 ·rw[g (k-i) ⋯];grind
theorem Fs.sub{a b:Sr κ}(h:Fs a)(g:Fs b):Fs (a-b):=by
 obtain ⟨N,h⟩:=h;obtain ⟨M,g⟩:=g;exact (N+M,λk c=>by rw[Rg.Ps.c_sub,h k ⋯,g k ⋯];grind)
theorem P7{m:Nat}{d R:Ab κ}{e:Sr κ}(r:d.length=m+1)(top:d.getD m 0=1)(p:R.length<=m)(l:Fs e)(h:sr R=e*sr d):sr R=0:=by
 obtain ⟨N,f⟩:=l;have z:∀n,(∀k,n<=k->e.c k=0)->∀k,e.c k=0:=λn=>by
  induction n with
  |zero=>exact λq k=>q k<|Qe _
  |succ n j =>
   intro q;refine j λk s=>?_
   by_cases ek:k=n
   ·subst ek;have a:(sr R).c (k+m)=0:=by rw[AM];exact BF ⋯
    rw[h,Rg.Ps.c_mul] at a;have o:Rg.Sg (λi=>e.c i*(sr d).c (k+m-i)) (k+m+1)=Rg.Sg (λi=>e.c i*(sr d).c (k+m-i)) (k+1):=by
     have:=F4 (h:=λi=>e.c i*(sr d).c (k+m-i)) (n:=k+1) m λi b=>by
      show e.c i*_=0;rw[q i b];grind
     rw[<-this,show k+1+m=k+m+1 by omega]
    rw[o] at a;have c:Rg.Sg (λi=>e.c i*(sr d).c (k+m-i)) (k+1)=Rg.Sg (λ_=>0) k+e.c k*(sr d).c (k+m-k):=by
     show Rg.Sg _ k+_=_
     congr 1
     refine Rg.Sg_congr λi b=>?_;rw[AM,BF ⋯];grind
    rw[c,Rg.Sg_zero,AM,show k+m-k=m by omega,top] at a;grind
   ·exact q k ⋯
 have g:e=0:=Rg.Ps.ext λk=>by rw[z N f k,Rg.Ps.c_zero]
 rw[h,g];grind
theorem KA{F:Ab κ}(t:Bj F)(h:sr F=0):F=[]:=ZV t (.inl rfl) λk=>by
 rw[<-AM,h,Rg.Ps.c_zero];rfl
theorem F7{F:Ab κ}(t:Bj F)(h:F.length≠0):F.getD (F.length-1) 0≠0:=t.resolve_left h
theorem mem_getD{F:Ab κ}{x:κ.F}(h:x∈F):∃k,k<F.length/\x=F.getD k 0:=by
 obtain ⟨k,a,e⟩:=List.getElem_of_mem h;exact (k,a,by rw[Q3,Q6 a,e];rfl)
theorem Dm{F:Ab κ}(h:∀x∈F,QN κ D M x)(k:Nat):QN κ D M (F.getD k 0):=by
 by_cases q:k<F.length
 ·refine h _ ?_;rw[Q3,Q6 q];exact W7 _
 ·rw[BF ⋯];exact QN.zero
theorem Kg{F G:Ab κ}{D E:Int}(a:0<D*E)(b:∀x∈F,QN κ D M x)(c:∀x∈G,QN κ E N x)(k:Nat):QN κ (D*E) (F.length*(G.length*(M*N))) ((sr F*sr G).c k):=by
 rw[G7];exact NH a b c F.length k<|Q4 _
theorem TM{x:κ.F}{G:Ab κ}(a:QN κ D M x)(b:∀y∈G,QN κ E N y)(k:Nat):QN κ (D*E) (M*N) ((cn x*sr G).c k):=by
 rw[DA,AM];exact a.mul<|Dm b k
end
end Lake.My
namespace Lake.L2
open PySem PySem.Spec PyProof.Rows
end Lake.L2
namespace Lake.My
open PySem L2 PyProof.Rows
structure Pc (K:Ac) (mg:Ai) (CP:Addr):Prop where
 cl:BV K CP
 nU:AU K CP "under"
 m:mg "Polys"=some (.ref CP)
section
variable{κ:KX}
theorem V8(f g:Ab κ):∀n,Fk f g n=Rg.Sg (λi=>f.getD i 0*g.getD i 0) n
 |0=>rfl
 |n+1=>by
  show Fk f g n+_=Rg.Sg _ n+_;rw[V8 f g n]
theorem T0(h:Nat->κ.F)(st:Nat):∀m,Rg.Sg h (st+m)=Rg.Sg h st+Rg.Sg (λi=>h<|st+i) m
 |0=>by
  show Rg.Sg h st=Rg.Sg h st+0;generalize Rg.Sg h st=s;grind
 |m+1=>by
  show Rg.Sg h (st+m)+h (st+m)=Rg.Sg h st+(Rg.Sg _ m+h (st+m));rw[T0 h st m];generalize Rg.Sg h st=s;generalize Rg.Sg (λi=>h<|st+i) m=t;grind
theorem aI{f g:Ab κ}{pl st b:Nat}(m:st=pl+1-g.length)(o:b=min (pl+1) f.length)(h:st<=b):GO ((f.drop st).take<|b-st) ((List.range<|b-st).map λi=>g.getD (pl-(st+i)) 0)=(sr f*sr g).c pl:=by
 have l:((f.drop st).take<|b-st).length=b-st:=by rw[Qn,W6]; omega
 unfold GO;rw[l,V8,Rg.Ps.c_mul];have e:Rg.Sg (λi=>((f.drop st).take<|b-st).getD i 0*((List.range<|b-st).map λi=>g.getD (pl-(st+i)) 0).getD i 0) (b-st)=Rg.Sg (λi=>f.getD (st+i) 0*g.getD (pl-(st+i)) 0) (b-st):=Rg.Sg_congr λi a=>by
  congr 1
  ·rw[Q3,Uj,qK a,rP,Q3]
  ·rw[Q3,Q7,Ww a]; rfl
 rw[e];have c:=T0 (λi=>f.getD i 0*g.getD (pl-i) 0) st<|b-st;have k:Rg.Sg (λi=>f.getD i 0*g.getD (pl-i) 0) st=0:=by
  rw[Rg.Sg_congr (g:=λ_=>(0:κ.F)) λi a=>?_,Rg.Sg_zero];rw[BF (F:=g) ⋯]; grind
 have j:=F4 (h:=λi=>f.getD i 0*g.getD (pl-i) 0) (n:=b)<|pl+1-b;rw[k,show st+(b-st)=b by omega] at c;show _=Rg.Sg (λi=>f.getD i 0*g.getD (pl-i) 0) (pl+1)
 by_cases q:pl+1<=f.length
 ·rw[show pl+1=b by omega,c]
  generalize Rg.Sg (λi=>f.getD (st+i) 0*g.getD (pl-(st+i)) 0) (b-st)=s;grind
 ·have d:=j λi a=>by
   rw[BF (F:=f) ⋯]; grind
  rw[show b+(pl+1-b)=pl+1 by omega] at d;rw[d,c];generalize Rg.Sg (λi=>f.getD (st+i) 0*g.getD (pl-(st+i)) 0) (b-st)=s;grind
noncomputable def HR(F G:Ab κ):Ab κ:=List.zipWith (· + ·) F G++F.drop (min F.length G.length)++G.drop (min F.length G.length)
theorem Yk(F G:Ab κ)(k:Nat):(HR F G).getD k 0=F.getD k 0+G.getD k 0:=by
 unfold HR;have a:(List.zipWith (· + ·) F G).length=min F.length G.length:=List.length_zipWith ..
 by_cases h1:k<min F.length G.length
 ·rw[List.append_assoc,Q3,U3 ⋯,List.getElem?_zipWith,Q6 (show k<F.length by omega),Q6 (show k<G.length by omega),Q3,Q6 (show k<F.length by omega),Q3,Q6 (show k<G.length by omega)]
  rfl
 ·rcases Nat.le_total F.length G.length with q|q
  ·rw[Nat.min_eq_left q,sP,Wu,Q3,Ue ⋯,rP,a,Nat.min_eq_left q,show F.length+(k-F.length)=k by omega,<-Q3,BF (F:=F) ⋯];generalize G.getD k 0=z;grind
  ·rw[Nat.min_eq_right q,sP,Wu,Q3,Ue ⋯,rP,a,Nat.min_eq_right q,show G.length+(k-G.length)=k by omega,<-Q3,BF (F:=G) ⋯];generalize F.getD k 0=z;grind
theorem Xh(F G:Ab κ):(HR F G).length=max F.length G.length:=by
 unfold HR;rw[Qi,Qi,List.length_zipWith,W6,W6];omega
end
inductive HC (CP:Addr) (vs:List V) (H:Hp) (Q:VK) (zE:XK):Prop
 |mk (x dx k:Addr) (_:vs=[.ref x,.ref k]) (_:H x=some (.ins CP dx [])) (_:Q .non (As H x (.ins CP dx [("under", .ref k)]))):HC CP vs H Q zE
section
variable{κ:KX}
noncomputable def AN(x:κ.F):Nat->κ.F
 |0=>1
 |n+1=>AN x n*x
theorem OY{x:κ.F}{D M:Nat}(h:QN κ (D:Int) M x):∀n,QN κ ((D^n:Nat):Int) (M^n)<|AN x n
 |0=>Bc
 |n+1=>by
  have:=(OY h n).mul h;rw[W5,W5,W3];exact this
theorem GB{x:κ.F}(h:x≠0):∀n,AN x n≠0
 |0=>λz=>Fd.zne z.symm
 |n+1=>λz=>by
  have a:=Fd.mul_inv x h;refine GB h n ?_;have z:AN x n*x=0:=z;generalize AN x n=y at *;generalize Fd.inv x=i at *;have:y=y*x*i:=by grind
  rw[this,z];grind
theorem F0{x y:κ.F}(b:x≠0)(a:y≠0):x*y≠0:=λz=>by
 have c:=Fd.mul_inv y a;refine b ?_;generalize Fd.inv y=i at *;have:x=x*y*i:=by grind
 rw[this,z];grind
theorem Ph{x:κ.F}(b:x≠0):Fd.inv x≠0:=λz=>by
 have a:=Fd.mul_inv x b;rw[z] at a;exact Fd.zne (show (1:κ.F)=0 by rw[<-a];grind).symm
theorem GH{D:Nat}{x:κ.F}(h:QN κ (D:Int) M x)(c:0<D)(a:D<2^8900)(b:M<2^30000):B1 κ x:=h.b1 ⋯ (by rw[Qa];exact a) b
theorem VS{Q L:Ab κ}{n k:Nat}(h:Q.length<=n):(sr Q*sr L).c k=Rg.Sg (λi=>Q.getD i 0*gs L i k) n:=by
 rw[G7,Nc];have:=F4 (h:=λi=>Q.getD i 0*gs L i k) (n:=Q.length) (n-Q.length) λi a=>by
  rw[BF a];grind
 rw[<-this,show Q.length+(n-Q.length)=n by omega]
theorem eD{L:Ab κ}(h:∀x∈L,QN κ D M x)(i k:Nat):QN κ D M (gs L i k):=by
 unfold gs
 split
 ·exact Dm h _
 ·exact QN.zero
end
theorem SA{κ:KX}{F:Ab κ}{D M:Nat}(m:0<D)(h:J9 κ F A)(q:∀x∈F,QN κ (D:Int) M x){y:κ.F}(b:Cq κ A y):y≠0/\QN κ 1 D y/\∀x∈F,QN κ 1 M (y*x):=by
 cases κ with
 |r p o =>
  have h:=h;subst h;have e:=b.uniq FC;exact (by rw[e];exact EZ (κ:=.r p o),trivial,λ_ _=>trivial)
 |q =>
  obtain ⟨w,k,t⟩:=h;have u:=t D λx a=>by
   obtain ⟨X,e,_⟩:=q x a;have e:=e;rw[e];exact (FZ X ⋯).1
  have i:A.natAbs<=D:=by
   have:=Int.le_of_dvd ⋯ u;omega
  have d:y=Rat.divInt A 1:=by
   rw[<-W4 y,b.1,b.2];rfl
  refine (λz=>?_,(A,d,i),λx a=>?_)
  ·have z:=z;have:=b.1;rw[z] at this;have:(0:Int)=A:=this;omega
  ·obtain ⟨X,e,l⟩:=q x a;have e:=e;obtain ⟨c,g⟩:=k x a;have B:0<c:=by
    have:(0:Int)<(x.den:Int):=by have:=x.den_pos;omega
    refine Int.lt_of_not_ge λz=>?_;have:=sB (Int.le_of_lt this) z;omega
   refine (c*x.num,?_,?_)
   ·rw[d]
    conv=>lhs;rw[<-W4 x]
    have v:(x.den:Int)≠0:=by have:=x.den_pos;omega
    rw[rL,Wl ⋯ ∅,g];grind
   ·have j:=OZ X (show 0<(D:Int) by omega);rw[<-e] at j;have s:(c*x.num)*(D:Int)=X*A:=by
     rw[Qy,j,g];grind
    have n:(c*x.num).natAbs*D=X.natAbs*A.natAbs:=by
     have:=qW Int.natAbs s;rw[Qj<|c*x.num,Qj X,Qa] at this;exact this
    have f:=Qk l i;rw[<-n] at f;exact Nat.le_of_mul_le_mul_right f m
end Lake.My
namespace Lake.Zp
open My
open PySem L2 PyProof.Rows
variable{Z:Zc}{X:Cx}{P:Program}{w:World}{K:Ac}{mg:Ai}{base:Heap}
theorem Ku{α:Type}{f:α->PV}(g:List α)(r:Nat):Da (g.map f) none (some (r:Int))=(g.take r).map f:=by
 unfold Da HT.sIx
 simp only[Q1]
 rw[qI ⋯,List.drop_zero,List.map_take,U6,Ui,Nat.min_def]
 split
 ·rfl
 ·rw[Ux (by rw[Q1];exact Q4 _),Ux (by rw[Q1];omega)]
theorem E4{κ:KX}{g:Ab κ}{i:Nat}(h:i<g.length):CC (g.map<|num κ) (i:Int)=some (num κ<|g.getD i 0):=FO (by rw[Q7,Q6 h,Q3,Q6 h];rfl)
theorem Cb{κ:KX}(g:Ab κ):(g.map<|num κ).length=g.length:=Q1 _
theorem Jy{κ:KX}{g:Ab κ}{d:Nat}(h:g.length=d+1):CC (g.map<|num κ) (-1)=some (num κ<|g.getD d 0):=by
 have:=E4 (κ:=κ) (g:=g) (i:=d) ⋯;unfold CC at this ⊢;rw[Cb,h] at this ⊢;have a:DE (d+1) (d:Int)=some d:=LJ ⋯;have b:DE (d+1) (-1)=some d:=by unfold DE;rw[qI ⋯,qK ⋯];congr 1;omega
 rw[a] at this;rw[b];exact this
inductive Ba (c:List PV->PV):ZF
 |mk {Q:AH} {κ:KX} {g:Ab κ} (q:∀r,r<=g.length->(∀j,r<=j->g.getD j 0=0)->(r=0\/g.getD (r-1) 0≠0)->Q (c ((g.take r).map (num κ)))):Ba c [.kd κ,nums κ g] Q
abbrev HG:ZF:=Ba .lst
theorem C3:Aa ["kind","numbers","count"] ["kind","numbers"] (Ao Nj):=‹2›
theorem z_trimmedF(h:Ae K mg "trimmed" Nj) (T:Nm mg) (n:Mt P w K mg base Z zKd "is_nought" 2 Snz):Fn P w K mg base Z "trimmed" 3 (Ba .fr):=by
 have d:=C3.nd;refine Cg h C3 (λ_ _ _ _ _ _ _ p =>
  Ap (AE 2 d<|Ci T.len<|qv 1)
  (Ap (Hg [] (Hc (Ch Eu lb (qv 2) Ah)<|HX<|Fv<|Bh n (qv 0)<|By<|A8 (qv 1)<|AA Cu li (qv 2) Ah).t<|AK<|Lq 2 SQ d Ah)
  (AK<|Bk<|nX 0<|GN (qv 1) GV<|F6<|qv 2))) ?_
 rintro _ Q ⟨q⟩
 rename_i a g
 refine (λm l=>m<=g.length/\l=[some<|.val<|.kd a,some<|.val<|nums a g,some<|.val<|.int m]/\∀j,m<=j->g.getD j 0=0,g.length,(Q4 _,by rw[<-Q1 (num a)],λj f=>BF f),?_);rintro m _ ⟨o,rfl,k⟩;have c:(m=0\/g.getD (m-1) 0≠0)->Q (.fr<|Da (g.map<|num a) none<|some (m:Int)):=λz=>by rw[Ku g m]; exact q m o k z
 refine br (λz=>?_) λz=>c<|.inl ⋯;have z:=z;refine (num a<|g.getD (m-1) 0,by rw[show (m:Int)-1=((m-1:Nat):Int) by omega]; exact E4 ⋯,⟨λb i=>?_⟩)
 cases b with
 | true=>exact (m-1,⋯,⋯,by rw[show ((m-1:Nat):Int)=m-1 by omega],λj f=>by
  by_cases e:j=m-1
  ·rw[e]; exact i.mp rfl
  ·exact k j ⋯)
 | false=>exact c (.inr λe=>by cases i.mpr e)
theorem z_trimmed{k:Nat}(h:Fn P w K mg base Z "trimmed" k (Ba .fr)):Fn P w K mg base Z "trimmed" k HG:=Tg h (λd A B f ⟨q⟩=>⟨λr a b c=>f _<|q r a b c⟩) λd Q ⟨q⟩=>⟨q⟩
inductive L6:ZF
 |mk {Q:AH} {κ:KX} {c:κ.F} {f:Ab κ} (bc:B1 κ c) (bf:∀x∈f,B1 κ x) (lf:f.length<=1000) (q:Q (nums κ (f.map (c * ·)))):L6 [.kd κ,num κ c,nums κ f] Q
theorem mget{α a:Type}{f:α->a}{l:List α}{i:Nat}{p:a}(h:(l.map f)[i]?=some p):∃x,l[i]?=some x/\p=f x:=by
 rw[Q7] at h
 cases e:l[i]? with
 |none=>rw[e] at h;cases h
 |some x=>rw[e] at h;exact (x,rfl,(rA h).symm)
theorem kM:Aa ["kind","number","row"] ["kind","number","row"] (Ao Ov):=‹2›
theorem z_scaled_row(h:Ae K mg "scaled_row" Ov) (e:Mt P w K mg base Z zKd "times" 2 (S2 λ_ x y=>x*y)):Fn P w K mg base Z "scaled_row" 3 L6:=by
 refine Cg h kM (λ_ _ _ _ _ _ _ g =>
  AK (Bk<|QL.toE<|Gh "each" [(0,"kind"),(1,"number")] (ED<|qv 2) (by exact λ_ _ _ _=>Bh e (qv 1)<|Aw (qv 2)<|qv 0))) ?_
 rintro _ Q ⟨d,c,f,q⟩;refine (_,(by simp),(by simpa using f),λi p b=>?_,q);obtain ⟨y,a,rfl⟩:=mget b;exact (d,c y<|Ql a,by simp[a])
variable{cF:Addr}
abbrev tab(κ:KX)(R:MW κ):PV:=.lst<|R.map<|nums κ
theorem P2{FU c:Sp}(v:Kd K mg Z.f Z.r)(D:Au P w K mg base Z.f m k i b FU)(z:Au P w K mg base Z.r m k g d c)(E:Eo S)
 (s:∀H O a vs ws Q,G4 Z.f H a->Gd Z (hide O H)->Ls O H->Af Z (hide O H) vs ws->S (.kd .q::vs) (Up Z O H Q)->FU (.ref a::(ws++b)) H Q E0)
 (j:∀(p:Nat) (hp:BB p) H O a vs ws Q,Gn Z.r (p:Int) H a->Gd Z (hide O H)->Ls O H->Af Z (hide O H) vs ws->S (.kd (.r p hp)::vs) (Up Z O H Q)->c (.ref a::(ws++d)) H Q E0) (C:¬m = "prime" := by decide):Mt P w K mg base Z zKd m k S :=
 (E,G2,Hd,λp x H O r A=>by
  obtain ⟨B,rfl⟩:=GT A;have u:=Kz r;obtain ⟨a,rfl,y⟩:=Gj r
  cases B with
  | q =>
   obtain ⟨e,h⟩:=y;exact (a,Z.f,e,[],i,b,FU,rfl,h,v.clF,D,rfl,λt vs ws Q f n l o=>s t O a vs ws Q (e,f _ _ h) (u.same<|Ct f) n l o)
  | r p hp =>
   obtain ⟨e,h⟩:=y;exact (a,Z.r,e,En p,g,d,c,rfl,h,v.clR,z,FQ _ C,λt vs ws Q f n l o=>j p hp t O a vs ws Q (e,f _ _ h) (u.same<|Ct f) n l o))
theorem Jj{κ:KX}:∀ {f:Ab κ} {us:List V},Af Z (hide O H) (f.map<|num κ) us->AT (NR κ H) us f:=fun {f us} h=>(by have:=h.len;rw[Q1] at this;exact this,λi v x c b=>by
 obtain ⟨u,a,r⟩:=h.get (show (f.map<|num κ)[i]?=some (num κ x) by rw[Q7,b];rfl);rw[c] at a;cases a;exact D5 r)
inductive IJ:ZF
 |mk {Q:AH} {κ:KX} {f g:Ab κ} {D E M N:Nat} (l:f.length=g.length) (l9:f.length<=100) (qf:∀x∈f,QN κ (D:Int) M x) (qg:∀x∈g,QN κ (E:Int) N x) (d0:0<D) (d1:D<=10^2000) (e0:0<E) (e1:E<=10^600) (m1:M<=10^3000) (n1:N<=10^3000) (q:Q (num κ (GO f g))):IJ [.kd κ,nums κ f,nums κ g] Q
theorem mt_dot(h:UR P w K mg base Z.f Z.r):Mt P w K mg base Z zKd "sum_of_products" 3 IJ :=
 (λm A B f ⟨a1,a2,D,a4,R,a6,W,a8,a9,g,q⟩=>(a1,a2,D,a4,R,a6,W,a8,a9,g,f _ q),G2,Hd,λp x H O r G=>by
  obtain ⟨k,rfl⟩:=GT G;obtain ⟨a,rfl,hk⟩:=Gj r;obtain ⟨C,N,fs,m,a0,T,S,c2,y,c4,rfl,I⟩:=h k H a hk;refine (a,C,N,fs,m,_,T,rfl,S,c2,y.toX,c4,λH1 i ws Q S1 L1 r1 o=>?_);generalize e:PV.kd k::i=l at o;obtain ⟨l,J,z,s,U,d1,e0,e1,m1,L,q⟩:=o
  cases e
  obtain ⟨u,v,rfl,j,d⟩:=r1.two;obtain ⟨b,F,rfl,hb,rb⟩:=Db j;obtain ⟨c,i,rfl,Y,M⟩:=Db d;exact I H1 b c F i _ _ _ _ _ _ Q S1 (hide_le _ _ hb) (hide_le _ _ Y) (Jj rb) (Jj M) l J z s U d1 e0 e1 m1 L λE t S2 n=>q t E S2<|E9 (L1.same S2) n)
inductive Sbot:ZF
 |mk {Q:AH} {κ:KX} {f:Ab κ} (B:Int) (b0:0<B) (b1:Ak 8900 B) (dv:∀x∈f,VL κ B x) (q:∀A:Int,J9 κ f A->Q (.int A)):Sbot [.kd κ,nums κ f] Q
theorem mt_bot(v:Kd K mg Z.f Z.r)(t:AC P w K mg base Z.f "common_bottom" 2 ["self","some"] [] (Ik K)) (o:AC P w K mg base Z.r "common_bottom" 2 ["self","some"] [] Ma):Mt P w K mg base Z zKd "common_bottom" 2 Sbot:=by
 refine P2 v t.toX o.toX (λz A B f ⟨b,g,d,c,q⟩=>(b,g,d,c,λA h=>f _<|q A h)) (λH O a i y Q _ _ _ r s=>?_) λp x H O a i y Q _ _ _ r s=>?_
 ·generalize e:PV.kd .q::i=l at s;obtain ⟨B,g,d,c,q⟩:=s
  cases e
  obtain ⟨u,rfl,j⟩:=r.one;obtain ⟨b,k,rfl,m,n⟩:=Db j;exact (a,b,k,_,B,rfl,hide_le _ _ m,Jj n,g,d,c,λA h=>q A h _ H BI rep_i)
 ·generalize e:PV.kd (.r p x)::i=l at s;obtain ⟨B,g,d,c,q⟩:=s
  cases e
  obtain ⟨u,rfl,j⟩:=r.one;obtain ⟨b,k,rfl,m,n⟩:=Db j;exact (a,b,rfl,q 1 rfl _ H BI rep_i)
variable{cN:Addr}
theorem Il{α:Type}{f:α->PV}(g:List α)(r:Nat):Da (g.map f) (some (r:Int)) none=(g.drop r).map f:=by
 unfold Da HT.sIx
 simp only[Q1]
 rw[qI ⋯,Ui,List.map_drop,Ux (by rw[W6,Q1];exact Q4 _),Nat.min_def]
 split
 ·rfl
 ·rw[List.drop_of_length_le (by rw[Q1];exact Q4 _),List.drop_of_length_le (by rw[Q1];omega)]
theorem cT{α:Type}{f:α->PV}(g:List α){a b:Nat}(h:a<=b)(l:b<=g.length):Da (g.map f) (some (a:Int)) (some (b:Int))=((g.drop a).take<|b-a).map f:=by
 unfold Da HT.sIx
 simp only[Q1]
 rw[qI ⋯,qI ⋯,Ui,Ui,Nat.min_eq_left l,Nat.min_eq_left ⋯,List.map_take,List.map_drop]
inductive Pg:ZF
 |mk {Q:AH} {κ:KX} {f g:Ab κ} {pl D E M N:Nat} (lp:pl+2<=f.length+g.length) (l9:f.length<=90) (g9:g.length<=90) (qf:∀x∈f,QN κ (D:Int) M x) (qg:∀x∈g,QN κ (E:Int) N x) (d0:0<D) (d1:D<=10^2000) (e0:0<E) (e1:E<=10^600) (m1:M<=10^3000) (n1:N<=10^3000) (q:Q (num κ ((sr f*sr g).c pl))):Pg [.kd κ,nums κ f,nums κ g,.int (pl:Int)] Q
theorem Bt:Aa ["kind","some","others","place","start","bound"] ["kind","some","others","place"] (Ao OO):=‹2›
theorem z_product_number(h:Ae K mg "product_number" OO) (T:Nm mg) (m:mg "max"=none) (l:mg "min"=none) (k:Mt P w K mg base Z zKd "sum_of_products" 3 IJ):Fn P w K mg base Z "product_number" 4 Pg:=by
 have t:=Bt.nd;refine Cg h Bt (λ_ _ _ _ _ _ _ U =>
  (Ap (AE 4 t<|YR m Ah<|AA Bw li (AA Cu li (qv 3)<|Ci T.len<|qv 2) Ah)
  (Ap (AE 5 t<|bC l (AA Bw li (qv 3) Ah)<|Ci T.len<|qv 1)
  (AK<|Bk<|Bh k (qv 0)<|Aw (QL.toE<|GN (qv 1) (F6<|qv 4)<|F6<|qv 5)<|QL.toE<|Gh "each" [(2,"others"),(3,"place")] (Oi T.range (qv 4)<|qv 5) (by exact λ_ _ _ _=>(A8 (qv 1)<|AA Cu li (qv 2)<|qv 0)))))) ?_
 rintro _ Q ⟨W,L,S,y,v,F,J,G,H,I,z,q⟩
 rename_i d f g c D E M N
 have O:=Cb f;have R:=Cb g;obtain ⟨a,est,hst⟩:∃a:Nat,(if (c:Int)-((g.map<|num d).length:Int)+1>0 then (c:Int)-((g.map<|num d).length:Int)+1 else 0)=(a:Int)/\a=c+1-g.length:=(c+1-g.length,by split <;> omega,rfl);obtain ⟨b,eb,hb⟩:∃b:Nat,(if ((f.map<|num d).length:Int)<(c:Int)+1 then ((f.map<|num d).length:Int) else (c:Int)+1)=(b:Int)/\b=min (c+1) f.length:=(min (c+1) f.length,by split <;> omega,rfl);have u:a<=b:=⋯;have n:IJ [.kd d,.lst<|Da (f.map<|num d) (some (a:Int))<|some (b:Int),nums d<|(List.range<|b-a).map λi=>g.getD (c-(a+i)) 0] Q:=by
  rw[cT f u ⋯];have s:((f.drop a).take<|b-a).length=b-a:=by rw[Qn,W6];omega
  refine (by rw[s,Q1,Qu],⋯,λx o=>y x<|List.mem_of_mem_drop<|List.mem_of_mem_take o,λx o=>?_,F,J,G,H,I,z,by rw[aI hst hb u];exact q);obtain ⟨i,A,rfl⟩:=s8.mp o;exact Dm v _
 have e:(-(2^62)<=(a:Int)/\(a:Int)<2^62 /\ -(2^62)<=(b:Int)/\(b:Int)<2^62)/\DP (Gu a ((b:Int)-a).toNat) (λp C=>ER G8 (zV 1) (ER (Fh λi j => .int<|i-j) (zV 2)<|zV 0) [some<|.val p,some<|.val<|nums d g,some<|.val<|.int c] C) (λr=>IJ [.kd d,.lst<|Da (f.map<|num d) (some (a:Int))<|some (b:Int),.lst r] Q):=by
  refine (⋯,_,by rw[DF,Q1,Q1,Qu];omega,by rw[DF];omega,λi p B=>?_,n);obtain ⟨A,rfl⟩:=EQ B;refine (_,by rw[show (c:Int)-((a:Int)+(i:Int))=((c-(a+i):Nat):Int) by omega];exact E4 ⋯,?_);rw[Q7,Q7,Ww ⋯];rfl
 rw[<-est,<-eb] at e;exact e
inductive S_divided:ZF
 |mk {Q:AH} {κ:KX} {F G:Ab κ} {D E M N:Nat} (di:Js F G D E M N) (g0:0<G.length) (q:∀a qs R r,Iu F G D E M N a qs R r->Q (.tup [nums κ qs.reverse,nums κ ((R.take (G.length-1)).take r)])):S_divided [.kd κ,nums κ F,nums κ G] Q
theorem C8:Aa ["kind","f","g","degree","back","rest","quotient","place","factor","above"] ["kind","f","g"] (Ao Pu):=‹2›
theorem z_divided(h:Ae K mg "divided" Pu) (T:Nm mg) (Tr:mg "reversed"=none) (m:Mt P w K mg base Z zKd "back" 4 Hx) (f:Mt P w K mg base Z zKd "times" 4 (S2 λ_ x y=>x*y)) (l:Mt P w K mg base Z zKd "minus" 4 (S2 λ_ x y=>x-y)) (g:Fn P w K mg base Z "trimmed" 4 HG):Fn P w K mg base Z "divided" 5 S_divided:=by
 have p:=C8.nd;refine Cg h C8 (λ_ _ _ _ _ _ _ hr =>
  (Ap (El (Ch BO D9 (Ci T.len<|qv 2) Ah) (AK lH) DM)
  (Ap (AE 3 p<|AA Cu li (Ci T.len<|qv 2) Ah)
  (Ap (AE 4 p<|Bh m (qv 0)<|By<|A8 (qv 2)<|D6 Ah)
  (Ap (Hi 5 p<|WT T.list<|qv 1)
  (Ap (Hi 6 p<|Cs EM)
  (Ap (D3 [7,8,9] (Yh T.range (AA Cu li (Ci T.len<|qv 1)<|Ci T.len<|qv 2) (D6 Ah)<|D6 Ah) (Eg 7 p)<|Ap (AE 8 p<|Bh f (qv 0)<|Aw (La 5<|AA Bw li (qv 7)<|qv 3)<|qv 4)
   (Ap (D3 [9] (GD T.range<|qv 3) (Eg 9 p)<|AK<|dS 5 (Bh l (qv 0)<|Aw (La 5<|AA Bw li (qv 7)<|qv 9)<|Bh f (qv 0)<|Aw (qv 8)<|A8 (qv 2)<|qv 9)<|AA Bw li (qv 7)<|qv 9)
   (AK<|Iv 6<|qv 8)))
  (AK<|Jr 6<|Bk<|CH<|Aw (QL.toE<|lZ T.list Tr<|qv 6)<|AD g<|Aw (qv 0)<|QL.toE<|mL 5 GV<|F6<|qv 3)))))))) ?_
 rintro _ Q ⟨c,g0,q⟩
 rename_i b F G D E M N
 have lF:=c.lF;have lG:=c.lG;obtain ⟨d,hd⟩:∃d,G.length=d+1:=(G.length-1,⋯);have W:G.getD d 0≠0:=by
  rcases c.tG with z|z
  ·omega
  ·rw[hd] at z;exact z
 obtain ⟨a,I,L,Y⟩:=Kf c.e0 c.n0 (c.qG _<|Ql<|E8 (show d<G.length by omega)) W;generalize hn:F.length+1-G.length=n at *;have a1:D*(a*E)^n<2^8900:=Q5 (aR L) (by have:=c.bD;rw[hn] at this;exact this);have a2:M*(2*(E*N))^n<2^30000:=by have:=c.bM;rw[hn] at this;exact this
 have k:∀ {t:Nat} {x:b.F},t<=n->QN b ((D*(a*E)^t:Nat):Int) (M*(2*(E*N))^t) x->B1 b x:=by
  intro t x S v;have p0:0<D*(a*E)^t:=Qg c.d0<|Qw<|Qg I c.e0;have l1:=Zh (D:=D) I c.e0 S;have l2:=XB (M:=M) c.e0 c.n0 S;exact v.b1 ⋯ (by rw[Qa];omega) ⋯
 have bb:B1 b (Fd.inv<|G.getD d 0):=Y.b1 ⋯ (by rw[Qa];exact Q5 L c.bN)<|Gy c.bE;have gB:∀j,j<G.length->B1 b (G.getD j 0):=λj u=>(c.qG _<|Ql<|E8 u).b1 (by have:=c.e0;omega) (by rw[Qa];exact c.bE)<|Gy c.bN;have l1:=Cb F;have l2:=Cb G;refine br (λz=>absurd z ⋯) λ_=>?_;refine (_,Jy hd,(W,(∅,rfl,⋯,?_)));rw[show (((F.map<|num b).length:Int)-(G.map<|num b).length - -1).toNat=n by omega];refine (λt O=>∃o R,O=[some<|.val<|.kd b,some<|.val<|nums b F,some<|.val<|nums b G,some<|.val<|.int<|(G.map<|num b).length-1,some<|.val<|num b<|Fd.inv<|G.getD d 0,some<|.own<|R.map<|num b,some<|.own<|o.map<|num b,none,none,none]/\Dv F G t o R/\(∀x∈R,QN b ((D*(a*E)^t:Nat):Int) (M*(2*(E*N))^t) x)/\(∀x∈o,QN b ((D*(a*E)^t:Nat):Int) (M*(2*(E*N))^t) x),([],F,rfl,mI F G,(λx v=>by have:=c.qF x v;simpa using this),λx h=>nomatch h),?_,?_)
 ·rintro t _ _ hp ⟨o,R,rfl,B,A,U⟩;obtain ⟨S,rfl⟩:=T6 hp;obtain ⟨i,hp_⟩:∃i:Nat,i=F.length-(d+1)-t:=(_,rfl);have g4:i+(d+1)+t=F.length:=⋯;have lR:=B.lr;have a3:=B.lq;have lm:=Cb R;have mR:=Ql<|E8 (show i+d<R.length by omega);have C:=A _ mR;have s:=λ(j:Nat) (u:j<G.length)=>nF (M:=M) c.d0 I L c.e0 c.eN C Y<|c.qG _<|Ql<|E8 u;refine (_,by rw[show ((F.map<|num b).length:Int)-(G.map<|num b).length-(t:Int)+((G.map<|num b).length-1)=((i+d:Nat):Int) by omega];exact E4 ⋯,(k ⋯ C,bb,?_));obtain ⟨x,v⟩:∃x:b.F,x=R.getD (i+d) 0*Fd.inv (G.getD d 0):=(_,rfl)
  simp only[<-v] at s ⊢
  have bx:B1 b x:=k (t:=t+1) ⋯ (s d ⋯).1;refine (⋯,⋯,λj O=>O=[some<|.val<|.kd b,some<|.val<|nums b F,some<|.val<|nums b G,some<|.val<|.int<|(G.map<|num b).length-1,some<|.val<|num b<|Fd.inv<|G.getD d 0,some<|.own<|(dI G x i j R).map<|num b,some<|.own<|o.map<|num b,some<|.val<|.int<|(F.map<|num b).length-(G.map<|num b).length-t,some<|.val<|num b x,none],by rw[oW],?_,?_)
  ·rintro j _ _ u rfl;obtain ⟨u,rfl⟩:=EQ u;have er:(dI G x i j R).getD (i+j) 0=R.getD (i+j) 0:=by rw[Ol ⋯,qI ⋯]
   have ej:((F.map<|num b).length:Int)-(G.map<|num b).length-(t:Int)+(0+(j:Int))=((i+j:Nat):Int):=⋯;refine (_,by rw[ej];exact E4 (by rw[Gc];omega),_,by rw[Int.zero_add];exact E4 ⋯,(bx,gB j ⋯,(by rw[er];exact k ⋯<|A _<|Ql<|E8 (show i+j<R.length by omega),k (t:=t+1) ⋯ (s j ⋯).2.1,i+j,by rw[ej,Cb,Gc];exact LJ ⋯,?_)));rw[fH ⋯,List.map_set]
  ·rintro _ e;rw[DF,show ((G.map<|num b).length-1:Int).toNat=d by omega] at e;subst e;refine (by rw[Cb];omega,o++[x],dI G x i d R,by rw[Wp];rfl,fF hd W g4 B v,X6 (λy H=>((s d ⋯).2.2 y<|A y H).1) λy H j u=>((s j ⋯).2.2 y<|A y H).2,λy H=>?_);rcases Qp.mp H with q|q
   ·exact ((s d ⋯).2.2 y<|U y q).1
   ·rw[Qf.mp q];exact (s d ⋯).1
 ·rintro _ e;rw[N9] at e;obtain ⟨o,R,rfl,B,A,U⟩:=e;have lR:=B.lr;have J:G.length-1=d:=⋯;have lt:Da (R.map<|num b) none (some ((G.map<|num b).length-1:Int))=(R.take d).map (num b):=by rw[show ((G.map<|num b).length-1:Int)=(d:Int) by omega];exact Ku R d
  show HG [.kd b,.lst<|Da (R.map<|num b) none<|some ((G.map<|num b).length-1:Int)] _;rw[lt];refine ⟨λr r0 r1 r2=>(by show 2<=1000;decide,?_)⟩;have:=q a o R r (by rw[hn];exact B,by rw[J];exact r0,by rw[J];exact r1,by rw[J];exact r2,I,L,by rw[hn];exact U,by rw[hn];exact A);rw[J,nums,List.map_reverse] at this;exact this
abbrev gJ(te:ZE):ZE:=λa Q=>te a λp=>match p with
 | .kd κ=>Q<|.kp κ
 |_=>False
theorem MI{p pos:Pos}(B:B5 X.prog X.w X.K X.mg X.base Z.p k ["self","under"] (HC Z.p)) (y:X.mg "Polys"=some (.ref Z.p)) (h:QE Z X e te) (z:Av (k+1) X.A:=by assumption) (t:Gl X "Polys":= by rfl) (l:starEach [e] X.env=(false,eval e X.env)::starEach [] X.env:=by rfl):QE Z X (.Call (.Name "Polys" p) [e] [] pos) (gJ te) :=
 (λb _ _ f q=>h.mo b _ _ (λp k=>by
  split at k
  ·exact f _ k
  ·exact k.elim) q,λA u=>BZ (Ka B z t y (Ag (h.ok A u) An l) ∅ l rfl) λE H Q ⟨O,b,s,q⟩=>(O,b,s,h.mo b _ _ (λp k v C m i=>by
  split at k
  ·obtain ⟨a,rfl,F⟩:=Gj i;intro x c n g r;have S2:=Bg g<|.own x;have d:As C c (.own x) x=none:=by rw[AL<|rC r];exact n
   refine (x,c,a,rfl,A4,rfl,?_);rw[Mz];have o:=AW S2<|Bg d<|.ins Z.p c [("under", .ref a)];refine k _ _ (AW m o) ?_;unfold Rep;unfold Rep at i;obtain ⟨D,e,j⟩:=i
   cases e
   exact (x,c,a,rfl,by rw[hide_out<|(s.ls.same m).new n];exact A4,j.same<|Ct o)
  ·exact k.elim) q))
inductive BE (c:List PV->PV):ZF
 |mk {Q:AH} {κ:KX} {F G:Ab κ} {D E M N:Nat} (lF:F.length<=90) (lG:G.length<=90) (qF:∀x∈F,QN κ (D:Int) M x) (qG:∀x∈G,QN κ (E:Int) N x) (d0:0<D) (d1:D<=10^2000) (e0:0<E) (e1:E<=10^600) (m1:M<=10^3000) (n1:N<=10^3000) (q:∀T,Bj T->sr T=sr F*sr G->T.length<=F.length+G.length-1->Q (c (T.map (num κ)))):BE c [.kp κ,nums κ F,nums κ G] Q
abbrev Km:ZF:=BE .lst
theorem TX:Eo (BE c):=λo A B f ⟨k,m,e,h,i,g,n,l,j,d,q⟩=>(k,m,e,h,i,g,n,l,j,d,λT a b c=>f _<|q T a b c)
theorem BQ:Aa ["self","one","other","count"] ["self","one","other"] (Ao OF):=‹2›
theorem z_PtF(h:Am K Z.p "times" "Polys.times" OF) (T:Nm mg) (c:Pc K mg Z.p) (a:Fn P w K mg base Z "trimmed" 4 (Ba .fr)) (b:Fn P w K mg base Z "product_number" 4 Pg):Mt P w K mg base Z Ec "times" 5 (BE .fr):=by
 have o:=BQ.nd;refine PF c.cl TX<|NJ h (λ_ _ F=>F.b3 λ_ _ _ _ _ _ _ _ _=>rfl) BQ (λ_ _ ⟨_,_,_,_,_,_,_,_,_,_,_⟩=>rfl) (λ_ _ _ _ _ _ _ C =>
  (Ap (AE 3 o<|AA Cu li (AA Bw li (Ci T.len<|qv 1)<|Ci T.len<|qv 2) Ah)
  (AK<|Bk<|AD a<|Aw (Ib c.nU c.cl<|qv 0)<|QL.toE<|Gh "place" [(0,"self"),(1,"one"),(2,"other")] (GD T.range<|qv 3) (by exact λ_ _ _ _=>(AD b<|IH (Ib c.nU c.cl<|qv 1) (qv 2) (qv 3)<|qv 0))))) ∅ ?_
 rintro _ Q ⟨s,u,d,e,m,z,t,x,y,f,q⟩
 rename_i g F G D E M N
 have H:=Cb F;have B:=Cb G;refine (⋯,⋯,(((List.range<|F.length+G.length-1).map λi=>(sr F*sr G).c i).map<|num g),by rw[DF,Q1,Q1,Qu];omega,by rw[DF];omega,λi p k=>?_,⟨λr l v n=>q _ (IT l n) ?_ ?_⟩)
 ·obtain ⟨A,rfl⟩:=EQ k;rw[Int.zero_add];refine (⋯,s,u,d,e,m,z,t,x,y,f,?_);rw[Q7,Q7,Ww ⋯];rfl
 ·refine Rg.Ps.ext λj=>?_;rw[AM,Hv v]
  by_cases hj:j<F.length+G.length-1
  ·rw[Q3,Q7,Ww hj];rfl
  ·rw[BF (by rw[Q1,Qu];omega),G7,Rq ⋯]
 ·rw[Qn,Q1,Qu];omega
theorem z_Pt{k:Nat}(h:Mt P w K mg base Z Ec "times" k (BE .fr)):Mt P w K mg base Z Ec "times" k Km:=pQ h TX λm Q ⟨e,i,c,b,j,g,l,f,d,a,q⟩=>(e,i,c,b,j,g,l,f,d,a,q)
inductive D8 (g:(κ:KX)->Sr κ->Sr κ->Sr κ):ZF
 |mk {Q:AH} {κ:KX} {F G:Ab κ} (lF:F.length<=90) (lG:G.length<=90) (bF:∀x∈F,B1 κ x) (bG:∀x∈G,B1 κ x) (q:∀T,Bj T->sr T=g κ (sr F) (sr G)->T.length<=max F.length G.length->Q (nums κ T)):D8 g [.kp κ,nums κ F,nums κ G] Q
theorem Ru{g:(κ:KX)->Sr κ->Sr κ->Sr κ}:Eo (D8 g):=λj A B f ⟨e,i,d,h,q⟩=>(e,i,d,h,λT a b c=>f _<|q T a b c)
theorem B8:Aa ["self","one","other","both"] ["self","one","other"] (Ao Nv):=‹2›
theorem z_Pp(h:Am K Z.p "plus" "Polys.plus" Nv) (T:Nm mg) (E:mg "zip"=none) (m:Pc K mg Z.p) (d:Mt P w K mg base Z zKd "plus" 4 (S2 λ_ x y=>x+y)) (c:Fn P w K mg base Z "trimmed" 4 HG):Mt P w K mg base Z Ec "plus" 5 (D8 λ_ f g=>f+g):=by
 have D:=B8.nd;refine PF m.cl Ru<|NJ h (λ_ _ F=>F.b3 λ_ _ _ _ _ _ _ _ _=>rfl) B8 (λ_ _ ⟨_,_,_,_,_⟩=>rfl) (λ_ _ _ _ _ _ _ M =>
  (Ap (cX 3 "left" "right" [(0,"self")] D (RH E (qv 1)<|qv 2) (by exact λ_ _ _ _=>(Bh d (Ib m.nU m.cl<|qv 2)<|Aw (qv 0)<|qv 1)))
  (AK<|Jr 3<|Bk<|AD c<|Aw (Ib m.nU m.cl<|qv 0)<|QL.toE<|GW (QL.toE<|GW (qv 3)<|QL.toE<|GN (qv 1) (F6<|Ci T.len<|qv 3) GV)<|QL.toE<|GN (qv 2) (F6<|Ci T.len<|qv 3) GV))) ∅ ?_
 rintro _ Q ⟨N,O,J,H,q⟩
 rename_i k F G
 have B:=Cb F;have v:=Cb G;have l:((List.zipWith (· + ·) F G).map<|num k).length=min F.length G.length:=by rw[Q1,List.length_zipWith]
 refine ((List.zipWith (· + ·) F G).map<|num k,by rw[II,l,B,v],by rw[II];omega,λi p z=>?_,?_)
 ·obtain ⟨a,b,u,L,rfl⟩:=Oj z;obtain ⟨x,s,rfl⟩:=mget u;obtain ⟨y,t,rfl⟩:=mget L;exact (J x<|Ql s,H y<|Ql t,by rw[Q7,List.getElem?_zipWith,s,t];rfl)
 ·have n:=Il (f:=num k) F<|min F.length G.length;have o:=Il (f:=num k) G<|min F.length G.length;rw[<-l] at n o;have e:HG [.kd k,nums k<|HR F G] Q:=⟨λr A I C=>q _ (IT A C) (Rg.Ps.ext λj=>by rw[AM,Hv I,Yk,Rg.Ps.c_add,AM,AM]) (by rw[Qn,Xh];omega)⟩;unfold HR at e;rw[nums,Wp,Wp,<-l,<-n,<-o] at e;refine (?_,?_,e)
  ·rw[n,l,Q1,W6];omega
  ·rw[n,o,Qi,l,Q1,W6,Q1,W6];omega
theorem BS:Aa ["self","one","other"] ["self","one","other"] (Ao Mh):=‹2›
theorem z_Pm(h:Am K Z.p "minus" "Polys.minus" Mh) (d:Pc K mg Z.p) (b:Mt P w K mg base Z zKd "minus" 5 (S2 λ_ x y=>x-y)) (a:Mt P w K mg base Z zKd "number" 5 Fy) (c:Mt P w K mg base Z Ec "plus" 5 (D8 λ_ f g=>f+g)):Mt P w K mg base Z Ec "minus" 6 (D8 λ_ f g=>f-g):=by
 have B:=BS.nd;refine PF d.cl Ru<|NJ h (λ_ _ F=>F.b3 λ_ _ _ _ _ _ _ _ _=>rfl) BS (λ_ _ ⟨_,_,_,_,_⟩=>rfl) (λ_ _ _ _ _ _ _ C =>
  (AK<|Bk<|Bh c (qv 0)<|Aw (qv 1)<|QL.toE<|Gh "each" [(0,"self")] (ED<|qv 2) (by exact λ_ _ _ _=>(Bh b (Ib d.nU d.cl<|qv 1)<|Aw (Bh a (Ib d.nU d.cl<|qv 1)<|By Ah)<|qv 0)))) ∅ ?_
 rintro _ Q ⟨o,r,s,m,q⟩
 rename_i n F G
 refine ((G.map λx=>0-x).map<|num n,by rw[Q1,Q1,Q1],by rw[Cb];omega,λi p t=>?_,(o,by rw[Q1];exact r,s,λx v=>?_,λT u A k=>q T u ?_ (by rw[Q1] at k;exact k)))
 ·obtain ⟨y,e,rfl⟩:=mget t;exact (0,FP,(VB,m y<|Ql e,by rw[Q7,Q7,e];rfl))
 ·obtain ⟨y,e,rfl⟩:=s8.mp v;exact Ko<|m y e
 ·rw[A];refine Rg.Ps.ext λj=>?_;rw[Rg.Ps.c_add,Rg.Ps.c_sub,AM,AM,AM,Q3 (l:=G.map λx=>0-x),Q7,Q3 (l:=G)]
  cases G[j]? with
  |none=>show _+(0:n.F)=_-0;generalize F.getD j 0=z;grind
  |some y=>show _+(0-y)=_-y;generalize F.getD j 0=z;grind
inductive A1:ZF
 |mk {Q:AH} {κ:KX} {x:κ.F} {n D M:Nat} (n60:n<=60) (qx:QN κ (D:Int) M x) (d0:0<D) (m0:0<M) (bD:D^n<2^8900) (bM:M^n<2^30000) (bD1:D<2^8900) (bM1:M<2^30000) (q:Q (num κ (AN x n))):A1 [.kd κ,num κ x,.int (n:Int)] Q
theorem Dg:Aa ["kind","number","count","product","turn"] ["kind","number","count"] (Ao Ny):=‹2›
theorem z_raised(h:Ae K mg "raised" Ny) (T:Nm mg) (a:Mt P w K mg base Z zKd "number" 3 Fy) (b:Mt P w K mg base Z zKd "times" 3 (S2 λ_ x y=>x*y)):Fn P w K mg base Z "raised" 4 A1:=by
 have c:=Dg.nd;refine Cg h Dg (λ_ _ _ _ _ _ _ s =>
  (Ap (AE 3 c<|Bh a (qv 0)<|By Ah)
  (Ap (D3 [4] (GD T.range<|qv 2) (Eg 4 c)<|AK<|AE 3 c<|Bh b (qv 0)<|Aw (qv 3)<|qv 1)
  (AK<|Bk<|qv 3)))) ?_
 rintro _ Q ⟨m,j,g,r,k,o,f,d,q⟩
 rename_i e x n D M
 refine (1,FC,⋯,⋯,λt l=>l=[some<|.val<|.kd e,some<|.val<|num e x,some<|.val<|.int n,some<|.val<|num e<|AN x t,none],rfl,?_,?_)
 ·rintro t _ _ i rfl;obtain ⟨i,rfl⟩:=EQ i;have p:D^t<=D^n:=Q8 g ⋯;have pm:M^t<=M^n:=Q8 r ⋯;exact (GH (OY j t) (Qw g) (Q5 p k)<|Q5 pm o,GH j g f d,rfl)
 ·rintro _ rfl;rw[DF,Ui];exact q
inductive CZ:ZF
 |mk {Q:AH} {κ:KX} {F:Ab κ} {D M:Nat} (qF:∀x∈F,QN κ (D:Int) M x) (d0:0<D) (dB:D<2^8900) (q:∀y,y≠0->QN κ 1 D y->(∀x∈F,QN κ 1 M (y*x))->Q (nums κ [y])):CZ [.kd κ,nums κ F] Q
theorem XD:Aa ["kind","f"] ["kind","f"] (Ao LV):=‹2›
theorem z_botf(h:Ae K mg "bottom_factor" LV) (a:Mt P w K mg base Z zKd "number" 3 Fy) (b:Mt P w K mg base Z zKd "common_bottom" 3 Sbot):Fn P w K mg base Z "bottom_factor" 4 CZ:=by
 refine Cg h XD (λ_ _ _ _ _ _ _ o =>
  (AK<|Bk<|QL.toE<|Cs<|By<|Bh a (qv 0)<|By<|Bh b (qv 0)<|By<|qv 1)) ?_
 rintro _ Q ⟨d,g,i,q⟩
 rename_i c F D M
 refine ((D:Int),⋯,Ak.of (n:=8900) (by rw[Qa];exact i),λx m=>UZ g<|d x m,λA f=>?_);obtain ⟨y,hy⟩:∃y:c.F,Cq c A y:=by
  cases c with
  |q=>exact ((A:Rat),rfl,rfl)
  |r p s =>
   have e:=f;rw[e];exact (K1 _,FC)
 obtain ⟨l,k,j⟩:=SA g f d hy;exact (y,hy,by show 1<=1000;decide,q y l k j)
end Lake.Zp
namespace Lake.My.Rg
open PySem L2 PyProof.Rows
section
variable{α:Type}[Lean.Grind.CommRing α]
theorem Hq{j t:Nat}(h:t<j):skip j t=t:=by unfold skip;rw[qK h]
theorem GM{j t:Nat}(h:j<=t):skip j t=t+1:=by unfold skip;rw[qI ⋯]
theorem dQ{j t:Nat}:skip j t≠j:=by
 by_cases h:t<j
 ·rw[Hq h];omega
 ·rw[GM ⋯];omega
def De(n:Nat)(a:Nat->Nat->α)(r j:Nat):α:=det n λi k=>a (skip r i)<|skip j k
theorem Jh{n:Nat}:∀ {r:Nat} {a:Nat->Nat->α},r<=n->det (n+1) a=Sg (λj=>sgn α (r+j)*a r j*De n a r j) (n+1)
 |0,a,_=>by
  show Sg _ (n+1)=_;refine Sg_congr λj _=>?_;rw[Nat.zero_add];have e:De n a 0 j=det n λi k=>a (i+1) (skip j k):=det_congr λi k _ _=>by rw[GM<|Qe i]
  rw[e]
 |r+1,a,h=>by
  have e:=Vl (n:=n+1) (a:=a) (r:=r) ⋯;rw[Jh (r:=r) (a:=AZ (AZ a r<|a<|r+1) (r+1)<|a r) ⋯] at e;have g:det (n+1) a=0-Sg (λj=>sgn α (r+j)*AZ (AZ a r<|a<|r+1) (r+1) (a r) r j*De n (AZ (AZ a r<|a<|r+1) (r+1)<|a r) r j) (n+1):=by
   rw[e];generalize det (n+1) a=d;grind
  rw[g];have m:∀f:Nat->α,0-Sg f (n+1)=Sg (λi=>(0-1)*f i) (n+1):=λf=>by
   rw[<-Sg_mul];generalize Sg f (n+1)=s;grind
  rw[m];refine Sg_congr λj _=>?_;have b:AZ (AZ a r<|a<|r+1) (r+1) (a r) r j=a (r+1) j:=by
   unfold AZ;rw[qI ⋯,qK rfl]
  have c:De n (AZ (AZ a r<|a<|r+1) (r+1)<|a r) r j=De n a (r+1) j:=by
   unfold De;refine det_congr λi k _ _=>?_;unfold AZ
   by_cases h1:i<r
   ·rw[Hq h1,Hq (show i<r+1 by omega),qI ⋯,qI ⋯]
   ·by_cases h2:i=r
    ·subst h2;rw[GM<|Q4 i,Hq (show i<i+1 by omega),qK rfl]
    ·rw[GM (show r<=i by omega),GM (show r+1<=i by omega),qI ⋯,qI ⋯]
  rw[b,c,show r+1+j=r+j+1 by omega];show (0-1)*(sgn α (r+j)*a (r+1) j*De n a (r+1) j)=(0-sgn α (r+j))*a (r+1) j*De n a (r+1) j;generalize De n a (r+1) j=x;grind
theorem lK{n r s:Nat}{a:Nat->Nat->α}(c:r<=n)(f:s<=n)(b:r≠s):Sg (λj=>sgn α (r+j)*a s j*De n a r j) (n+1)=0:=by
 have e:=Jh (n:=n) (r:=r) (a:=AZ a r<|a s) c;rw[VM (r:=r) (s:=s) ⋯ ⋯ b λj=>by unfold AZ;rw[qK rfl,qI<|λz=>b z.symm]] at e;rw[e];refine Sg_congr λj _=>?_;have d:De n (AZ a r<|a s) r j=De n a r j:=by
  unfold De;exact det_congr λi k _ _=>by unfold AZ;rw[qI dQ]
 rw[d];unfold AZ;rw[qK rfl]
def cofN(n:Nat)(a:Nat->Nat->α)(i j:Nat):α:=sgn α (i+j)*De n a j i
theorem cof_left{n i j:Nat}{a:Nat->Nat->α}(c:i<=n)(b:j<=n):Sg (λk=>cofN n a i k*a k j) (n+1)=if i=j then det (n+1) a else 0:=by
 have t:∀k,De n a k i=De n (λi j=>a j i) i k:=λk=>by
  unfold De;rw[<-MZ (a:=λt l=>a (skip k t)<|skip i l)]
 have e:Sg (λk=>cofN n a i k*a k j) (n+1)=Sg (λk=>sgn α (i+k)*a k j*De n (λi j=>a j i) i k) (n+1):=Sg_congr λk _=>by
  unfold cofN;rw[t];generalize De n (λi j=>a j i) i k=x;grind
 rw[e,<-MZ (a:=a)]
 by_cases h:i=j
 ·rw[qK h,h,Jh (a:=λi j=>a j i) b]
 ·rw[qI h];exact lK (a:=λi j=>a j i) c b h
def Gk(y:Nat->α):Nat->α
 |0=>1
 |n+1=>Gk y n*y n
theorem SL(y:Nat->α):∀n,Gk y (n+1)=y 0*Gk (λi=>y<|i+1) n
 |0=>by show (1:α)*y 0=y 0*1;grind
 |n+1=>by
  show Gk y (n+1)*y (n+1)=y 0*(Gk (λi=>y<|i+1) n*y (n+1));rw[SL y n];grind
theorem oZ:∀ {n:Nat} {a:Nat->Nat->α} {y:Nat->α},det n (λi j=>y i*a i j)=Gk y n*det n a
 |0,a,y=>by show (1:α)=1*1;grind
 |n+1,a,y=>by
  show Sg (λj=>sgn α j*(y 0*a 0 j)*det n λi k=>y (i+1)*a (i+1) (skip j k)) (n+1)=Gk y (n+1)*Sg (λj=>sgn α j*a 0 j*det n λi k=>a (i+1)<|skip j k) (n+1);rw[SL,Sg_mul];refine Sg_congr λj _=>?_;rw[oZ (n:=n) (a:=λi k=>a (i+1)<|skip j k) (y:=λi=>y<|i+1)];generalize (det n λi k=>a (i+1)<|skip j k)=d;generalize Gk (λi=>y<|i+1) n=p;grind
def Pm(x y:α):Prop:=x=y\/x=0-y
theorem Pm.trans{x y z:α}(h:Pm x y)(k:Pm y z):Pm x z:=by
 rcases h with h|h <;> rcases k with k|k
 ·exact .inl (h.trans k)
 ·exact .inr (h.trans k)
 ·exact .inr (by rw[h,k])
 ·exact .inl (by rw[h,k];grind)
theorem Pm.symm{x y:α}(h:Pm x y):Pm y x:=by
 rcases h with h|h
 ·exact .inl h.symm
 ·exact .inr (by rw[h];grind)
theorem Pm.mul{x y:α}(c:α)(h:Pm x y):Pm (c*x) (c*y):=by
 rcases h with h|h
 ·exact .inl (by rw[h])
 ·exact .inr (by rw[h];grind)
theorem Pm.sgn(n:Nat)(x:α):Pm (sgn α n*x) x:=by
 induction n with
 |zero=>exact .inl (by show (1:α)*x=x;grind)
 |succ n a =>
  have e:Rg.sgn α (n+1)*x=0-Rg.sgn α n*x:=by
   show (0-Rg.sgn α n)*x=_;grind
  rw[e];exact Pm.trans (.inr rfl) a
theorem UM(m:Nat):∀n,sgn α (m+n)=sgn α m*sgn α n
 |0=>by show sgn α m=sgn α m*1;grind
 |n+1=>by
  show 0-sgn α (m+n)=sgn α m*(0-sgn α n);rw[UM m n];grind
theorem YK{n:Nat}{a:Nat->Nat->α}:Pm (det (n+1) λi j=>if i<n then a (i+1) j else a 0 j) (det (n+1) a):=by
 have e:(det (n+1) λi j=>if i<n then a (i+1) j else a 0 j)=sgn α n*det (n+1) a:=by
  rw[Jh (r:=n)<|Q4 n,Jh (r:=0) (a:=a)<|Qe n,Sg_mul];refine Sg_congr λj d=>?_;have c:De n (λi j=>if i<n then a (i+1) j else a 0 j) n j=De n a 0 j:=by
   unfold De;refine det_congr λi k b f=>?_;show (if skip n i<n then a (skip n i+1) (skip j k) else a 0 (skip j k))=a (skip 0 i) (skip j k);rw[Hq b,qK b,GM<|Qe i]
  rw[c,qI<|Qs n,Nat.zero_add,UM];grind
 rw[e];exact Pm.sgn n _
theorem RX{n:Nat}{a:Nat->Nat->α}:∀r,r<=n->Pm (det n λi j=>a (if i+r<n then i+r else i+r-n) j) (det n a)
 |0,_=>by
  rw[det_congr (b:=a) λi j c _=>by rw[Nat.add_zero,qK c]];exact .inl rfl
 |r+1,h=>by
  obtain ⟨m,rfl⟩:∃m,n=m+1:=(n-1,⋯);refine Pm.trans ?_<|RX (a:=a) r ⋯;refine Pm.trans (.inl<|det_congr λi j c _=>?_)<|YK (n:=m)
  by_cases z:i<m
  ·rw[qK z,show i+1+r=i+(r+1) by omega]
  ·rw[qI z,qI ⋯,qK ⋯,show i+(r+1)-(m+1)=0+r by omega]
def sh(t:Nat)(f:Nat->α)(d:Nat):α:=if d<t then 0 else f (d-t)
def rwS(p q:Nat)(X Y:Nat->α)(i:Nat):Nat->α:=if i<p then sh (p-1-i) X else sh (q-1-(i-p)) Y
def dN(p q:Nat)(X Y:Nat->α)(T i0:Nat):α:=det (p+q) λi j=>rwS p q X Y i (if j+1<p+q then T-j else i0)
theorem Dw{X Y:Nat->α}:Pm (dN q p Y X T i0) (dN p q X Y T i0):=by
 unfold dN;rw[show q+p=p+q by omega];refine Pm.trans (.inl<|det_congr λi j b _=>?_)<|RX p ⋯;generalize (if j+1<p+q then T-j else i0)=a
 by_cases z:i<q
 ·rw[qK (show i+p<p+q by omega)];unfold rwS;rw[qK z,qI (show ¬i+p<p by omega),show i+p-p=i by omega]
 ·rw[qI (show ¬i+p<p+q by omega)];unfold rwS;rw[qI z,qK (show i+p-(p+q)<p by omega),show i+p-(p+q)=i-q by omega]
theorem UO{n r:Nat}{E:Nat->Nat->α}{y:Nat->α}{ix:Nat->Nat}(b:r<n):∀m,(∀s,s<m->ix s<n/\ix s≠r)->det n (AZ E r λj=>E r j+Sg (λs=>y s*E (ix s) j) m)=det n E
 |0,_=>by
  rw[det_congr λi j _ _=>?_];show AZ E r (λj=>E r j+0) i j=E i j;unfold AZ
  split
  ·rename_i e;rw[e];grind
  ·rfl
 |m+1,h=>by
  have d:=UO (E:=E) (y:=y) b m λs f=>h s ⋯;obtain ⟨l,c⟩:=h m ⋯;rw[<-d];rw[<-lJ (a:=AZ E r λj=>E r j+Sg (λs=>y s*E (ix s) j) m) (y m) b l (rC c)];refine det_congr λi j _ _=>?_;unfold AZ
  by_cases z:i=r
  ·rw[qK z,qK z];show E r j+(Sg (λs=>y s*E (ix s) j) m+y m*E (ix m) j)=(if r=r then E r j+Sg (λs=>y s*E (ix s) j) m else E r j)+y m*(if ix m=r then E r j+Sg (λs=>y s*E (ix s) j) m else E (ix m) j);rw[qK rfl,qI c];grind
  ·rw[qI z,qI z,qI z]
theorem jU(t:Nat)(f g:Nat->α)(d:Nat):sh t (λd=>f d+g d) d=sh t f d+sh t g d:=by
 unfold sh
 split
 ·grind
 ·rfl
theorem nJ(t:Nat)(h:Nat->Nat->α)(m d:Nat):sh t (λd=>Sg (λs=>h s d) m) d=Sg (λs=>sh t (h s) d) m:=by
 unfold sh
 by_cases z:d<t
 ·rw[qK z,Sg_congr (g:=λ_=>0) λs _=>qK z,Sg_zero]
 ·rw[qI z];exact Sg_congr λs _=>(qI z).symm
theorem TH(t:Nat)(c:α)(f:Nat->α)(d:Nat):sh t (λd=>c*f d) d=c*sh t f d:=by
 unfold sh
 split
 ·grind
 ·rfl
theorem kJ(t s:Nat)(f:Nat->α)(d:Nat):sh t (sh s f) d=sh (t+s) f d:=by
 unfold sh
 by_cases z:d<t
 ·rw[qK z,qK ⋯]
 ·rw[qI z]
  by_cases y:d-t<s
  ·rw[qK y,qK ⋯]
  ·rw[qI y,qI ⋯,show d-t-s=d-(t+s) by omega]
theorem QZ{p q g:Nat}{X Y C:Nat->α}{Qc:Nat->α}(h:∀d,X d=C d+Sg (λs=>Qc s*sh s Y d) (g+1))(t:p+g<=q):dN p q X Y T i0=dN p q C Y T i0:=by
 unfold dN;have c:∀r,r<=p->det (p+q) (λi j=>(if i<r then rwS p q C Y i else rwS p q X Y i) (if j+1<p+q then T-j else i0))=det (p+q) λi j=>rwS p q X Y i (if j+1<p+q then T-j else i0):=by
  intro r
  induction r with
  |zero=>exact λ_=>det_congr λi j _ _=>by rw[qI<|Nat.not_lt_zero _]
  |succ r l =>
   intro v;rw[<-l ⋯];rw[<-UO (n:=p+q) (r:=r) (E:=λi j=>(if i<r+1 then rwS p q C Y i else rwS p q X Y i) (if j+1<p+q then T-j else i0)) (y:=Qc) (ix:=λs=>p+(q-1-(p-1-r+s))) ⋯ (g+1) λs e=>(⋯,⋯)];refine (det_congr λi j k u=>?_).symm;unfold AZ
   by_cases z:i=r
   ·subst z;rw[qK rfl,qI<|Qs i];show rwS p q X Y i (if j+1<p+q then T-j else i0)=(if i<i+1 then rwS p q C Y i else rwS p q X Y i) (if j+1<p+q then T-j else i0)+Sg (λs=>Qc s*(if p+(q-1-(p-1-i+s))<i+1 then rwS p q C Y (p+(q-1-(p-1-i+s))) else rwS p q X Y (p+(q-1-(p-1-i+s)))) (if j+1<p+q then T-j else i0)) (g+1);generalize (if j+1<p+q then T-j else i0)=b;rw[qK<|Ut i];have a:i<p:=⋯;have m:rwS p q X Y i=sh (p-1-i) X:=by unfold rwS;rw[qK a]
    have f:rwS p q C Y i=sh (p-1-i) C:=by unfold rwS;rw[qK a]
    rw[m,f,show X=λd=>C d+Sg (λs=>Qc s*sh s Y d) (g+1) from funext h,jU,nJ];have o:Sg (λs=>sh (p-1-i) (λd=>Qc s*sh s Y d) b) (g+1)=Sg (λs=>Qc s*(if p+(q-1-(p-1-i+s))<i+1 then rwS p q C Y (p+(q-1-(p-1-i+s))) else rwS p q (λd=>C d+Sg (λs=>Qc s*sh s Y d) (g+1)) Y (p+(q-1-(p-1-i+s)))) b) (g+1):=Sg_congr λs e=>by
     rw[TH,kJ,qI (show ¬p+(q-1-(p-1-i+s))<i+1 by omega)];unfold rwS;rw[qI (show ¬p+(q-1-(p-1-i+s))<p by omega),show q-1-(p+(q-1-(p-1-i+s))-p)=p-1-i+s by omega]
    rw[o]
   ·rw[qI z];show (if i<r then rwS p q C Y i else rwS p q X Y i) (if j+1<p+q then T-j else i0)=(if i<r+1 then rwS p q C Y i else rwS p q X Y i) (if j+1<p+q then T-j else i0);generalize (if j+1<p+q then T-j else i0)=b
    by_cases y:i<r
    ·rw[qK y,qK (show i<r+1 by omega)]
    ·rw[qI y,qI (show ¬i<r+1 by omega)]
 rw[<-c p (Q4 p)];refine det_congr λi j k _=>?_;generalize (if j+1<p+q then T-j else i0)=b
 by_cases z:i<p
 ·rw[qK z]
 ·rw[qI z];unfold rwS;rw[qI z,qI z]
def pwS(x:α):Nat->α
 |0=>1
 |n+1=>pwS x n*x
theorem pwS_add(x:α)(m:Nat):∀n,pwS x (m+n)=pwS x m*pwS x n
 |0=>by show pwS x m=pwS x m*1;grind
 |n+1=>by
  show pwS x (m+n)*x=pwS x m*(pwS x n*x);rw[pwS_add x m n];grind
theorem M5(x y:α):∀n,pwS (x*y) n=pwS x n*pwS y n
 |0=>by show (1:α)=1*1;grind
 |n+1=>by
  show pwS (x*y) n*(x*y)=pwS x n*x*(pwS y n*y);rw[M5 x y n];grind
theorem JE(x:α)(m:Nat):∀n,pwS (pwS x m) n=pwS x (m*n)
 |0=>rfl
 |n+1=>by
  show pwS (pwS x m) n*pwS x m=pwS x (m*n+m);rw[JE x m n,pwS_add]
theorem Za{X Y:Nat->α}(c:α):dN p q (λd=>c*X d) Y T i0=pwS c p*dN p q X Y T i0:=by
 unfold dN;have a:∀r,r<=p->det (p+q) (λi j=>(if i<r then rwS p q (λd=>c*X d) Y i else rwS p q X Y i) (if j+1<p+q then T-j else i0))=pwS c r*det (p+q) λi j=>rwS p q X Y i (if j+1<p+q then T-j else i0):=by
  intro r
  induction r with
  |zero =>
   intro _;rw[det_congr (b:=λi j=>rwS p q X Y i (if j+1<p+q then T-j else i0)) λi j _ _=>by rw[qI<|Nat.not_lt_zero _]];show _=(1:α)*_;grind
  |succ r h =>
   intro l;have e:pwS c (r+1)*det (p+q) (λi j=>rwS p q X Y i (if j+1<p+q then T-j else i0))=c*det (p+q) (λi j=>(if i<r then rwS p q (λd=>c*X d) Y i else rwS p q X Y i) (if j+1<p+q then T-j else i0)):=by
    rw[h ⋯];show pwS c r*c*_=_;grind
   rw[e,<-XC (r:=r) c ⋯];refine det_congr λi j g k=>?_;unfold AZ
   by_cases z:i=r
   ·subst z;rw[qK rfl,qK<|Ut i];show rwS p q (λd=>c*X d) Y i (if j+1<p+q then T-j else i0)=c*(if i<i then rwS p q (λd=>c*X d) Y i else rwS p q X Y i) (if j+1<p+q then T-j else i0);generalize (if j+1<p+q then T-j else i0)=f;rw[qI<|Qs i];unfold rwS;rw[qK (show i<p by omega),qK (show i<p by omega),TH]
   ·rw[qI z];show (if i<r+1 then rwS p q (λd=>c*X d) Y i else rwS p q X Y i) (if j+1<p+q then T-j else i0)=(if i<r then rwS p q (λd=>c*X d) Y i else rwS p q X Y i) (if j+1<p+q then T-j else i0);generalize (if j+1<p+q then T-j else i0)=f
    by_cases y:i<r
    ·rw[qK y,qK (show i<r+1 by omega)]
    ·rw[qI y,qI (show ¬i<r+1 by omega)]
 rw[<-a p (Q4 p)];refine det_congr λi j g _=>?_;generalize (if j+1<p+q then T-j else i0)=f
 by_cases z:i<p
 ·rw[qK z]
 ·rw[qI z];unfold rwS;rw[qI z,qI z]
theorem Zy{p q b:Nat}{X Y:Nat->α}{T i0:Nat}(r:1<=p+q)(m:T=b+q)(e:∀d,b<d->Y d=0)(f:∀i d,i<p->T-(p-1-i)=d->X d=0)(hp:p<=T+1):Pm (dN p (q+1) X Y T i0) (Y b*dN p q X Y (T-1) i0):=by
 obtain ⟨n,hn⟩:∃n,p+q=n+1:=(p+q-1,⋯);unfold dN;rw[show p+(q+1)=p+q+1 by omega,Pi];rw[Sg_only (i:=p) ⋯ λi g l=>?_]
 ·have c:rwS p (q+1) X Y p (if 0+1<p+q+1 then T-0 else i0)=Y b:=by
   rw[qK ⋯];unfold rwS sh;rw[qI<|Qs p,qI ⋯,show T-0-(q+1-1-(p-p))=b by omega]
  have h:(det (p+q) λt k=>rwS p (q+1) X Y (skip p t) (if k+1+1<p+q+1 then T-(k+1) else i0))=det (p+q) λi j=>rwS p q X Y i (if j+1<p+q then T-1-j else i0):=det_congr λi j g o=>by
   have a:(if j+1+1<p+q+1 then T-(j+1) else i0)=if j+1<p+q then T-1-j else i0:=by
    by_cases y:j+1<p+q
    ·rw[qK y,qK ⋯]; omega
    ·rw[qI y,qI ⋯]
   rw[a];generalize (if j+1<p+q then T-1-j else i0)=s;unfold rwS
   by_cases y:i<p
   ·rw[Hq y,qK y,qK y]
   ·rw[GM ⋯,qI (show ¬i+1<p by omega),qI y,show q+1-1-(i+1-p)=q-1-(i-p) by omega]
  rw[c,h];refine Pm.trans (.inl ?_)<|Pm.sgn p _;grind
 ·rw[show rwS p (q+1) X Y i (if 0+1<p+q+1 then T-0 else i0)=0 by
   rw[qK ⋯];unfold rwS sh
   by_cases y:i<p
   ·rw[qK y,qI ⋯]
    exact f i _ y ⋯
   ·rw[qI y,qI ⋯]
    exact e _ ⋯]
  grind
theorem J2{p q b c:Nat}{X Y:Nat->α}(a:∀d,b<d->Y d=0)(e:∀d,c<d->X d=0)(f:1<=p+q)(h:p=0\/c+p<=b+q):∀(s T:Nat),T+1=b+q+s->Pm (dN p (q+s) X Y T i0) (pwS (Y b) s*dN p q X Y (T-s) i0)
 |0,T,_ => .inl (by show dN p q X Y T i0=1*dN p q X Y T i0;grind)
 |s+1,T,hT=>by
  have j:=Zy (p:=p) (q:=q+s) (b:=b) (X:=X) (Y:=Y) (T:=T) (i0:=i0) ⋯ ⋯ a (λi d k l=>e d ⋯) ⋯;refine Pm.trans j ?_;have g:=J2 a e f h (i0:=i0) s (T-1) ⋯;refine Pm.trans (Pm.mul (Y b) g)<|.inl ?_;rw[show T-1-s=T-(s+1) by omega];show Y b*(pwS (Y b) s*_)=pwS (Y b) s*Y b*_;grind
def Nk(A B:Nat->α)(a b k i0:Nat):α:=dN (b-k) (a-k) A B (a+b-k-1) i0
theorem Nk_red{A B C Qc:Nat->α}{a b c k i0:Nat}(e:∀d,A d=C d+Sg (λs=>Qc s*sh s B d) (a-b+1))(g:∀d,b<d->B d=0)(f:∀d,c<d->C d=0)(ab:b<a)(j:c<b)(i:k<=c):Pm (Nk A B a b k i0) (pwS (B b) (a-c)*Nk B C b c k i0):=by
 unfold Nk;rw[QZ e ⋯];have h:=J2 (p:=b-k) (q:=c-k) (b:=b) (c:=c) (X:=C) (Y:=B) (i0:=i0) g f ⋯ (.inr ⋯) (a-c) (a+b-k-1) ⋯;rw[show c-k+(a-c)=a-k by omega,show a+b-k-1-(a-c)=b+c-k-1 by omega] at h;exact Pm.trans h<|Pm.mul _ Dw.symm
theorem WU{A C:Nat->α}(c:α):Pm (Nk A (λd=>c*C d) a b k i0) (pwS c (a-k)*Nk A C a b k i0):=by
 unfold Nk;refine Pm.trans Dw ?_;rw[Za];exact Pm.mul _ Dw
theorem YM{A B C Qc:Nat->α}{a b i0:Nat}(g:∀d,A d=C d+Sg (λs=>Qc s*sh s B d) (a-b+1))(f:∀d,b<d->B d=0)(e:∀d,b<=d->C d=0)(ab:b<a)(i:1<=b):Pm (Nk A B a b (b-1) i0) (pwS (B b) (a-b+1)*C i0):=by
 unfold Nk;rw[QZ g ⋯];have h:=J2 (p:=1) (q:=0) (b:=b) (c:=b-1) (X:=C) (Y:=B) (i0:=i0) f (λd j=>e d ⋯) ⋯ (.inr ⋯) (a-b+1) (a+b-(b-1)-1) ⋯;rw[show b-(b-1)=1 by omega,show a-(b-1)=0+(a-b+1) by omega];refine Pm.trans h<|.inl<|qW (λz=>pwS (B b) (a-b+1)*z) ?_;unfold dN;show (0:α)+sgn α 0*rwS 1 0 C B 0 (if 0+1<1+0 then _ else i0)*1=_;rw[qI ⋯];show (0:α)+1*rwS 1 0 C B 0 i0*1=_;unfold rwS sh;rw[qK ⋯,qI ⋯,show i0-(1-1-0)=i0 by omega];grind
theorem Nk_top{A B:Nat->α}{a b:Nat}(f:∀d,b<d->B d=0)(ab:b<a):Pm (Nk A B a b b b) (pwS (B b)<|a-b):=by
 unfold Nk;have h:=J2 (p:=0) (q:=1) (b:=b) (c:=0) (X:=λ_=>0) (Y:=B) (i0:=b) f (λ_ _=>rfl) ⋯ (.inl rfl) (a-b-1) (a-1) ⋯;rw[show b-b=0 by omega,show a-b=1+(a-b-1) by omega,show a+b-b-1=a-1 by omega];have g:dN 0 (1+(a-b-1)) A B (a-1) b=dN 0 (1+(a-b-1)) (λ_=>0) B (a-1) b:=by
  unfold dN;refine det_congr λi j _ _=>?_;unfold rwS;rw[qI<|Nat.not_lt_zero _,qI<|Nat.not_lt_zero _]
 rw[g];refine Pm.trans h<|.inl ?_;have e:dN 0 1 (λ_=>0) B (a-1-(a-b-1)) b=B b:=by
  unfold dN;show (0:α)+sgn α 0*rwS 0 1 (λ_=>0) B 0 (if 0+1<0+1 then _ else b)*1=_;rw[qI ⋯];show (0:α)+1*rwS 0 1 (λ_=>0) B 0 b*1=_;unfold rwS sh;rw[qI<|Nat.not_lt_zero _,qI ⋯,show b-(1-1-(0-0))=b by omega];grind
 rw[e,show 1+(a-b-1)=a-b-1+1 by omega]
 rfl
end
section
variable{α:Type}[Fd α]
theorem fd_ne{x y:α}(b:x≠0)(a:y≠0):x*y≠0:=λz=>b (by
 have e:=Fd.mul_inv y a;have:x*y*Fd.inv y=0*Fd.inv y:=by rw[z]
 grind)
theorem pwS_ne{x:α}(a:x≠0):∀n,pwS x n≠0
 |0=>λz=>Fd.zne (show (0:α)=1 from z.symm)
 |n+1=>fd_ne (pwS_ne a n) a
theorem fd_can{c x y:α}(a:c≠0)(h:c*x=c*y):x=y:=by
 have e:=Fd.mul_inv c a;have:Fd.inv c*(c*x)=Fd.inv c*(c*y):=by rw[h]
 grind
theorem Pm.can{c x y:α}(a:c≠0)(h:Pm (c*x) (c*y)):Pm x y:=by
 rcases h with h|h
 ·exact .inl (fd_can a h)
 ·exact .inr (fd_can a (by rw[h];grind))
structure SbI (f g:Nat->α) (m n:Nat) (A B:Nat->α) (a b:Nat) (l h:α):Prop where
 l0:l≠0
 h0:h≠0
 ab:b<a
 inv:∀k i0,k<=b->Pm (Nk f g m n k i0*(pwS l (b-k)*pwS h (a-k-1))) (Nk A B a b k i0)
theorem P8:∀n,pwS (1:α) n=1
 |0=>rfl
 |n+1=>by show pwS (1:α) n*1=1;rw[P8 n];grind
theorem SbI.start{f g:Nat->α}{m n:Nat}(h:n<m):SbI f g m n f g m n 1 1:=(λz=>Fd.zne z.symm,λz=>Fd.zne z.symm,h,λk a _ => .inl (by rw[P8,P8];grind))
variable{f g A B C R Qc:Nat->α}{m n a b c i0:Nat}{l h h':α}
theorem SbI.rest(s:SbI f g m n A B a b l h)(k:∀d,A d=C d+Sg (λs=>Qc s*sh s B d) (a-b+1))(q:∀d,b<d->B d=0)(o:∀d,b<=d->C d=0)(p:1<=b)(j:∀d,pwS (B b) (a-b+1)*C d=l*pwS h (a-b)*R d):Pm (Nk f g m n (b-1) i0) (R i0):=by
 have e:=s.inv (b-1) i0 ⋯;have i:=s.ab;rw[show b-(b-1)=1 by omega,show a-(b-1)-1=a-b by omega] at e;refine Pm.can (c:=l*pwS h (a-b)) (fd_ne s.l0<|pwS_ne s.h0 _) ?_;rw[<-j];refine Pm.trans (.inl ?_)<|Pm.trans e<|YM k q o i p;show l*pwS h (a-b)*Nk f g m n (b-1) i0=Nk f g m n (b-1) i0*(1*l*pwS h (a-b));grind
theorem SbI.top(s:SbI f g m n A B a b l h)(j:∀d,b<d->B d=0)(k:h'*pwS h (a-b-1)=pwS (B b) (a-b)):Pm (Nk f g m n b b) h':=by
 have e:=s.inv b b<|Q4 b;have i:=s.ab;rw[show b-b=0 by omega] at e;refine Pm.can (c:=pwS h<|a-b-1) (pwS_ne s.h0 _) ?_;refine Pm.trans (.inl ?_)<|Pm.trans (Pm.trans e<|Nk_top j i)<|.inl ?_
 ·show pwS h (a-b-1)*Nk f g m n b b=Nk f g m n b b*(1*pwS h (a-b-1));grind
 ·rw[<-k];grind
theorem SbI.step(s:SbI f g m n A B a b l h)(O:∀d,A d=C d+Sg (λs=>Qc s*sh s B d) (a-b+1))(L:∀d,b<d->B d=0)(S:∀d,c<d->C d=0)(E:c<b)(p:B b≠0)(I:∀d,pwS (B b) (a-b+1)*C d=l*pwS h (a-b)*R d)(o:h'*pwS h (a-b-1)=pwS (B b) (a-b)):SbI f g m n B R b c (B b) h':=by
 have F:=s.ab;have j:h'≠0:=λz=>pwS_ne p (a-b) (by rw[<-o,z];grind);refine (p,j,E,λk i0 K=>?_);have D:=Pm.trans (s.inv k i0 ⋯)<|Nk_red (i0:=i0) O L S F E K;have u:=WU (A:=B) (C:=C) (a:=b) (b:=c) (k:=k) (i0:=i0)<|pwS (B b)<|a-b+1;have W:=WU (A:=B) (C:=R) (a:=b) (b:=c) (k:=k) (i0:=i0)<|l*pwS h (a-b);rw[show (λd=>pwS (B b) (a-b+1)*C d)=λd=>l*pwS h (a-b)*R d from funext I] at u;have r:=Pm.trans u.symm W;generalize Nk f g m n k i0=x at *;generalize Nk B C b c k i0=w at *;generalize Nk B R b c k i0=y at *;obtain ⟨e,he⟩:∃e,b-k=e+1:=(b-k-1,⋯);obtain ⟨G,hG⟩:∃G,a-b=G+1:=(a-b-1,⋯);obtain ⟨q,hq⟩:∃q,b-c=q:=(_,rfl);obtain ⟨t,ht⟩:∃t,c-k=t:=(_,rfl);have M:e+1=q+t:=⋯;rw[show a-c=G+1+q by omega,show a-k-1=G+1+e by omega,he] at D;rw[he,hG] at r;rw[hG,show G+1-1=G by omega] at o;rw[ht,show b-k-1=e by omega];refine Pm.can (c:=pwS (B b) (G+1+q)*pwS l (e+1)*pwS h (G+1+e)*pwS (pwS h G) e) (fd_ne (fd_ne (fd_ne (pwS_ne p _)<|pwS_ne s.l0 _)<|pwS_ne s.h0 _)<|pwS_ne (pwS_ne s.h0 _) _) ?_;have N:pwS (B b) (G+1+q)*pwS l (e+1)*pwS h (G+1+e)*pwS (pwS h G) e*(x*(pwS (B b) t*pwS h' e))=pwS (pwS (B b)<|G+1+1) (e+1)*(x*(pwS l (e+1)*pwS h (G+1+e))):=by
  have i:pwS (pwS (B b)<|G+1+1) (e+1)=pwS (B b) (G+1+q)*pwS (B b) t*pwS (pwS (B b)<|G+1) e:=by
   rw[JE,JE,<-pwS_add,<-pwS_add]
   congr 1
   have:(G+1+1)*(e+1)=(G+1)*e+(G+1)+(e+1):=by
    rw[Ug (G+1) 1<|e+1,Qz,Wz,Ub]
   omega
  have P:pwS (pwS (B b)<|G+1) e=pwS h' e*pwS (pwS h G) e:=by rw[<-o,M5]
  rw[i,P];generalize pwS h' e=J;generalize pwS (pwS h G) e=T;generalize pwS (B b) (G+1+q)=v;generalize pwS (B b) t=X;generalize pwS l (e+1)=H;generalize pwS h (G+1+e)=Q;grind
 have U:pwS (B b) (G+1+q)*(pwS (l*pwS h (G+1)) (e+1)*y)=pwS (B b) (G+1+q)*pwS l (e+1)*pwS h (G+1+e)*pwS (pwS h G) e*y:=by
  have i:pwS (l*pwS h (G+1)) (e+1)=pwS l (e+1)*(pwS h (G+1+e)*pwS (pwS h G) e):=by
   rw[M5,JE,JE,<-pwS_add]
   congr 2
   have:(G+1)*(e+1)=G*e+G+(e+1):=by rw[Ug,Qz,Wz,Ub]
   omega
  rw[i];generalize pwS (pwS h G) e=T;generalize pwS (B b) (G+1+q)=v;generalize pwS l (e+1)=H;generalize pwS h (G+1+e)=Q;grind
 rw[N,<-U];refine Pm.trans (Pm.mul _ D)<|Pm.trans (.inl ?_)<|Pm.mul _ r;generalize pwS (pwS (B b)<|G+1+1) (e+1)=J;generalize pwS (B b) (G+1+q)=v;grind
end
end Lake.My.Rg
namespace Lake.My
open PySem L2 PyProof.Rows
section
variable{κ:KX}
theorem Nt:∀(N:Nat) (s:Sr κ),(∀k,N<=k->s.c k=0)->∃T:Ab κ,Bj T/\sr T=s/\T.length<=N
 | 0,s,h=>([],.inl rfl,Rg.Ps.ext λk=>by rw[AM,h k<|Qe _]; rfl,Q4 _)
 | N+1,s,h=>by
  by_cases z:s.c N=0
  ·obtain ⟨T,a,b,l⟩:=Nt N s λk c=>by
    by_cases x:k=N
    ·rw[x]; exact z
    ·exact h k ⋯
   exact (T,a,b,⋯)
  ·have g:∀k,((List.range<|N+1).map s.c).getD k 0=s.c k:=λk=>by
    rw[Q3,Q7]
    by_cases x:k<N+1
    ·rw[Ww x]; rfl
    ·rw[U1 (by rw[Qu]; omega),h k ⋯]; rfl
   refine ((List.range<|N+1).map s.c,.inr ?_,Rg.Ps.ext λk=>by rw[AM,g],by rw[Q1,Qu]; exact Q4 _);rw[g,Q1,Qu]; exact z
theorem cR{d:Ab κ}{e:Sr κ}(b:KD d)(l:Fs e)(h:e*sr d=0):e=0:=by
 obtain ⟨N,g⟩:=l;obtain ⟨m,hm⟩:∃m,d.length=m+1:=(d.length-1,by have:=b.1;omega);have top:=b.2;rw[hm,Wb] at top;have z:∀n,(∀k,n<=k->e.c k=0)->∀k,e.c k=0:=λn=>by
  induction n with
  |zero=>exact λq k=>q k<|Qe _
  |succ n j =>
   intro q;refine j λk o=>?_
   by_cases ek:k=n
   ·subst ek;have c:(e*sr d).c (k+m)=0:=by rw[h,Rg.Ps.c_zero]
    rw[Rg.Ps.c_mul,show k+m+1=k+1+m by omega,F4 (h:=λi=>e.c i*(sr d).c (k+m-i)) (n:=k+1) m λi a=>by
     rw[q i a];grind] at c
    have f:Rg.Sg (λi=>e.c i*(sr d).c (k+m-i)) (k+1)=Rg.Sg (λ_=>0) k+e.c k*(sr d).c (k+m-k):=by
     show Rg.Sg _ k+_=_
     congr 1
     refine Rg.Sg_congr λi a=>?_;rw[AM,BF ⋯];grind
    rw[f,Rg.Sg_zero,AM,show k+m-k=m by omega,top] at c;grind
   ·exact q k ⋯
 exact Rg.Ps.ext λk=>by rw[z N g k,Rg.Ps.c_zero]
theorem QX{d:Ab κ}{x y:Sr κ}(a:KD d)(b:Fs x)(c:Fs y)(h:x*sr d=y*sr d):x=y:=by
 have:=cR a (b.sub c) (by generalize sr d=s at *;grind);grind
noncomputable def lx(r:κ.F):Sr κ:=Rg.lin (0-r) 1
theorem GX(r:κ.F):lx r=sr [0-r,1]:=Rg.Ps.ext λk=>by
 match k with
 |0=>rfl
 |1=>rfl
 |k+2=>rfl
theorem Fs.lx(r:κ.F):Fs (lx r):=by rw[GX];exact Fs.sr _
theorem FL(r:κ.F)(t:Sr κ)(k:Nat):(lx r*t).c k=(if k=0 then 0 else t.c (k-1))-r*t.c k:=by
 rw[show lx r*t=t*lx r by grind];show (t*Rg.lin (0-r) 1).c k=_;rw[Rg.mul_lin]
 split <;> grind
theorem gO(r s:κ.F):lx r-lx s=cn (s-r):=Rg.Ps.ext λk=>by
 rw[Rg.Ps.c_sub,CO]
 match k with
 |0=>show (0-r)-(0-s)=s-r;grind
 |1=>show (1:κ.F)-1=0;grind
 |k+2=>show (0:κ.F)-0=0;grind
def Ev(s:Sr κ)(r v:κ.F):Prop:=∃q,Fs q/\s=lx r*q+cn v
theorem Hn(x y:κ.F):cn (x+y)=cn x+cn y:=Rg.Ps.ext λk=>by
 rw[Rg.Ps.c_add,CO,CO,CO]
 split <;> grind
theorem IY(x y:κ.F):cn (x-y)=cn x-cn y:=Rg.Ps.ext λk=>by
 rw[Rg.Ps.c_sub,CO,CO,CO]
 split <;> grind
theorem Z9{x y:κ.F}(h:cn x=cn y):x=y:=by
 have:=qW (λs:Sr κ=>s.c 0) h
 simpa [CO] using this
theorem Ev.one{s:Sr κ}{r v w:κ.F}(h:Ev s r v)(g:Ev s r w):v=w:=by
 obtain ⟨a,d,i⟩:=h;obtain ⟨b,c,f⟩:=g;have e:sr [w-v]=(a-b)*sr [0-r,1]:=by
  rw[<-GX];show cn (w-v)=_;rw[IY];grind
 have z:=P7 (m:=1) rfl rfl (by show 1<=1;decide) (d.sub c) e;have z:=z;rw[<-Ef] at z;have:=Z9 z;grind
theorem Ev.cn(r c:κ.F):Ev (My.cn c) r c:=(0,Fs.zero,by grind)
theorem Ev.lx(r s:κ.F):Ev (My.lx s) r (r-s):=(1,Fs.one,by have:=gO s r;rw[<-this];grind)
theorem Ev.add{s t:Sr κ}{r v w:κ.F}(h:Ev s r v)(g:Ev t r w):Ev (s+t) r (v+w):=by
 obtain ⟨a,f,d⟩:=h;obtain ⟨b,e,c⟩:=g;exact (a+b,f.add e,by rw[d,c,Hn];grind)
theorem Ev.mul{s t:Sr κ}{r v w:κ.F}(h:Ev s r v)(g:Ev t r w):Ev (s*t) r (v*w):=by
 obtain ⟨a,d,f⟩:=h;obtain ⟨b,c,e⟩:=g;refine (a*(My.lx r*b)+a*My.cn w+My.cn v*b,((d.mul<|(Fs.lx r).mul c).add<|d.mul<|.cn w).add<|(Fs.cn v).mul c,?_);rw[f,e,<-G0];grind
noncomputable def xx:Sr κ:=lx 0
theorem gX(t:Sr κ)(k:Nat):(xx*t).c k=if k=0 then 0 else t.c (k-1):=by
 unfold xx;rw[FL]
 split <;> grind
theorem dP(a:κ.F)(g:Ab κ):sr (a::g)=cn a+xx*sr g:=Rg.Ps.ext λk=>by
 rw[Rg.Ps.c_add,CO,gX,AM,AM]
 cases k with
 |zero=>show a=_;rw[qK rfl,qK rfl];grind
 |succ k=>rw[qI ⋯,qI ⋯];rw[Wb];grind
noncomputable def Bb(r:κ.F):Ab κ->κ.F
 | []=>0
 |a::g=>a+r*Bb r g
theorem Es(r:κ.F):∀f:Ab κ,Ev (sr f) r<|Bb r f
 | []=>by rw[Ht,<-Ef];exact Ev.cn r 0
 |a::g=>by
  rw[dP];have h:=(Ev.lx r (0:κ.F)).mul<|Es r g;rw[show r-0=r by grind] at h;exact (Ev.cn r a).add h
theorem Ev.ex{s:Sr κ}(h:Fs s)(r:κ.F):∃v,Ev s r v:=by
 obtain ⟨N,a⟩:=h;obtain ⟨T,_,e,_⟩:=Nt N s a;exact (_,e ▸ Es r T)
def Cp(u v:Sr κ):Prop:=∃a b,Fs a/\Fs b/\a*u+b*v=1
theorem Cp.symm{u v:Sr κ}(h:Cp u v):Cp v u:=let ⟨a,b,fa,fb,e⟩:=h;(b,a,fb,fa,by grind)
theorem Cp.mul{u v w:Sr κ}(m:Fs u)(n:Fs v)(l:Fs w)(h:Cp u w)(g:Cp v w):Cp (u*v) w:=by
 obtain ⟨a,b,k,f,e⟩:=h;obtain ⟨c,d,j,i,o⟩:=g;exact (a*c,a*u*d+b*(c*v)+b*(d*w),k.mul j,(((k.mul m).mul i).add<|f.mul<|j.mul n).add<|f.mul<|i.mul l,by grind)
theorem Cp.add{u v t:Sr κ}(d:Fs t)(h:Cp u v):Cp u (v+u*t):=by
 obtain ⟨a,b,f,c,e⟩:=h;exact (a-b*t,b,f.sub<|c.mul d,c,by grind)
theorem Cp.left{u v w:Sr κ}(f:Fs v)(h:Cp (u*v) w):Cp u w:=by
 obtain ⟨a,b,d,c,e⟩:=h;exact (a*v,b,d.mul f,c,by grind)
theorem Cp.lx{s:Sr κ}{r v:κ.F}(h:Ev s r v)(b:v≠0):Cp (My.lx r) s:=by
 obtain ⟨q,a,e⟩:=h;have i:=EK b;exact (0-My.cn (Fd.inv v)*q,My.cn<|Fd.inv v,Fs.zero.sub<|(Fs.cn _).mul a,.cn _,by rw[e];grind)
theorem XQ(x y:κ.F):x*0+y*0=0:=by grind
theorem Cp.nz{s t:Sr κ}{r v w:κ.F}(h:Cp s t)(c:Ev s r v)(f:Ev t r w)(g:v=0):w≠0:=λj=>by
 obtain ⟨a,b,m,d,e⟩:=h;obtain ⟨x,k⟩:=Ev.ex m r;obtain ⟨y,l⟩:=Ev.ex d r;have z:=(k.mul c).add<|l.mul f;rw[e,g,j,<-CJ] at z;have i:=XQ x y;have:=z.one<|Ev.cn r 1;exact Fd.zne<|i.symm.trans this
noncomputable def nt:Nat->κ.F
 |0=>0
 |n+1=>nt n+1
noncomputable def der(s:Sr κ):Sr κ:=⟨λk=>nt (k+1)*s.c (k+1)⟩
theorem D1(s:Sr κ)(k:Nat):(der s).c k=nt (k+1)*s.c (k+1):=rfl
theorem Gm(r:κ.F)(t:Sr κ):der (lx r*t)=t+lx r*der t:=Rg.Ps.ext λk=>by
 rw[Rg.Ps.c_add,D1,FL,FL,D1,qI ⋯,Wb];show (nt k+1)*(t.c k-r*t.c (k+1))=t.c k+((if k=0 then 0 else (der t).c (k-1))-r*((nt k+1)*t.c (k+1)))
 cases k with
 |zero=>rw[qK rfl];show (0+1)*_=_+(0-r*((0+1)*_));grind
 |succ k=>rw[qI ⋯,Wb,D1];grind
theorem Tf(c:κ.F)(t:Sr κ):der (cn c*t)=cn c*der t:=Rg.Ps.ext λk=>by
 rw[D1,DA,DA,D1];grind
theorem Fs.der{s:Sr κ}(h:Fs s):Fs (My.der s):=let ⟨N,hN⟩:=h;(N,λk a=>by rw[D1,hN (k+1) ⋯];grind)
def Bl(s:Sr κ)(n:Nat):Prop:=s.c n=1/\∀k,n<k->s.c k=0
theorem Bl.fs{s:Sr κ}(h:Bl s n):Fs s:=(n+1,λk a=>h.2 k a)
theorem Bl.one:Bl (1:Sr κ) 0:=(rfl,λk a=>by rw[<-CJ,CO,qI ⋯])
theorem Bl.lx{s:Sr κ}(h:Bl s n)(r:κ.F):Bl (My.lx r*s) (n+1):=by
 refine (?_,λk a=>?_)
 ·rw[FL,qI ⋯,Wb,h.1,h.2 (n+1) ⋯];grind
 ·rw[FL,qI ⋯,h.2 (k-1) ⋯,h.2 k ⋯];grind
noncomputable def prL(h:Sr κ):Ab κ->Sr κ
 | []=>h
 |r::us=>lx r*prL h us
structure Sq (F:Sr κ) (us:Ab κ) (D E W:Sr κ):Prop where
 dD:∃n,Bl D n
 dE:∃n,Bl E n
 fW:Fs W
 e1:F=D*E
 e2:der F=D*W
 cW:Cp E W
 cE:Cp E (der E)
 rt:∀r,Ev E r 0↔r∈us
 mu:∀r,r∈us->∃(m:Nat) (v:κ.F),Ev (der E) r v/\v≠0/\Ev W r (nt (m+1)*v)
 dl:∃ds:Ab κ,D=prL 1 ds
theorem Sq.base{h:Sr κ}(m:Bl h n)(c:Cp h (der h))(z:∀r,¬Ev h r 0):Sq h [] 1 h (der h) :=
 ((0,.one),(n,m),m.fs.der,by grind,by grind,c,c,λr=>(λe=>absurd e<|z r,λe=>nomatch e),(λr e=>nomatch e),([],rfl))
theorem Fi{s:Sr κ}{r v w:κ.F}(h:Ev s r v)(e:v=w):Ev s r w:=e ▸ h
theorem Lc{x y:κ.F}(h:x*y=0)(b:x≠0):y=0:=rJ λa=>Rg.fd_ne b a h
theorem Sq.step(ch:∀n,nt (κ:=κ) (n+1)≠0){F:Sr κ}{us:Ab κ}{D E W:Sr κ}(s:Sq F us D E W)(r:κ.F):∃Z X U,Sq (lx r*F) (r::us) Z X U:=by
 obtain ⟨nD,mD⟩:=s.dD;obtain ⟨nE,J⟩:=s.dE;have b:=J.fs;have f:=Fs.lx r;have p:Ev (lx r) r 0:=Fi (Ev.lx r r) (by grind);have P:der (lx r*F)=D*E+lx r*(D*W):=by rw[Gm,s.e2,s.e1]
 by_cases hr:r∈us
 ·obtain ⟨q,g,Y⟩:=(s.rt r).mpr hr
  have j:E=lx r*q:=by rw[Y,Ef]; grind
  obtain ⟨m,v,Q,O,N⟩:=s.mu r hr;have S:der E=q+lx r*der q:=by rw[j,Gm]
  have K:Ev q r v:=by
   obtain ⟨w,a⟩:=Ev.ex g r;obtain ⟨u,l⟩:=Ev.ex g.der r;have:=a.add<|p.mul l;rw[<-S] at this;have e:=this.one Q;exact Fi a (by rw[<-e]; grind)
  have cq:Cp q W:=by
   have:=s.cW;rw[j,show lx r*q=q*lx r by grind] at this;exact this.left f
  refine (lx r*D,E,q+W,(_,mD.lx r),s.dE,g.add s.fW,by rw[s.e1]; grind,?_,?_,s.cE,λx=>?_,λx hx=>?_,let ⟨ds,e⟩:=s.dl; (r::ds,by rw[e]; rfl))
  ·rw[P,j]
   generalize lx r=L;grind
  ·have C:Cp (lx r) (q+W):=Cp.lx (K.add N) λz=>by
    have:nt (m+1+1)*v=0:=by
     show (nt (m+1)+1)*v=0;rw[<-z]; grind
    exact O<|Lc this<|ch<|m+1
   have o:Cp q (q+W):=by
    have:=cq.add (t:=1) Fs.one;rw[show W+q*1=q+W by grind] at this;exact this
   rw[j];exact Cp.mul f g (g.add s.fW) C o
  ·rw[s.rt,Qd]
   exact (.inr,λh=>h.elim (λe=>e ▸ hr) id)
  ·have hx:x∈us:=by
    rcases Qd.mp hx with e | e
    ·rw[e]; exact hr
    ·exact e
   by_cases d:x=r
   ·subst d
    refine (m+1,v,Q,O,Fi (K.add N) ?_);show v+nt (m+1)*v=(nt (m+1)+1)*v;grind
   ·obtain ⟨T,B,y,H,G⟩:=s.mu x hx
    refine (T,B,y,H,?_);obtain ⟨w,a⟩:=Ev.ex g x;have i:=(Ev.lx x r).mul a;rw[<-j] at i;have I:w=0:=Lc (i.one<|(s.rt x).mpr hx) λz=>d (by grind);rw[I] at a;exact Fi (a.add G) (by grind)
 ·obtain ⟨v,k⟩:=Ev.ex b r
  have A:v≠0:=λz=>hr<|(s.rt r).mp<|z ▸ k;have cl:Cp (lx r) E:=Cp.lx k A;have o:∀ {w:Sr κ},Fs w->Cp E w->Cp (lx r*E) (E+lx r*w):=fun {w} fw c=>by
   obtain ⟨u,l⟩:=Ev.ex fw r;have C:Cp (lx r) (E+lx r*w):=Cp.lx (v:=v) (Fi (k.add<|p.mul l) (by grind)) A;have R:Cp E (E+lx r*w):=by
    have:=(Cp.mul f fw b cl c.symm).symm.add (t:=1) Fs.one;rw[show lx r*w+E*1=E+lx r*w by grind] at this;exact this
   exact Cp.mul f b (b.add<|f.mul fw) C R
  refine (D,lx r*E,E+lx r*W,s.dD,(_,J.lx r),b.add<|f.mul s.fW,by rw[s.e1]; grind,by rw[P]; grind,o s.fW s.cW,by rw[Gm]; exact o b.der s.cE,λx=>?_,λx hx=>?_,s.dl)
  ·obtain ⟨w,a⟩:=Ev.ex b x
   have i:=(Ev.lx x r).mul a;rw[Qd,<-s.rt];refine (λh=>?_,λh=>?_)
   ·by_cases d:x=r
    ·exact .inl d
    ·have I:w=0:=Lc (i.one h) λz=>d (by grind)
     exact .inr<|I ▸ a
   ·rcases h with h | h
    ·subst h; exact Fi i (by grind)
    ·exact Fi i (by rw[a.one h]; grind)
  ·rw[Gm]
   rcases Qd.mp hx with e | hx
   ·subst e
    obtain ⟨u,l⟩:=Ev.ex b.der x;obtain ⟨w,a⟩:=Ev.ex s.fW x;refine (0,v,Fi (k.add<|p.mul l) (by grind),A,Fi (k.add<|p.mul a) ?_);show v+0*w=(0+1)*v;grind
   ·obtain ⟨m,B,y,H,G⟩:=s.mu x hx
    have d:x-r≠0:=λz=>hr (by rw[show r=x by grind]; exact hx);have M:=(s.rt x).mpr hx;refine (m,(x-r)*B,Fi (M.add<|(Ev.lx x r).mul y) (by grind),Rg.fd_ne d H,Fi (M.add<|(Ev.lx x r).mul G) (by grind))
theorem Sq.all(ch:∀n,nt (κ:=κ) (n+1)≠0){h:Sr κ}{n:Nat}(m:Bl h n)(c:Cp h (der h))(z:∀r,¬Ev h r 0):∀us,∃D E W,Sq (prL h us) us D E W
 | []=>(1,h,der h,.base m c z)
 |r::us=>let ⟨_,_,_,s⟩:=Sq.all ch m c z us;s.step ch r
theorem VJ{t:Sr κ}(h:Bl t n):∃T:Ab κ,sr T=t/\T.length=n+1/\T.getD n 0=1:=by
 have g:∀k,((List.range<|n+1).map t.c).getD k 0=if k<n+1 then t.c k else 0:=λk=>by
  rw[Q3,Q7]
  by_cases z:k<n+1
  ·rw[Ww z,qK z];rfl
  ·rw[U1 (by rw[Qu];omega),qI z];rfl
 refine ((List.range<|n+1).map t.c,Rg.Ps.ext λk=>?_,by rw[Q1,Qu],by rw[g,qK ⋯];exact h.1);rw[AM,g]
 split
 ·rfl
 ·exact (h.2 k ⋯).symm
theorem IC{t R e:Sr κ}(h:Bl t n)(d:∀k,n<=k->R.c k=0)(b:Fs e)(f:R=e*t):R=0:=by
 obtain ⟨T,rfl,a,c⟩:=VJ h;obtain ⟨L,_,rfl,g⟩:=Nt n R d;exact P7 a c g b f
theorem Fs.deg{s:Sr κ}(h:Fs s)(z:s≠0):∃n,s.c n≠0/\∀k,n<k->s.c k=0:=by
 obtain ⟨N,a⟩:=h
 induction N with
 | zero=>exact absurd (Rg.Ps.ext λk=>by rw[a k<|Qe k,Rg.Ps.c_zero]) z
 | succ N c =>
  by_cases e:s.c N=0
  ·exact c λk b=>by
    by_cases y:k=N
    ·rw[y]; exact e
    ·exact a k ⋯
  ·exact (N,e,λk b=>a k b)
theorem Zo{s:Sr κ}(h:s.c n≠0)(g:∀k,n<k->s.c k=0):Bl (cn (Fd.inv<|s.c n)*s) n:=by
 have i:=Fd.mul_inv _ h;refine (?_,λk a=>?_)
 ·rw[DA];grind
 ·rw[DA,g k a];grind
theorem aO{s t k m:Sr κ}(b:Bl s n)(a:Bl t c)(f:Fs k)(l:Fs m)(e1:s=k*t)(e2:t=m*s):s=t:=by
 have d:∀ {s:Sr κ} {n:Nat},Bl s n->s≠0:=fun {s n} h z=>Fd.zne (by rw[<-h.1,z,Rg.Ps.c_zero])
 have p:¬n<c:=λz=>d b<|IC a (λj g=>b.2 j ⋯) f e1;have o:¬c<n:=λz=>d a<|IC b (λj g=>a.2 j ⋯) l e2;have i:c=n:=⋯;subst i;have z:=IC (R:=s-t) (e:=k-1) a (λj g=>?_) (f.sub Fs.one) (by rw[e1];grind)
 ·have:s=s-t+t:=by grind
  rw[this,z];grind
 ·rw[Rg.Ps.c_sub]
  by_cases y:j=c
  ·rw[y,b.1,a.1];grind
  ·rw[b.2 j ⋯,a.2 j ⋯];grind
theorem Sq.gcd{F D E W r:Sr κ}{us:Ab κ}{c:κ.F}(s:Sq F us D E W)(x:c≠0)(y:Bl r n)(z:∃a b,Fs a/\Fs b/\r=cn c*F*a+der (cn c*F)*b)(q:∃a b,Fs a/\Fs b/\cn c*F=a*r/\der (cn c*F)=b*r):r=D:=by
 obtain ⟨a,b,C,p,e⟩:=z;obtain ⟨d,f,h,g,o,l⟩:=q;obtain ⟨H,B⟩:=s.dD;obtain ⟨I,t⟩:=s.dE;obtain ⟨u,v,A,G,w⟩:=s.cW;rw[Tf,s.e2] at e l;rw[s.e1] at e o;have i:=EK x;refine aO y B (k:=cn c*E*a+cn c*W*b) (m:=cn (Fd.inv c)*(u*d+v*f)) ((((Fs.cn c).mul t.fs).mul C).add<|((Fs.cn c).mul s.fW).mul p) ((Fs.cn _).mul<|(A.mul h).add<|G.mul g) (by rw[e];grind) ?_;have:D=D*(u*E+v*W):=by rw[w];grind
 have k:cn (Fd.inv c)*(u*d+v*f)*r=cn (Fd.inv c)*(u*(d*r)+v*(f*r)):=by grind
 rw[k,<-o,<-l];have j:cn (Fd.inv c)*(u*(cn c*(D*E))+v*(cn c*(D*W)))=cn (Fd.inv c)*cn c*(D*(u*E+v*W)):=by grind
 rw[j,i,<-this];grind
theorem kE{d x y:Sr κ}(m:Bl d n)(a:Fs x)(e:Fs y)(h:x*d=y*d):x=y:=by
 obtain ⟨T,rfl,b,c⟩:=VJ m;exact QX (⋯,by rw[b,Wb];exact c) a e h
theorem jJ{D E Q R:Sr κ}{c:κ.F}(b:Bl D n)(d:Fs E)(a:Fs Q)(f:∀k,n<=k->R.c k=0)(e:cn c*(D*E)=Q*D+R):Q=cn c*E:=by
 have z:=IC (e:=cn c*E-Q) b f (((Fs.cn c).mul d).sub a) (by grind);exact (kE b a ((Fs.cn c).mul d) (by rw[z] at e;grind))
theorem UT{B:Nat->κ.F}(c:B b≠0)(a:∀d,b<d->B d=0):∀(n:Nat) (A:Nat->κ.F),(∀d,b+n<=d->A d=0)->∃Qc C:Nat->κ.F,(∀d,A d=C d+Rg.Sg (λs=>Qc s*Rg.sh s B d) n)/\∀d,b<=d->C d=0
 |0,A,hA=>(λ_=>0,A,λd=>by show A d=A d+0;grind,λd j=>hA d ⋯)
 |n+1,A,hA=>by
  have i:=Fd.mul_inv _ c;obtain ⟨Qc,C,h,k⟩:=UT c a n (λd=>A d-A (b+n)*Fd.inv (B b)*Rg.sh n B d) λd j=>by
   by_cases y:d=b+n
   ·subst y;unfold Rg.sh;rw[qI ⋯,Wb];grind
   ·unfold Rg.sh;rw[qI ⋯,hA d ⋯,a (d-n) ⋯];grind
  refine (λs=>if s<n then Qc s else A (b+n)*Fd.inv (B b),C,λd=>?_,k);have e:=h d;show A d=C d+(Rg.Sg (λs=>(if s<n then Qc s else A (b+n)*Fd.inv (B b))*Rg.sh s B d) n+(if n<n then Qc n else A (b+n)*Fd.inv (B b))*Rg.sh n B d);rw[qI<|Qs n,Rg.Sg_congr (g:=λs=>Qc s*Rg.sh s B d) λs f=>by rw[qK f]];grind
theorem R6(Qc B:Nat->κ.F)(n d:Nat):Rg.Sg (λs=>Qc s*Rg.sh s B d) n=((⟨λs=>if s<n then Qc s else 0⟩:Sr κ)*⟨B⟩).c d:=by
 rw[Rg.Ps.c_mul];show _=Rg.Sg (λi=>(if i<n then Qc i else 0)*B (d-i)) (d+1);have b:Rg.Sg (λs=>Qc s*Rg.sh s B d) n=Rg.Sg (λs=>(if s<n then Qc s else 0)*(if d<s then 0 else B (d-s))) n:=Rg.Sg_congr λs a=>by rw[qK a];rfl
 have e:Rg.Sg (λi=>(if i<n then Qc i else 0)*B (d-i)) (d+1)=Rg.Sg (λs=>(if s<n then Qc s else 0)*(if d<s then 0 else B (d-s))) (d+1):=Rg.Sg_congr λs a=>by rw[qI (show ¬d<s by omega)]
 rw[b,e]
 by_cases z:n<=d+1
 ·obtain ⟨j,ej⟩:∃j,d+1=n+j:=(d+1-n,⋯);rw[ej];exact (F4 j λi c=>by rw[qI ⋯];grind).symm
 ·obtain ⟨j,rfl⟩:∃j,n=d+1+j:=(n-(d+1),⋯);exact F4 j λi c=>by rw[qK (show d<i by omega)];grind
theorem Rs:∀(N a b:Nat) (A B:Nat->κ.F),b<=N->b<a->B b≠0->(∀d,b<d->B d=0)->(∀d,a<d->A d=0)->Cp (⟨A⟩:Sr κ) ⟨B⟩->Rg.Nk A B a b 0 0≠0
 |N,a,0,A,B,_,ab,b0,hB,hA,_=>λz=>by
  have h:=Rg.Nk_top (A:=A) hB ab;rw[z] at h;refine Rg.pwS_ne b0 (a-0) ?_;rcases h with h|h
  ·exact h.symm
  ·grind
 |0,_,b+1,_,_,hN,_,_,_,_,_=>absurd hN ⋯
 |N+1,a,b+1,A,B,hN,ab,b0,hB,hA,cp=>λz=>by
  obtain ⟨H,C,D,w⟩:=UT b0 hB (a-(b+1)+1) A λd K=>hA d ⋯;obtain ⟨u,v,l,E,e⟩:=cp;have L:Fs (⟨B⟩:Sr κ):=(b+2,λk j=>hB k ⋯);have F:Fs (⟨C⟩:Sr κ):=(b+1,λk j=>w k j)
  let q:Sr κ:=⟨λs=>if s<a-(b+1)+1 then H s else 0⟩
  have t:Fs q:=(a-(b+1)+1,λk j=>qI ⋯);have x:(⟨A⟩:Sr κ)=⟨C⟩+q*⟨B⟩:=Rg.Ps.ext λd=>by
   rw[Rg.Ps.c_add];show A d=C d+_;rw[D d,R6]
  by_cases c0:(⟨C⟩:Sr κ)=0
  ·have m:=Zo (s:=(⟨B⟩:Sr κ)) (n:=b+1) b0 hB;have i:=Fd.mul_inv _ b0;have:=IC (R:=1) (e:=(u*q+v)*cn (B<|b+1)) m (λk j=>by rw[<-CJ,CO,qI ⋯]) (((l.mul t).add E).mul<|.cn _) (by
    have ic:cn (B<|b+1)*cn (Fd.inv<|B<|b+1)=1:=by rw[G0,i,CJ]
    have G:1=(u*q+v)*⟨B⟩:=by rw[<-e,x,c0];grind
    have J:(u*q+v)*cn (B<|b+1)*(cn (Fd.inv<|B<|b+1)*⟨B⟩)=(u*q+v)*⟨B⟩*(cn (B<|b+1)*cn (Fd.inv<|B<|b+1)):=by grind
    show 1=(u*q+v)*cn (B<|b+1)*(cn (Fd.inv<|B<|b+1)*⟨B⟩);rw[J,ic,<-G];grind)
   have o:=qW (λs:Sr κ=>s.c 0) this;have o:(1:κ.F)=0:=o;exact Fd.zne o.symm
  ·obtain ⟨c,g,f⟩:=Fs.deg F c0;have g:C c≠0:=g;have p:c<b+1:=rJ λy=>g<|w c ⋯;have r:=Rg.Nk_red (k:=0) (i0:=0) D hB f ab p<|Qe c;rw[z] at r;have I:=Rs N (b+1) c B C ⋯ p g f hB (v+u*q,u,E.add<|l.mul t,l,by rw[<-e,x];grind);refine Rg.fd_ne (Rg.pwS_ne b0<|a-c) I ?_;rcases r with r|r
   ·exact r.symm
   ·grind
theorem RJ(p q:Nat)(X Y:Nat->κ.F)(u:Nat->κ.F):∀n,n<=p+q->∃s t:Sr κ,Fs s/\Fs t/\∀d,Rg.Sg (λi=>u i*Rg.rwS p q X Y i d) n=(s*⟨X⟩+t*⟨Y⟩).c d
 |0,_=>(0,0,Fs.zero,Fs.zero,λd=>by
  rw[show (0:Sr κ)*⟨X⟩+0*⟨Y⟩=0 by grind,Rg.Ps.c_zero];rfl)
 |n+1,h=>by
  obtain ⟨s,t,b,c,e⟩:=RJ p q X Y u n ⋯;have one:∀(m:Nat) (Z:Nat->κ.F) (d:Nat),u n*Rg.sh m Z d=((⟨λj=>if j=m then u n else 0⟩:Sr κ)*⟨Z⟩).c d:=λm Z d=>by
   have:=R6 (λj=>if j=m then u n else 0) Z (m+1) d;rw[Rg.Sg_only (i:=m) ⋯ λj g f=>by rw[qI f];grind,qK rfl] at this;rw[this,show (⟨λs=>if s<m+1 then if s=m then u n else 0 else 0⟩:Sr κ)=⟨λj=>if j=m then u n else 0⟩ from Rg.Ps.ext λj=>by
    show (if j<m+1 then if j=m then u n else 0 else 0)=if j=m then u n else 0
    by_cases y:j=m
    ·rw[qK ⋯]
    ·rw[qI y];split <;> rfl]
  have a:∀m,Fs (⟨λj=>if j=m then u n else 0⟩:Sr κ):=λm=>(m+1,λk l=>qI ⋯)
  by_cases y:n<p
  ·refine (s+⟨λj=>if j=p-1-n then u n else 0⟩,t,b.add<|a _,c,λd=>?_);show Rg.Sg _ n+u n*Rg.rwS p q X Y n d=_;rw[e];unfold Rg.rwS;rw[qK y,one,<-Rg.Ps.c_add];refine qW (λs:Sr κ=>s.c d) ?_;grind
  ·refine (s,t+⟨λj=>if j=q-1-(n-p) then u n else 0⟩,b,c.add<|a _,λd=>?_);show Rg.Sg _ n+u n*Rg.rwS p q X Y n d=_;rw[e];unfold Rg.rwS;rw[qI y,one,<-Rg.Ps.c_add];refine qW (λs:Sr κ=>s.c d) ?_;grind
theorem mO{A B:Nat->κ.F}(h:Rg.Nk A B a b 0 0≠0)(l:∀d,a<d->A d=0)(p:∀d,b<d->B d=0)(u:1<=a):Cp (⟨A⟩:Sr κ) ⟨B⟩:=by
 unfold Rg.Nk Rg.dN at h;rw[U6,U6,U6] at h;obtain ⟨n,hn⟩:∃n,b+a=n+1:=(b+a-1,⋯);obtain ⟨M,hM⟩:∃M:Nat->Nat->κ.F,M=λi j=>Rg.rwS b a A B i (if j+1<b+a then a+b-1-j else 0):=(_,rfl);rw[<-hM] at h;obtain ⟨s,t,f,q,e⟩:=RJ b a A B (λi=>Rg.cofN n M n i) (b+a)<|Q4 _;rw[hn] at h e;have k:s*⟨A⟩+t*⟨B⟩=cn (Rg.det (n+1) M):=Rg.Ps.ext λd=>by
  rw[<-e d,CO]
  by_cases y:d<n+1
  ·-- the column of the degree d
   obtain ⟨j,hj,ej⟩:∃j,j<=n/\(if j+1<b+a then a+b-1-j else 0)=d:=by
    by_cases z:d=0
    ·exact (n,Q4 n,by rw[qI ⋯,z])
    ·exact (a+b-1-d,⋯,by rw[qK ⋯];omega)
   have m:=Rg.cof_left (n:=n) (i:=n) (j:=j) (a:=M) (Q4 n) hj;have o:∀i,Rg.rwS b a A B i d=M i j:=λi=>by rw[hM,<-ej]
   rw[Rg.Sg_congr (g:=λk=>Rg.cofN n M n k*M k j) λi _=>by rw[o],m]
   by_cases z:n=j
   ·rw[qK z,qK (by rw[<-ej,qI ⋯])]
   ·rw[qI z,qI (by rw[<-ej,qK ⋯];omega)]
  ·rw[qI ⋯,Rg.Sg_congr (g:=λ_=>0) λi r=>?_,Rg.Sg_zero];unfold Rg.rwS Rg.sh
   by_cases z:i<b
   ·rw[qK z,qI ⋯,l _ ⋯];grind
   ·rw[qI z,qI ⋯,p _ ⋯];grind
 have i:=EK h;generalize Rg.det (n+1) M=c at *;exact (cn (Fd.inv c)*s,cn (Fd.inv c)*t,(Fs.cn _).mul f,(Fs.cn _).mul q,by
  have:cn (Fd.inv c)*s*⟨A⟩+cn (Fd.inv c)*t*⟨B⟩=cn (Fd.inv c)*(s*⟨A⟩+t*⟨B⟩):=by grind
  rw[this,k,i])
noncomputable def zi(n:Int):κ.F:=@IntCast.intCast κ.F Lean.Grind.Ring.intCast n
theorem IG(a b:Int):zi (κ:=κ) (a+b)=zi a+zi b:=Lean.Grind.Ring.intCast_add a b
theorem Cj(a b:Int):zi (κ:=κ) (a*b)=zi a*zi b:=Lean.Grind.Ring.intCast_mul a b
theorem Ce:zi (κ:=κ) 1=1:=Lean.Grind.Ring.intCast_one
theorem Aq:zi (κ:=κ) 0=0:=Lean.Grind.Ring.intCast_zero
theorem FM(a b:Int):zi (κ:=κ) (a-b)=zi a-zi b:=by
 have:=IG (κ:=κ) (a-b) b;rw[Int.sub_add_cancel] at this;grind
theorem Gq(n:Nat):zi (κ:=κ) (n:Int)=nt n:=by
 induction n with
 |zero=>exact Aq
 |succ n a =>
  show zi ((n:Int)+1)=nt n+1;rw[IG,a,Ce]
theorem VH:∀(n:Nat) (a:Nat->Nat->Int),Rg.det n (λi j=>zi (κ:=κ)<|a i j)=zi (Rg.det n a)
 |0,_=>Ce.symm
 |n+1,a=>by
  have d:∀j,Rg.sgn κ.F j=zi (κ:=κ) (Rg.sgn Int j):=λj=>by
   induction j with
   |zero=>exact Ce.symm
   |succ j b =>
    show 0-Rg.sgn κ.F j=zi (0-Rg.sgn Int j);rw[b,FM,Aq]
  have c:∀(h:Nat->Int) m,Rg.Sg (λi=>zi (κ:=κ)<|h i) m=zi (Rg.Sg h m):=λh m=>by
   induction m with
   |zero=>exact Aq.symm
   |succ m b =>
    show Rg.Sg (λi=>zi (κ:=κ)<|h i) m+zi (h m)=zi (Rg.Sg h m+h m);rw[b,IG]
  show Rg.Sg (λj=>Rg.sgn κ.F j*zi (a 0 j)*Rg.det n λi k=>zi<|a (i+1)<|Rg.skip j k) (n+1)=zi (Rg.Sg (λj=>Rg.sgn Int j*a 0 j*Rg.det n λi k=>a (i+1)<|Rg.skip j k)<|n+1);rw[<-c];exact Rg.Sg_congr λj _=>by rw[VH n λi k=>a (i+1)<|Rg.skip j k,d,Cj,Cj]
theorem UG(A B:Nat->Int)(a b k i0:Nat):Rg.Nk (λd=>zi (κ:=κ)<|A d) (λd=>zi<|B d) a b k i0=zi (Rg.Nk A B a b k i0):=by
 unfold Rg.Nk Rg.dN;rw[<-VH];refine Rg.det_congr λi j _ _=>?_;generalize (if j+1<b-k+(a-k) then a+b-k-1-j else i0)=c;have sh:∀(t:Nat) (f:Nat->Int),Rg.sh t (λd=>zi (κ:=κ)<|f d) c=zi (Rg.sh t f c):=λt f=>by
  unfold Rg.sh
  split
  ·exact Aq.symm
  ·rfl
 unfold Rg.rwS
 split
 ·exact sh _ _
 ·exact sh _ _
end
def Od(n:Nat):Bool:=decide (2<=n)&&(List.range 70).all λd=>decide (d<2)||decide (n<=d)||decide (n%d≠0)
def LA:List Nat:=(List.range 3000).filter Od
def KS:List Nat->Nat->Bool
 | [],_=>true
 |p::l,acc=>decide (Nat.gcd p acc=1)&&KS l (acc*p)
def Mf:List Nat->Nat->Nat
 | [],acc=>acc
 |p::l,acc=>Mf l<|acc*p
theorem WE{N:Nat}:∀(l:List Nat) (a:Nat),KS l a=true->a ∣ N->(∀p∈l,p ∣ N)->Mf l a ∣ N
 | [],_,_,h,_=>h
 |p::l,a,c,h,k=>by
  unfold KS at c;rw[sN,qT] at c;refine WE l (a*p) c.2 ?_ λq b=>k q<|.tail _ b;exact Nat.Coprime.mul_dvd_of_dvd_of_dvd (Nat.Coprime.symm c.1) h<|k p<|.head _
theorem aZ:KS LA 1=true:=by decide +kernel
theorem jH:2^4000<Mf LA 1:=by decide +kernel
theorem Tu(h:Od n=true)(l:n<3000):M2.Prm (n:Int):=by
 unfold Od at h;rw[sN,qT,List.all_eq_true] at h;refine (⋯,λd b g c=>?_);have f:d*2<=d*d:=rF b ⋯;have a:d<70:=rJ λz=>by
  have:=Int.mul_le_mul (show (70:Int)<=d by omega) (show (70:Int)<=d by omega) ∅ ⋯;omega
 have:=h.2 d.toNat<|Wq.mpr ⋯;rw[Bool.or_eq_true,Bool.or_eq_true,qT,qT,qT] at this;rcases this with (z|z)|z
 ·omega
 ·omega
 ·refine z ?_;have e:=U9 c;have:((n%d.toNat:Nat):Int)=0:=by rw[U5,Uz ⋯];exact e
  omega
theorem R7{N:Int}(i:N≠0)(h:N.natAbs<=2^4000):∃p:Nat,BB p/\p<3000/\¬(p:Int) ∣ N:=by
 refine rJ λe=>?_;have g:∀p∈LA,p ∣ N.natAbs:=λp c=>by
  obtain ⟨b,f⟩:=Wn.mp c;have l:=Wq.mp b;refine rJ λa=>e (p,(Tu f l,⋯),l,λz=>a ?_);exact rS.mp<|Int.dvd_natAbs.mpr z
 have d:=WE LA 1 aZ (Nat.one_dvd _) g;have:=Wm ⋯ d;have:=jH;omega
def dJ(A:Nat->Int)(d:Nat):Int:=((d+1:Nat):Int)*A (d+1)
theorem Sn{h:Nat->Int}{M:Nat}:∀n,(∀i,i<n->(h i).natAbs<=M)->(Rg.Sg h n).natAbs<=n*M
 |0,_=>by show (0:Int).natAbs<=_;simp
 |n+1,e=>by
  show (Rg.Sg h n+h n).natAbs<=_;have c:=Sn n λi d=>e i ⋯;have a:=e n ⋯;have b:=Int.natAbs_add_le (Rg.Sg h n)<|h n;rw[Nat.succ_mul];omega
theorem Xx(n:Nat):(Rg.sgn Int n).natAbs=1:=by
 induction n with
 |zero=>rfl
 |succ n a =>
  show (0-Rg.sgn Int n).natAbs=1;omega
theorem UL{M:Nat}:∀(k:Nat) {a:Nat->Nat->Int},k<=14->(∀i j,(a i j).natAbs<=M)->(Rg.det k a).natAbs<=(14*M)^k
 |0,_,_,_=>Q4 1
 |k+1,a,hk,h=>by
  refine Q0 (Sn (M:=M*(14*M)^k) (k+1) λj _=>?_) ?_
  ·rw[Qj,Qj,Xx,Qz];exact Qk (h 0 j)<|UL k ⋯ λi t=>h (i+1)<|Rg.skip j t
  ·rw[W5,Wj ((14*M)^k)<|14*M,W8];exact W2 _ hk
theorem kC{A B:Nat->Int}{a b M:Nat}(g:∀d,(A d).natAbs<=M)(c:∀d,(B d).natAbs<=M)(l:b+a<=14):(Rg.Nk A B a b 0 0).natAbs<=(14*M)^(b+a):=by
 unfold Rg.Nk Rg.dN;refine UL _ l λi j=>?_;generalize (if j+1<b-0+(a-0) then a+b-0-1-j else 0)=e;unfold Rg.rwS;have k:∀(t:Nat) (f:Nat->Int),(∀d,(f d).natAbs<=M)->(Rg.sh t f e).natAbs<=M:=λt f h=>by
  unfold Rg.sh
  split
  ·exact Qe _
  ·exact h _
 split
 ·exact k _ _ g
 ·exact k _ _ c
section
variable{κ:KX}
theorem TB(A:Nat->Int):der (⟨λd=>zi (κ:=κ)<|A d⟩:Sr κ)=⟨λd=>zi<|dJ A d⟩:=Rg.Ps.ext λk=>by
 rw[D1];show nt (k+1)*zi (A<|k+1)=zi (dJ A k);unfold dJ;rw[Cj,Gq]
end
theorem Df:zi (κ:=.q) n=0↔n=0:=by
 have e:∀m:Nat,nt (κ:=.q) m=((m:Int):Rat):=λm=>by
  induction m with
  | zero=>rfl
  | succ m a =>
   show nt m+1=_;rw[a];rw[Ua,Rat.intCast_add]; rfl
 have k:∀m:Nat,zi (κ:=.q) (m:Int)=0↔(m:Int)=0:=λm=>by
  rw[Gq,e];exact (λh=>Rat.intCast_eq_zero_iff.mp h,λh=>by rw[h]; rfl)
 rcases Int.eq_nat_or_neg n with ⟨m,rfl | rfl⟩
 ·exact k m
 ·have b:zi (κ:=.q) (-(m:Int))=0-zi (m:Int):=by
   rw[show -(m:Int)=0-m by omega,FM,Aq]
  rw[b]
  constructor
  ·intro h
   have:zi (κ:=.q) (m:Int)=0:=by grind
   have:=(k m).mp this;omega
  ·intro h
   have:(m:Int)=0:=⋯;rw[(k m).mpr this]; grind
theorem MX{hp:BB p}:∀m:Nat,Fin.val (show Fin p from nt (κ:=.r p hp) m)=m%p
 |0=>by
  show Fin.val (K0<|.r p hp)=0%p;rw[Hs,Nat.zero_mod]
 |m+1=>by
  have e:Fin.val ((show Fin p from nt (κ:=.r p hp) m)+(K1 (.r p hp):Fin p))=_:=Fin.val_add _ _;rw[MX m,OM] at e;have a:=hp.two;have:(m%p+1)%p=(m+1)%p:=by rw[Nat.add_mod,Nat.mod_mod,<-Nat.add_mod]
  exact e.trans this
theorem EY{κ:KX}{p:Nat}{hp:BB p}(a:κ = .r p hp){n:Int}:zi (κ:=κ) n=0↔(p:Int) ∣ n:=by
 have c:=hp.two;have k:∀m:Nat,zi (κ:=κ) (m:Int)=0↔(p:Int) ∣ (m:Int):=λm=>by
  rw[Gq];subst a;have e:=MX (hp:=hp) m
  constructor
  ·intro h
   have h:(show Fin p from nt (κ:=.r p hp) m)=K0 (.r p hp):=h;rw[h,Hs] at e;exact rS.mpr<|Nat.dvd_of_mod_eq_zero e.symm
  ·intro h
   have:m%p=0:=Nat.mod_eq_zero_of_dvd<|rS.mp h;rw[this] at e;show (show Fin p from nt (κ:=.r p hp) m)=K0 (.r p hp);exact Fin.ext (by rw[e,Hs])
 rcases Int.eq_nat_or_neg n with ⟨m,rfl | rfl⟩
 ·exact k m
 ·have b:zi (κ:=κ) (-(m:Int))=0-zi (m:Int):=by
   rw[show -(m:Int)=0-m by omega,FM,Aq]
  rw[b,Int.dvd_neg,<-k m];generalize zi (κ:=κ) (m:Int)=x
  constructor
  ·intro h
   have:x=0-(0-x):=by grind
   rw[this,h]; grind
  ·intro h
   rw[h]; grind
theorem jV{A:Nat->Int}{n M:Nat}(n1:1<=n)(x:n<=7)(k:A n≠0)(h:∀d,n<d->A d=0)(e:∀d,(A d).natAbs<=M)(u:M*(14*(7*M))^13<=2^4000)(o:Cp (⟨λd=>zi (κ:=.q)<|A d⟩:Sr .q) (der ⟨λd=>zi<|A d⟩)):∃(p:Nat) (hp:BB p),p<3000/\¬(p:Int) ∣ A n/\∀κ:KX,κ = .r p hp->Cp (⟨λd=>zi (κ:=κ)<|A d⟩:Sr κ) (der ⟨λd=>zi<|A d⟩):=by
 obtain ⟨m,rfl⟩:∃m,n=m+1:=(n-1,⋯);have w:1<=M:=by have:=e<|m+1;omega
 have j:∀d,m<d->dJ A d=0:=λd c=>by unfold dJ;rw[h (d+1) ⋯,sZ]
 have v:dJ A m≠0:=by
  unfold dJ;exact Int.mul_ne_zero ⋯ k
 have s:Rg.Nk A (dJ A) (m+1) m 0 0≠0:=λz=>by
  rw[TB] at o;refine Rs m (m+1) m (λd=>zi (κ:=.q)<|A d) (λd=>zi<|dJ A d) (Q4 m) ⋯ (λy=>v<|Df.mp y) (λd c=>by rw[j d c];exact Aq) (λd c=>by rw[h d c];exact Aq) o ?_;rw[UG,z];exact Aq
 have g:∀d,(A d).natAbs<=7*M:=λd=>Q0 (e d) ⋯;have f:∀d,(dJ A d).natAbs<=7*M:=λd=>by
  by_cases y:m<d
  ·rw[j d y];exact Qe _
  ·unfold dJ;rw[Qj,Qa];exact Qk ⋯<|e _
 have t:=kC (a:=m+1) (b:=m) g f ⋯;have i:(14*(7*M))^(m+(m+1))<=(14*(7*M))^13:=Q8 ⋯ ⋯;obtain ⟨p,hp,l,q⟩:=R7 (N:=A (m+1)*Rg.Nk A (dJ A) (m+1) m 0 0) (Int.mul_ne_zero k s) (by
  rw[Qj];exact Q0 (Qk (e _)<|Q0 t i) u)
 refine (p,hp,l,λz=>q<|Um z,λκ r=>?_);rw[TB];refine mO (a:=m+1) (b:=m) (λz=>q ?_) (λd c=>by show zi (A d)=0;rw[h d c];exact Aq) (λd c=>by show zi (dJ A d)=0;rw[j d c];exact Aq) ⋯;rw[UG] at z;exact Int.dvd_mul_of_dvd_right<|(EY r).mp z
def vI(y:Int):List Int->Int
 | []=>0
 |a::g=>a+y*vI y g
def vD(y:Int):List Int->Int
 | []=>0
 |_::g=>vI y g+y*vD y g
def Cc(u v:Int):List Int->Int
 | []=>0
 |a::g=>a*v^g.length+u*Cc u v g
theorem Mm(l r d:Int):∀f:List Int,∃k,l*Cc (l*r+d) l f=l^f.length*vI r f+d*(l^(f.length-1)*vD r f)+d*d*k
 | []=>(0,by show l*0=l^0*0+d*(l^0*0)+d*d*0;simp)
 | [a]=>(0,by show l*(a*l^0+(l*r+d)*0)=l^1*(a+r*0)+d*(l^0*(0+r*0))+d*d*0;rw[Wx,Qo,Wx];grind)
 |a::b::g=>by
  obtain ⟨k,e⟩:=Mm l r d (b::g);refine ((l*r+d)*k+l^g.length*vD r (b::g),?_);show l*(a*l^(g.length+1)+(l*r+d)*Cc (l*r+d) l (b::g))=l^(g.length+1+1)*(a+r*vI r (b::g))+d*(l^(g.length+1)*(vI r (b::g)+r*vD r (b::g)))+d*d*_;have e:l*Cc (l*r+d) l (b::g)=l^(g.length+1)*vI r (b::g)+d*(l^g.length*vD r (b::g))+d*d*k:=e;generalize vI r (b::g)=x at *;generalize vD r (b::g)=y at *;generalize Cc (l*r+d) l (b::g)=h at *;rw[Qo] at e;rw[Qo l<|g.length+1,Qo l g.length];generalize l^g.length=z at *;have:l*(a*(z*l)+(l*r+d)*h)=l*a*(z*l)+(l*r+d)*(l*h):=by grind
  rw[this,e];grind
theorem XO{l r y B b:Int}(F:Cc y l f=0)(h:B ∣ y-l*r)(s:∃u v:Int,l*u+B*B*v=1)(C:∃v:Int,vD r f*b+B*B*v=1):B*B ∣ y-l*(r-vI r f*b):=by
 obtain ⟨k,e⟩:=Mm l r (y-l*r) f;rw[show l*r+(y-l*r)=y by omega,F,sZ] at e;obtain ⟨q,m⟩:=h;obtain ⟨u,v,E⟩:=s;obtain ⟨w,p⟩:=C;have D:B*B ∣ (y-l*r)*(y-l*r)*k:=(q*q*k,by rw[m];grind);have j:∀n:Nat,B*B ∣ l^n*(l*vI r f+(y-l*r)*vD r f)->B*B ∣ l*vI r f+(y-l*r)*vD r f:=λn=>by
  generalize l*vI r f+(y-l*r)*vD r f=X
  induction n with
  |zero=>intro h;rw[Wx,Wa] at h;exact h
  |succ n A =>
   intro h;refine A ?_;obtain ⟨c,i⟩:=h;rw[Qo] at i;refine (u*c+v*(l^n*X),?_);generalize l^n=z at *;have:z*X=z*X*(l*u+B*B*v):=by rw[E];grind
   rw[this];have:z*X*(l*u+B*B*v)=u*(z*l*X)+B*B*(v*(z*X)):=by grind
   rw[this,i];grind
 have o:B*B ∣ l*vI r f+(y-l*r)*vD r f:=by
  cases f with
  |nil=>exact (0,by show l*0+(y-l*r)*0=B*B*0;simp)
  |cons a g =>
   refine j g.length ?_;have e:0=l^(g.length+1)*vI r (a::g)+(y-l*r)*(l^g.length*vD r (a::g))+(y-l*r)*(y-l*r)*k:=e;obtain ⟨c,i⟩:=D;rw[i,Qo] at e;refine (-c,?_);have t:∀z x d y:Int,z*(l*x+d*y)=z*l*x+d*(z*y):=λ_ _ _ _=>by grind
   rw[t,U8];omega
 obtain ⟨c,i⟩:=o;refine (b*c+w*(y-l*r),?_);have:y-l*(r-vI r f*b)=(y-l*r)*(vD r f*b+B*B*w)+l*vI r f*b:=by rw[p];grind
 rw[this];have:(y-l*r)*(vD r f*b+B*B*w)+l*vI r f*b=b*(l*vI r f+(y-l*r)*vD r f)+B*B*(w*(y-l*r)):=by grind
 rw[this,i];grind
theorem SB(u v:Int):∀f:List Int,1<=f.length->∃k,Cc u v f=f.getD (f.length-1) 0*u^(f.length-1)+v*k
 | [a],_=>(0,by show a*v^0+u*0=a*u^0+v*0;simp)
 |a::b::g,_=>by
  obtain ⟨k,e⟩:=SB u v (b::g) (by simp);refine (a*v^g.length+u*k,?_);show a*v^(g.length+1)+u*Cc u v (b::g)=(b::g).getD g.length 0*u^(g.length+1)+v*_;have e:Cc u v (b::g)=(b::g).getD g.length 0*u^g.length+v*k:=e;rw[e,Qo,Qo];generalize v^g.length=z;generalize u^g.length=x;grind
theorem Xa(u v c:Int):∀f:List Int,1<=f.length->Cc (c*u) (c*v) f=c^(f.length-1)*Cc u v f
 | [a],_=>by show a*(c*v)^0+c*u*0=c^0*(a*v^0+u*0);simp
 |a::b::g,_=>by
  have e:Cc (c*u) (c*v) (b::g)=c^g.length*Cc u v (b::g):=Xa u v c (b::g) (by simp);show a*(c*v)^(g.length+1)+c*u*Cc (c*u) (c*v) (b::g)=c^(g.length+1)*(a*v^(g.length+1)+u*Cc u v (b::g));rw[e,Int.mul_pow,Qo c];generalize v^(g.length+1)=z;generalize c^g.length=x;grind
theorem Jg{u v x:Int}(h:Int.gcd u v=1):∀n,v ∣ x*u^n->v ∣ x
 |0,e=>by rw[Wx,U2] at e;exact e
 |n+1,e=>by
  rw[Qo,<-Qy] at e;have a:=Int.dvd_mul_gcd_iff_dvd_mul.mpr e;rw[Int.gcd_comm,h] at a;exact Jg h n (by rw[show ((1:Nat):Int)=1 from rfl,U2] at a;exact a)
theorem YX{f:List Int}(l:1<=f.length)(h:Cc u v f=0)(c:Int.gcd u v=1)(b:v≠0):∃k,f.getD (f.length-1) 0=k*v/\Cc (k*u) (k*v) f=0:=by
 obtain ⟨k,e⟩:=SB u v f l;have d:v ∣ f.getD (f.length-1) 0:=Jg c (f.length-1) (-k,by rw[h] at e;grind);obtain ⟨q,a⟩:=d;exact (q,by rw[a,Qx],by rw[Xa u v q f l,h,sZ])
theorem WM{u v:Int}{M:Nat}(j:2*v.natAbs<=u.natAbs):∀f:List Int,2<=f.length->(∀a∈f,a.natAbs<=M)->2*M*v.natAbs<(f.getD (f.length-1) 0*u).natAbs->M*v.natAbs^(f.length-1)<(Cc u v f).natAbs
 | [a,b],_,hM,d=>by
  show M*v.natAbs^1<(a*v^1+u*(b*v^0+u*0)).natAbs;have d:2*M*v.natAbs<(b*u).natAbs:=d;have i:=hM a (by simp);rw[Nat.pow_one,Qo,Wx,Wa,show a*v+u*(b*1+u*0)=a*v+b*u by grind];have n:(a*v).natAbs<=M*v.natAbs:=by rw[Qj]; exact W2 _ i
  have e:2*M*v.natAbs=M*v.natAbs+M*v.natAbs:=by rw[W8,Nat.two_mul]
  omega
 | a::b::c::g,_,hM,d=>by
  have k:M*v.natAbs^(g.length+1)<(Cc u v (b::c::g)).natAbs:=WM j (b::c::g) (by simp) (λx l=>hM x<|.tail _ l) d;have i:=hM a (by simp);show M*v.natAbs^(g.length+1+1)<(a*v^(g.length+1+1)+u*Cc u v (b::c::g)).natAbs;generalize Cc u v (b::c::g)=h at *;have n:(a*v^(g.length+1+1)).natAbs<=M*v.natAbs^(g.length+1+1):=by
   rw[Qj,Int.natAbs_pow]; exact W2 _ i
  have p:2*(M*v.natAbs^(g.length+1+1))<=(u*h).natAbs:=by
   rw[Qj];refine Q0 ?_<|Qk j<|Wf k;rw[W5 v.natAbs<|g.length+1];generalize v.natAbs^(g.length+1)=z;have:2*(M*(z*v.natAbs))=2*v.natAbs*(M*z):=by grind
   omega
  by_cases v0:v.natAbs=0
  ·have o:v=0:=⋯
   subst o;have m:0<u.natAbs:=by
    refine Uv λz=>?_;have:u=0:=⋯;rw[this,sZ] at d
    simp at d
   rw[Qo,sZ,sZ,Int.zero_add,Qj];rw[W5];show M*(_*0)<_;rw[Nat.mul_zero,Nat.mul_zero];exact Qg m ⋯
  ·have q:2*(M*v.natAbs^(g.length+1+1))<(u*h).natAbs:=by
    rw[Qj];refine Q5 ?_<|Nat.mul_lt_mul_of_le_of_lt j k ⋯;rw[W5 v.natAbs<|g.length+1];generalize v.natAbs^(g.length+1)=z;have:2*(M*(z*v.natAbs))=2*v.natAbs*(M*z):=by grind
    omega
   omega
section
variable{κ:KX}
theorem NG{h:Nat->κ.F}:∀k,(∀i,i<k->QN κ 1 M (h i))->QN κ 1 (k*M) (Rg.Sg h k)
 |0,_=>QN.zero
 |k+1,e=>by
  rw[Nat.succ_mul];exact QN.add ∅ (NG k λi a=>e i ⋯)<|e k ⋯
theorem Hb{x y:κ.F}(h:QN κ 1 M x)(g:QN κ 1 N y):QN κ 1 (M*N) (x*y):=h.mul g
theorem GR{x:κ.F}(h:QN κ 1 M x)(n:Nat):QN κ 1 (M^n) (AN x n):=by
 have:=OY (D:=1) h n;rw[Nat.one_pow] at this;exact this
theorem NW(x:κ.F)(m:Nat):∀n,AN x (m+n)=AN x m*AN x n
 |0=>by show AN x m=AN x m*1;grind
 |n+1=>by
  show AN x (m+n)*x=AN x m*(AN x n*x);rw[NW x m n];grind
theorem Z3{U L Q R:Ab κ}{g d a Sl:Nat}(T:L.length=d+1)(D:L.getD d 0≠0)(O:Q.length<=g+1)(P:R.length<=d)(W:g<=7)(X:0<Sl)
 (H:∀x∈U,QN κ 1 a x) (C:∀x∈L,QN κ 1 Sl x) (e:cn (AN (L.getD d 0)<|g+1)*sr U=sr Q*sr L+sr R) (k:Nat):QN κ 1 (9^g*(Sl^g*a)) (Q.getD k 0):=by
 have E:∀j,d<=j->AN (L.getD d 0) (g+1)*U.getD j 0=Rg.Sg (λi=>Q.getD i 0*gs L i j) (g+1):=λj hj=>by
  have z:=qW (λs=>s.c j) e;have z:(cn (AN (L.getD d 0)<|g+1)*sr U).c j=(sr Q*sr L+sr R).c j:=z;rw[DA,Rg.Ps.c_add,AM,AM,BF (F:=R) ⋯,VS O] at z;rw[z];generalize Rg.Sg (λi=>Q.getD i 0*gs L i j) (g+1)=s;grind
 have qc:=Dm C d;have o:∀i,gs L i (i+d)=L.getD d 0:=λi=>by unfold gs; rw[qK<|Uw _ _,sR]
 have p:∀i j,i+d<j->gs L i j=0:=λi j h=>by
  unfold gs
  split
  ·exact BF ⋯
  ·rfl
 generalize L.getD d 0=c at *;have A:∀n,n<=g->∀m,m<=n->∃z,Q.getD (g-m) 0=AN c (g-m)*z/\QN κ 1 (9^m*(Sl^m*a)) z:=by
  intro n
  induction n with
  | zero =>
   intro _ m u;have u:m=0:=⋯;subst u;refine (U.getD (g+d) 0,?_,?_)
   ·have h:=E (g+d) ⋯
    rw[Rg.Sg_only (i:=g) ⋯ λi t G=>by rw[p i (g+d) ⋯]; grind,o] at h;refine Rg.fd_can D ?_;have h:AN c g*c*U.getD (g+d) 0=Q.getD g 0*c:=h;show c*Q.getD (g-0) 0=c*(AN c (g-0)*U.getD (g+d) 0);rw[U6];grind
   ·rw[Nat.pow_zero,Nat.pow_zero,Qz,Qz]; exact Dm H _
  | succ n r =>
   intro Y m u
   by_cases y:m<=n
   ·exact r ⋯ m y
   have K:m=n+1:=⋯;subst K;have r:=r ⋯;have q:∀i,g-(n+1)<i->i<=g->∃z,Q.getD i 0=AN c i*z/\QN κ 1 (9^(g-i)*(Sl^(g-i)*a)) z:=λi f l=>by
    have:=r (g-i) ⋯;rw[show g-(g-i)=i by omega] at this;exact this
   let zf:Nat->κ.F:=λi=>if h:g-(n+1)<i/\i<=g then Classical.choose (q i h.1 h.2) else 0
   have b:∀i,g-(n+1)<i->i<=g->Q.getD i 0=AN c i*zf i/\QN κ 1 (9^(g-i)*(Sl^(g-i)*a)) (zf i):=λi f l=>by
    show Q.getD i 0=AN c i*(if h:g-(n+1)<i/\i<=g then Classical.choose (q i h.1 h.2) else 0)/\QN κ 1 _ (if h:g-(n+1)<i/\i<=g then Classical.choose (q i h.1 h.2) else 0);rw[dif_pos (f,l)];exact Classical.choose_spec<|q i f l
   obtain ⟨k,hk⟩:∃k,g-(n+1)=k:=(_,rfl);rw[hk] at b ⊢;have h:=E (k+d) ⋯;have N:∀i,i<g+1->Q.getD i 0*gs L i (k+d)=(if i=k then Q.getD k 0*c else 0)+c*AN c k*(if k<i then AN c (i-k-1)*zf i*gs L i (k+d) else 0):=λi t=>by
    by_cases y1:i=k
    ·subst y1
     rw[qK rfl,qI<|Qs _,o]; grind
    ·rw[qI y1]
     by_cases y2:k<i
     ·rw[qK y2,(b i y2 ⋯).1,show AN c i=AN c (k+1+(i-k-1)) by rw[show k+1+(i-k-1)=i by omega],NW]
      show AN c k*c*AN c (i-k-1)*zf i*_=_;grind
     ·rw[qI y2,p i (k+d) ⋯]; grind
   rw[Rg.Sg_congr N,<-Rg.Sg_add,<-Rg.Sg_mul,Rg.Sg_only (i:=k) ⋯ λi t G=>qI G,qK rfl] at h;refine (AN c (n+1)*U.getD (k+d) 0-Rg.Sg (λi=>if k<i then AN c (i-k-1)*zf i*gs L i (k+d) else 0) (g+1),?_,?_)
   ·refine Rg.fd_can D ?_
    rw[show g+1=k+1+(n+1) by omega,NW] at h;have h:AN c k*c*AN c (n+1)*U.getD (k+d) 0=Q.getD k 0*c+c*AN c k*Rg.Sg (λi=>if k<i then AN c (i-k-1)*zf i*gs L i (k+d) else 0) (k+1+(n+1)):=h;rw[show g+1=k+1+(n+1) by omega];generalize Rg.Sg (λi=>if k<i then AN c (i-k-1)*zf i*gs L i (k+d) else 0) (k+1+(n+1))=s at *;generalize AN c (n+1)=w at *;generalize AN c k=v at *;grind
   ·have M:=Hb (GR qc<|n+1)<|Dm H<|k+d
    have I:QN κ 1 ((g+1)*(9^n*(Sl^(n+1)*a))) (Rg.Sg (λi=>if k<i then AN c (i-k-1)*zf i*gs L i (k+d) else 0)<|g+1):=NG _ λi t=>by
     show QN κ 1 _ (if k<i then AN c (i-k-1)*zf i*gs L i (k+d) else 0)
     by_cases y:k<i
     ·rw[qK y]
      refine (Hb (Hb (GR qc<|i-k-1) (b i y ⋯).2)<|eD C i<|k+d).mono ?_;have B:Sl^(i-k-1)*(9^(g-i)*(Sl^(g-i)*a))*Sl=9^(g-i)*(Sl^(i-k-1+(g-i)+1)*a):=by
       rw[W5,Wd]; grind
      rw[B,show i-k-1+(g-i)+1=n+1 by omega];exact W2 _<|Q8 ∅ ⋯
     ·rw[qI y]; exact QN.zero
    refine (M.sub ∅ I).mono ?_;rw[W5 9 n];have J:1<=9^n:=Qw ∅;have S:(g+1)*(9^n*(Sl^(n+1)*a))<=8*(9^n*(Sl^(n+1)*a)):=W2 _ ⋯;have Z:Sl^(n+1)*a<=9^n*(Sl^(n+1)*a):=Wi _ J;have l3:9^n*9*(Sl^(n+1)*a)=9*(9^n*(Sl^(n+1)*a)):=by grind
    omega
 by_cases hk:g<k
 ·rw[BF ⋯]; exact QN.zero
 ·obtain ⟨z,f,l⟩:=A g (Q4 g) (g-k) ⋯
  rw[show g-(g-k)=k by omega] at f;rw[f];refine (Hb (GR qc k) l).mono ?_;have B:Sl^k*(9^(g-k)*(Sl^(g-k)*a))=9^(g-k)*(Sl^(k+(g-k))*a):=by rw[Wd]; grind
  rw[B,show k+(g-k)=g by omega];exact W2 _<|Q8 ∅ ⋯
end
theorem Vx{κ:KX}{F:Ab κ}{d:Nat}(t:Bj F)(h:∀k,d<=k->F.getD k 0=0):F.length<=d:=by
 rcases t with z|z
 ·omega
 ·refine Uf λq=>z<|h _ ⋯
structure Ll (Su Sl Sa Sh g:Nat):Prop where
 su:0<Su
 sl:0<Sl
 sa:0<Sa
 sh:0<Sh
 b:2^40*(Sl^(g+1)*Su)<=10^3000
 c:Sl^(g+1)<2^8900
 e:Sl^(g+1)*Su*(2*Sl)^(g+1)<2^30000
 h:Sa*Sh^g<=10^2000
 hS:Sh<2^8900
end Lake.My
namespace Lake.Zp
open My
open PySem L2 PyProof.Rows
variable{Z:Zc}{X:Cx}{P:Program}{w:World}{K:Ac}{mg:Ai}{base:Heap}{cN:Addr}
inductive MF:ZF
 |mk {Q:AH} {κ:KX} {u l:Ab κ} {x y:κ.F} {g d Su Sl Sa Sh:Nat} (lL0:l.length=d+1) (c0:l.getD d 0≠0) (lU0:u.length=d+1+g) (lU:u.length<=8) (x0:x≠0) (y0:y≠0) (qU:∀z∈u,QN κ 1 Su z) (qL:∀z∈l,QN κ 1 Sl z) (qx:QN κ 1 Sa x) (qy:QN κ 1 Sh y) (z:Ll Su Sl Sa Sh g)
  (q:∀(N Qt:Ab κ),Bj N->N.length<=d->Qt.length<=g+1->cn (x*AN y g)*sr N=cn (AN (l.getD d 0) (g+1))*sr u-sr Qt*sr l->Q (tab κ [N])):MF [.kd κ,tab κ [u],tab κ [l],num κ x,num κ y] Q
theorem BA:Aa ["kind","upper","lower","last","height","polys","gap","factor","quotient","shrink","answer","one","other"] ["kind","upper","lower","last","height"] (Ao QC):=‹2›
theorem z_fol(h:Ae K mg "following_row" QC) (T:Nm mg) (Tz:mg "zip"=none) (pc:Pc K mg Z.p) (hI:B5 P w K mg base Z.p 5 ["self","under"] (HC Z.p)) (J:Mt P w K mg base Z zKd "times" 6 (S2 λ_ x y=>x*y)) (S:Mt P w K mg base Z zKd "back" 6 Hx) (m:Mt P w K mg base Z Ec "times" 6 Km) (L:Mt P w K mg base Z Ec "minus" 6 (D8 λ_ f g=>f-g)) (o:Fn P w K mg base Z "raised" 6 A1) (C:Fn P w K mg base Z "divided" 6 S_divided):Fn P w K mg base Z "following_row" 7 MF:=by
 have nd:=BA.nd;refine UX h (λf fd F=>F.binds λ_ _ _ _ _ _ us hl=>by obtain ⟨_,_,_,_,_,rfl⟩:=Y9 hl;exact rfl) BA (λps A B f ⟨a1,a2,a3,a4,a5,a6,a7,a8,a9,d4,c9,q⟩=>(a1,a2,a3,a4,a5,a6,a7,a8,a9,d4,c9,λN O b1 b2 b3 b4=>f _<|q N O b1 b2 b3 b4)) (λ_ _ ⟨_,_,_,_,_,_,_,_,_,_,_,_⟩=>rfl) (λ_ _ _ _ _ _ _ hr =>
  (Ap (AE 5 nd<|MI hI pc.m<|qv 0)
  (Ap (Ry 6 nd<|AA Cu li (Ci T.len<|A8 (qv 1) Ah)<|Ci T.len<|A8 (qv 2) Ah)
  (Ap (AE 7 nd<|QL.toE<|Cs<|By<|AD o<|BG (qv 0) (A8 (A8 (qv 2) Ah)<|D6 Ah)<|AA Bw li (qv 6) Ah)
  (Ap (AE 8 nd<|A8 (AD C<|BG (qv 0) (Bh m (qv 5)<|Aw (qv 7)<|A8 (qv 1) Ah)<|A8 (qv 2) Ah) Ah)
  (Ap (AE 9 nd<|QL.toE<|Cs<|By<|Bh S (qv 0)<|By<|Bh J (qv 0)<|Aw (qv 3)<|AD o<|BG (qv 0) (qv 4)<|qv 6)
  (Ap (Hi 10 nd<|Cs EM)
  (Ap (D3 [11,12] (RH Tz (qv 1)<|qv 2) (kI 11 12 nd)<|AK<|Iv 10<|Bh m (qv 5)<|Aw (qv 9)<|Bh L (qv 5)<|Aw (Bh m (qv 5)<|Aw (qv 7)<|qv 11)<|Bh m (qv 5)<|Aw (qv 8)<|qv 12)
  (AK<|Jr 10<|Bk<|qv 10))))))))) ∅ ?_
 rintro _ Q ⟨Y,c0,e6,lU,x0,y0,qU,qL,qx,qy,z,kk⟩
 rename_i b u l x y g d s Sl Sa Sh
 have lu:=Cb u;have ll:=Cb l;have p3:(10^3000:Nat)<2^30000:=by decide +kernel
 have p2:(10^2000:Nat)<2^8900:=by decide +kernel
 have H:(2^8900:Nat)<2^30000:=by decide +kernel
 have qc:QN b 1 Sl (l.getD d 0):=Dm qL d;have c3:0<Sl^(g+1):=Qw z.sl;have zb:=z.b;have aM:Sl^(g+1)*s<=10^3000:=⋯;have aS:Sl^(g+1)<=10^3000:=Q0 (Uu _ z.su) aM;have c1:s<=10^3000:=Q0 (Wi _ c3) aM;have c6:Sl<=10^3000:=Q0 (by rw[W5];exact Wi _<|Qw z.sl) aS;have c7:Sl<2^8900:=Q5 (by rw[W5];exact Wi _<|Qw z.sl) z.c;have b0:∀n,1^n<2^8900:=λn=>by rw[Nat.one_pow];decide
 refine (_,rfl,_,rfl,((g:Int),⋯,?_));refine (_,rfl,_,Jy Y,?_);show A1 [.kd b,num b<|l.getD d 0,.int ((g+1:Nat):Int)] _;refine A1.mk (D:=1) (M:=Sl) ⋯ qc ∅ z.sl (b0 _) (Q5 aS p3) ∅ (Q5 c6 p3) (by show 1<=1000;decide,?_);have d6:=GB c0<|g+1;have W:=GR qc<|g+1;obtain ⟨I,eα⟩:∃I,I=AN (l.getD d 0) (g+1):=(_,rfl);rw[<-eα] at d6 W kk ⊢;have b8:∀x∈[I],QN b 1 (Sl^(g+1)) x:=λx t=>by rw[Qf.mp t];exact W
 refine (_,rfl,BE.mk (F:=[I]) (G:=u) (D:=1) (E:=1) (by show 1<=90;decide) ⋯ b8 qU ∅ ∅ ∅ ∅ aS c1 λPl tP eP lP=>(_,rfl,?_));have e1:sr [I]=cn I:=rfl;rw[e1] at eP;have e9:Pl.length<=d+1+g:=by
  have:Pl.length<=1+u.length-1:=lP;omega
 have qP:∀x∈Pl,QN b 1 (Sl^(g+1)*s) x:=λx t=>by
  obtain ⟨j,_,rfl⟩:=mem_getD t;rw[<-AM,eP];exact TM W qU j
 have tL:Bj l:=.inr (by rw[Y,Wb];exact c0);have tt:Pl.length+1-l.length<=g+1:=⋯;have d8:Js Pl l 1 1 (Sl^(g+1)*s) Sl:=(⋯,⋯,tL,qP,qL,∅,∅,Qg c3 z.su,z.sl,z.sl,
  Q5 (by rw[Qz,Ub];exact Q8 z.sl tt) z.c,Q5 (Qq _ (by rw[Qz];exact Q8 (by have:=z.sl;omega) tt)) z.e,∅,c7)
 refine S_divided.mk d8 ⋯ λa qs R r c5=>(_,rfl,?_);have ed:∀k,(sr Pl).c k=(sr qs.reverse*sr l+sr (R.take d)).c k:=λk=>by
  rw[Rg.Ps.c_add,G7,AM,AM];exact ME Y rfl c5.dv k
 have eQ:cn I*sr u=sr qs.reverse*sr l+sr (R.take d):=by
  rw[<-eP];exact Rg.Ps.ext ed
 have lQ:qs.reverse.length<=g+1:=by rw[We,c5.dv.lq];exact tt
 have d0:(R.take d).length<=d:=by rw[Qn];omega
 have qQ:∀x∈qs.reverse,QN b 1 (9^g*(Sl^g*s)) x:=λx t=>by
  obtain ⟨j,_,rfl⟩:=mem_getD t;exact Z3 Y c0 lQ d0 ⋯ z.sl qU qL (by rw[<-eα];exact eQ) j
 generalize qs.reverse=O at *;have zh:=z.h;have b7:0<Sh^g:=Qw z.sh;have fS:Sh^g<=10^2000:=Q0 (Wi _ z.sa) zh;have fB:Sa<=10^2000:=Q0 (Uu _ b7) zh;have y1:=GB y0 g;have c2:=GR qy g;have U:x*AN y g≠0:=F0 x0 y1;have d3:QN b ((1:Nat):Int) (Sa*Sh^g) (x*AN y g):=Hb qx c2;obtain ⟨a0,a1,a2,d7⟩:=Kf ∅ (Qg z.sa b7) d3 U;have f0:=Ph U;have c8:=Fd.mul_inv _ U;have b1:∀ {M:Nat} {v:b.F},QN b 1 M v->M<2^30000->B1 b v:=λh l=>GH (D:=1) h ∅ ∅ l;refine A1.mk (D:=1) (M:=Sh) ⋯ qy ∅ z.sh (b0 _) (Wh (Q5 fS p2) H) ∅ (Wh z.hS H) (b1 qx<|Wh (Q5 fB p2) H,b1 c2<|Wh (Q5 fS p2) H,(U,by show 1<=1000;decide,by show 0<=1000;decide,?_));generalize Fd.inv (x*AN y g)=c at *;have n9:9^g<=2^30:=Q0 (Q8 ∅ (show g<=7 by omega)) ∅;have d2:Sl^g*s<=Sl^(g+1)*s:=W2 _<|Q8 z.sl ⋯;have d9:9^g*(Sl^g*s)<=2^30*(Sl^(g+1)*s):=Qk n9 d2;refine (λi ρ=>(i=0/\ρ=[some<|.val<|.kd b,some<|.val<|tab b [u],some<|.val<|tab b [l],some<|.val<|num b x,some<|.val<|num b y,some<|.val<|.kp b,some<|.val<|.int g,some<|.val<|nums b [I],some<|.val<|nums b O,some<|.val<|nums b [c],some<|.own [],none,none])\/(i=1/\∃N,ρ=[some<|.val<|.kd b,some<|.val<|tab b [u],some<|.val<|tab b [l],some<|.val<|num b x,some<|.val<|num b y,some<|.val<|.kp b,some<|.val<|.int g,some<|.val<|nums b [I],some<|.val<|nums b O,some<|.val<|nums b [c],some<|.own [nums b N],none,none]/\sr N=cn c*(cn I*sr u-sr O*sr l)/\Bj N),.inl (rfl,rfl),?_,?_)
 ·rintro i p _ hp (⟨rfl,rfl⟩|⟨rfl,_⟩)
  ·cases hp
   refine BE.mk (F:=[I]) (G:=u) (D:=1) (E:=1) (by show 1<=90;decide) ⋯ b8 qU ∅ ∅ ∅ ∅ aS c1 λT1 e7 b5 c4=>?_;rw[e1] at b5;have c4:T1.length<=1+u.length-1:=c4;refine BE.mk (D:=1) (E:=1) ⋯ ⋯ qQ qL ∅ ∅ ∅ ∅ ⋯ c6 λT2 e8 b6 e4=>?_;have q1:∀x∈T1,QN b 1 (Sl^(g+1)*s) x:=λx t=>by
    obtain ⟨j,_,rfl⟩:=mem_getD t;rw[<-AM,b5];exact TM W qU j
   have q2:∀x∈T2,QN b 1 (2^39*(Sl^(g+1)*s)) x:=λx t=>by
    obtain ⟨j,_,rfl⟩:=mem_getD t;have q:=Kg (D:=1) (E:=1) ∅ qQ qL j;rw[<-b6,AM] at q;refine QN.mono (show QN b 1 _ _ from q) ?_;have e:9^g*(Sl^g*s)*Sl=9^g*(Sl^(g+1)*s):=by rw[W5];grind
    rw[e];have m1:O.length*l.length<=8*8:=Qk ⋯ ⋯;have m3:9^g*(Sl^(g+1)*s)<=2^30*(Sl^(g+1)*s):=W2 _ n9;have m2:O.length*l.length*(9^g*(Sl^(g+1)*s))<=8*8*(2^30*(Sl^(g+1)*s)):=Qk m1 m3;rw[W8] at m2;omega
   refine D8.mk ⋯ ⋯ (λx t=>b1 (q1 x t)<|Q5 aM p3) (λx t=>b1 (q2 x t) ⋯) λT3 e5 b9 e3=>?_;have q3:∀x∈T3,QN b 1 (2^40*(Sl^(g+1)*s)) x:=λx t=>by
    obtain ⟨j,_,rfl⟩:=mem_getD t;rw[<-AM,b9,Rg.Ps.c_sub,AM,AM];exact ((Dm q1 j).sub ∅<|Dm q2 j).mono ⋯
   refine BE.mk (F:=[c]) (G:=T3) (D:=a0) (E:=1) (by show 1<=90;decide) ⋯ (λx t=>by rw[Qf.mp t];exact d7) q3 a1 (Q0 a2 zh) ∅ ∅ ∅ zb λT4 d5 d1 e0=>(by show 0<1000;decide,.inr (rfl,T4,rfl,by rw[d1,b9,b5,b6];rfl,d5))
  ·cases hp
 ·rintro _ (⟨e,_⟩|⟨_,N,rfl,eN,tN⟩)
  ·rw[II] at e;exact absurd e (by show ¬min 1 1=0;decide)
  ·refine kk N O tN (Vx tN λk hk=>?_) lQ ?_
   ·rw[eQ] at eN;have e2:sr N=cn c*sr (R.take d):=by
     rw[eN];generalize sr O*sr l=s1;generalize sr (R.take d)=s2;generalize cn c=s3;grind
    rw[<-AM,e2,DA,AM,BF ⋯];grind
   ·have ic:cn (x*AN y g)*cn c=1:=by rw[G0,c8,CJ]
    rw[eN];generalize cn (x*AN y g)=s1 at *;generalize cn I*sr u-sr O*sr l=s2;grind
end Lake.Zp
namespace Lake.My
open PySem L2 PyProof.Rows
section
variable{κ:KX}
structure G5 (f g:Sr κ) (U L:Ab κ):Prop where
 tU:Bj U
 tL:Bj L
 bU:∃a b,Fs a/\Fs b/\sr U=f*a+g*b
 bL:∃a b,Fs a/\Fs b/\sr L=f*a+g*b
 id:∃a b c d,Fs a/\Fs b/\Fs c/\Fs d/\f=a*sr U+b*sr L/\g=c*sr U+d*sr L
theorem G5.step{f g:Sr κ}{U L N:Ab κ}{c α:κ.F}{Qt:Ab κ}(h:G5 f g U L)(G:c≠0)(p:α≠0)
 (v:sr N=cn c*(cn α*sr U-sr Qt*sr L)) (y:Bj N):G5 f g L N:=by
 have ic:=EK G;have K:=EK p;obtain ⟨a,b,w,A,t,D,s,E,F,O⟩:=h.id;obtain ⟨M,I,r,k,B⟩:=h.bU;obtain ⟨P,J,j,o,C⟩:=h.bL;have x:sr U=cn (Fd.inv α)*sr Qt*sr L+cn (Fd.inv α)*cn (Fd.inv c)*sr N:=by
  rw[v];generalize sr U=u at *;generalize sr L=l at *;generalize sr Qt=q at *;generalize cn c=m at *;generalize cn α=e at *;generalize cn (Fd.inv c)=i at *;generalize cn (Fd.inv α)=d at *;have H:d*q*l+d*i*(m*(e*u-q*l))=d*q*l+d*(i*m)*(e*u-q*l):=by grind
  rw[H,ic];have z:d*q*l+d*1*(e*u-q*l)=(d*e)*u:=by grind
  rw[z,K];grind
 refine (h.tL,y,h.bL,(cn c*(cn α*M-sr Qt*P),cn c*(cn α*I-sr Qt*J),?_,?_,?_),(a*(cn (Fd.inv α)*sr Qt)+b,a*(cn (Fd.inv α)*cn (Fd.inv c)),w*(cn (Fd.inv α)*sr Qt)+A,w*(cn (Fd.inv α)*cn (Fd.inv c)),?_,?_,?_,?_,?_,?_))
 ·exact (Fs.cn _).mul (((Fs.cn _).mul r).sub<|(Fs.sr _).mul j)
 ·exact (Fs.cn _).mul (((Fs.cn _).mul k).sub<|(Fs.sr _).mul o)
 ·rw[v,B,C]
  generalize sr Qt=q;generalize cn c=m;generalize cn α=e;grind
 ·exact (t.mul<|(Fs.cn _).mul<|Fs.sr _).add D
 ·exact t.mul ((Fs.cn _).mul<|Fs.cn _)
 ·exact (s.mul<|(Fs.cn _).mul<|Fs.sr _).add E
 ·exact s.mul ((Fs.cn _).mul<|Fs.cn _)
 ·conv=>lhs; rw[F,x]
  generalize sr L=l;generalize sr N=n;generalize sr Qt=q;generalize cn (Fd.inv c)=i;generalize cn (Fd.inv α)=d;grind
 ·conv=>lhs; rw[O,x]
  generalize sr L=l;generalize sr N=n;generalize sr Qt=q;generalize cn (Fd.inv c)=i;generalize cn (Fd.inv α)=d;grind
structure J4 (f g:Sr κ) (R:Ab κ):Prop where
 t:Bj R
 b:∃a b,Fs a/\Fs b/\sr R=f*a+g*b
 o:(R=[]/\f=0/\g=0)\/(KD R/\∃a c,Fs a/\Fs c/\f=a*sr R/\g=c*sr R)
theorem UE:∀n,QN κ 1 1<|Rg.sgn κ.F n
 |0=>Bc
 |n+1=>by
  exact ((QN.zero (M:=0)).sub ∅<|UE n).mono ∅
theorem T7:∀(k:Nat) {a:Nat->Nat->κ.F},k<=14->(∀i j,QN κ 1 M<|a i j)->QN κ 1 ((14*M)^k) (Rg.det k a)
 |0,_,_,_=>Bc
 |k+1,a,hk,h=>by
  refine QN.mono (NG (M:=1*M*(14*M)^k) (k+1) λj _=>Hb (Hb (UE j)<|h 0 j)<|T7 k ⋯ λi t=>h (i+1)<|Rg.skip j t) ?_;rw[W5,Qz,Wj ((14*M)^k)<|14*M,W8];exact W2 _ hk
theorem RI{f g:Nat->κ.F}{m n k i0:Nat}(a:∀d,QN κ 1 M<|f d)(b:∀d,QN κ 1 M<|g d)(l:n-k+(m-k)<=14):QN κ 1 ((14*M)^(n-k+(m-k))) (Rg.Nk f g m n k i0):=by
 refine T7 _ l λi j=>?_;generalize (if j+1<n-k+(m-k) then m+n-k-1-j else i0)=c;have sh:∀(t:Nat) {f:Nat->κ.F},(∀d,QN κ 1 M<|f d)->QN κ 1 M (Rg.sh t f c):=λt f a=>by
  unfold Rg.sh
  split
  ·exact QN.zero
  ·exact a _
 unfold Rg.rwS
 split
 ·exact sh _ a
 ·exact sh _ b
theorem WP{x y:κ.F}(h:Rg.Pm x y)(q:QN κ 1 M x):QN κ 1 M y:=by
 rcases h with rfl|e
 ·exact q
 ·rw[show y=0-x by rw[e];grind];exact ((QN.zero (M:=0)).sub ∅ q).mono ⋯
theorem IN(x:κ.F):∀n,AN x n=Rg.pwS x n
 |0=>rfl
 |n+1=>by
  show AN x n*x=Rg.pwS x n*x;rw[IN x n]
theorem Zu(L:Ab κ)(i k:Nat):gs L i k=Rg.sh i (λd=>L.getD d 0) k:=by
 unfold gs Rg.sh
 by_cases h:i<=k
 ·rw[qK h,qI ⋯]
 ·rw[qI h,qK ⋯]
theorem lV{f g:Nat->κ.F}{m n b e:Nat}{U L N Qt:Ab κ}{x y h':κ.F}(s:Rg.SbI f g m n (λd=>U.getD d 0) (λd=>L.getD d 0) (b+(e+1)) b x y)(G:L.length=b+1)(p:L.getD b 0≠0)(A:Qt.length<=e+1+1)(E:N.length<=b)
 (D:cn (x*AN y (e+1))*sr N=cn (AN (L.getD b 0)<|e+1+1)*sr U-sr Qt*sr L) (w:h'*AN y e=AN (L.getD b 0) (e+1)) :
 (1<=b->∀i,Rg.Pm (Rg.Nk f g m n (b-1) i)<|N.getD i 0)/\Rg.Pm (Rg.Nk f g m n b b) h'/\(∀c,N.length=c+1->Rg.SbI f g m n (λd=>L.getD d 0) (λd=>N.getD d 0) b c (L.getD b 0) h'):=by
 have l:=GB p<|e+1+1;have v:=Fd.mul_inv _ l;have o:b+(e+1)-b=e+1:=⋯;have u:∀d,x*AN y (e+1)*N.getD d 0=AN (L.getD b 0) (e+1+1)*U.getD d 0-Rg.Sg (λi=>Qt.getD i 0*gs L i d) (e+1+1):=λd=>by
  have z:(cn (x*AN y (e+1))*sr N).c d=(cn (AN (L.getD b 0)<|e+1+1)*sr U-sr Qt*sr L).c d:=by rw[D]
  rw[DA,Rg.Ps.c_sub,DA,VS A,AM,AM] at z;exact z
 generalize hα:AN (L.getD b 0) (e+1+1)=a at *;have q:∀d,U.getD d 0=Fd.inv a*(x*AN y (e+1))*N.getD d 0+Rg.Sg (λs=>Fd.inv a*Qt.getD s 0*Rg.sh s (λd=>L.getD d 0) d) (b+(e+1)-b+1):=λd=>by
  have z:=u d;rw[o,Rg.Sg_congr (g:=λs=>Fd.inv a*(Qt.getD s 0*gs L s d)) λi _=>by rw[Zu]; grind,<-Rg.Sg_mul];generalize Rg.Sg (λi=>Qt.getD i 0*gs L i d) (e+1+1)=I at *;grind
 have k:∀d,b<d->L.getD d 0=0:=λd h=>BF ⋯;have r:∀d,Rg.pwS (L.getD b 0) (b+(e+1)-b+1)*(Fd.inv a*(x*AN y (e+1))*N.getD d 0)=x*Rg.pwS y (b+(e+1)-b)*N.getD d 0:=λd=>by
  rw[o,<-IN,<-IN,hα];grind
 have j:h'*Rg.pwS y (b+(e+1)-b-1)=Rg.pwS (L.getD b 0) (b+(e+1)-b):=by
  rw[o,Wb,<-IN,<-IN]; exact w
 refine (λB i=>?_,?_,λc H=>?_)
 ·exact s.rest (C:=λd=>Fd.inv a*(x*AN y (e+1))*N.getD d 0) (R:=λd=>N.getD d 0) (Qc:=λs=>Fd.inv a*Qt.getD s 0) q k (λd t=>by rw[BF (F:=N) ⋯]; grind) B r
 ·exact s.top k j
 ·exact s.step (C:=λd=>Fd.inv a*(x*AN y (e+1))*N.getD d 0) (R:=λd=>N.getD d 0) (Qc:=λs=>Fd.inv a*Qt.getD s 0) q k (λd t=>by rw[BF (F:=N) ⋯]; grind) ⋯ p r j
def zE(κ:KX)(e:Nat):Nat:=match κ with
 | .q=>2^(229*e)
 | .r _ _=>1
theorem KH:0<zE κ e:=by
 cases κ with
 |r p a=>exact Nat.one_pos
 |q=>exact Qw ∅
theorem N1{e a:Nat}(h:e<=a):zE κ e<=zE κ a:=by
 cases κ with
 |r p b=>exact Q4 _
 |q=>exact Q8 ∅<|Qq _ h
structure Pa (κ:KX) (t:Nat) (L:Ab κ) (x y:κ.F):Prop where
 qL:∀z∈L,QN κ 1 (zE κ (2*t+1)) z
 qx:QN κ 1 (zE κ (2*t-1)) x
 qy:QN κ 1 (zE κ (2*t-1)) y
theorem YH{u l U L N Qt:Ab κ}{b e t:Nat}{x y h':κ.F}(c:∀z∈u,QN κ 1 (2^225) z)(f:∀z∈l,QN κ 1 (2^225) z)(n1:κ = .q->l.length+1=u.length)(I:u.length<=8)(H:U.length=b+1+(e+1))(h:L.length=b+1)(F:u.length=U.length+t)(B:L.getD b 0≠0)(w:Qt.length<=e+1+1)(D:N.length<=b)
 (E:cn (x*AN y (e+1))*sr N=cn (AN (L.getD b 0)<|e+1+1)*sr U-sr Qt*sr L) (v:h'*AN y e=AN (L.getD b 0) (e+1)) (A:Pa κ t L x y)
 (a:κ = .q->Rg.SbI (λd=>u.getD d 0) (λd=>l.getD d 0) (u.length-1) (l.length-1) (λd=>U.getD d 0) (λd=>L.getD d 0) (U.length-1) (L.length-1) x y) (nz:N.length≠0) :
 Pa κ (t+(e+1)) N (L.getD b 0) h'/\(κ = .q->Rg.SbI (λd=>u.getD d 0) (λd=>l.getD d 0) (u.length-1) (l.length-1) (λd=>L.getD d 0) (λd=>N.getD d 0) (L.length-1) (N.length-1) (L.getD b 0) h'):=by
 cases κ with
 | r p G=>exact ((λ_ _=>trivial,trivial,trivial),λz=>nomatch z)
 | q =>
  have a:=a rfl;have n1:=n1 rfl;rw[show U.length-1=b+(e+1) by omega,show L.length-1=b by omega] at a;obtain ⟨C,s,i⟩:=lV a h B w D E v;have g:∀r,(14*2^225)^r<=zE .q r:=λr=>by
   show _<=2^(229*r);rw[Uo];exact sM ∅ _
  refine ((λz o=>?_,(Dm A.qL b).mono<|N1 ⋯,?_),λ_=>?_)
  ·obtain ⟨j,_,rfl⟩:=mem_getD o
   have q:=RI (k:=b-1) (m:=u.length-1) (n:=l.length-1) (i0:=j) (Dm c) (Dm f) ⋯;rw[show l.length-1-(b-1)+(u.length-1-(b-1))=2*(t+(e+1))+1 by omega] at q;exact (WP (C ⋯ j) q).mono<|g _
  ·have q:=RI (k:=b) (m:=u.length-1) (n:=l.length-1) (i0:=b) (Dm c) (Dm f) ⋯
   rw[show l.length-1-b+(u.length-1-b)=2*(t+(e+1))-1 by omega] at q;exact (WP s q).mono<|g _
  ·have:=i (N.length-1) ⋯
   rw[show L.length-1=b by omega];exact this
theorem cU{R F:Ab κ}{a:Sr κ}(b:KD R)(c:Bj F)(f:F.length≠0)(g:Fs a)(e:sr F=a*sr R):R.length<=F.length:=Uf λq=>by
 have h:=b.1;have z:=P7 (m:=R.length-1) (d:=R) (R:=F) ⋯ b.2 ⋯ g e;exact f (by rw[KA c z];rfl)
theorem dO{f g:Sr κ}{F G:Ab κ}{y z:κ.F}{X Y:Ab κ}(h:y≠0)(e:z≠0)(i:Bj X)(k:Bj Y)(c:f=sr F)(l:g=sr G)(b:sr X=cn y*sr F)(a:sr Y=cn z*sr G):G5 f g X Y:=by
 have j:=EK h;have d:=EK e;subst c l;refine (i,k,(cn y,0,Fs.cn _,Fs.zero,?_),(0,cn z,Fs.zero,Fs.cn _,?_),(cn<|Fd.inv y,0,0,cn<|Fd.inv z,Fs.cn _,Fs.zero,Fs.zero,Fs.cn _,?_,?_))
 ·rw[b];generalize sr F=f;generalize sr G=g;generalize cn y=s;grind
 ·rw[a];generalize sr F=f;generalize sr G=g;generalize cn z=s;grind
 ·rw[b];generalize sr F=f at *;generalize sr Y=g at *;generalize cn y=s at *;generalize cn (Fd.inv y)=t at *;have:t*(s*f)+0*g=t*s*f:=by grind
  rw[this,j];grind
 ·rw[a];generalize sr G=f at *;generalize sr X=g at *;generalize cn z=s at *;generalize cn (Fd.inv z)=t at *;have:0*g+t*(s*f)=t*s*f:=by grind
  rw[this,d];grind
theorem Si{X F:Ab κ}{y:κ.F}(a:y≠0)(b:Bj F)(e:sr X=cn y*sr F):F.length<=X.length:=Uf λq=>by
 have c:F.length≠0:=⋯;have:=F7 b c;have h:=qW (λs=>Rg.Ps.c s<|F.length-1) e;have h:=h;rw[DA,AM,AM,BF ⋯] at h;have d:=Fd.mul_inv y a;generalize F.getD (F.length-1) 0=u at *;exact this (by
  have:u=Fd.inv y*(y*u):=by grind
  rw[this,<-h];grind)
theorem WQ{X F:Ab κ}{y:κ.F}(e:sr X=cn y*sr F)(l:X.length<=F.length)(q:∀x∈F,QN κ 1 S<|y*x):∀x∈X,QN κ ((1:Nat):Int) S x:=λx a=>by
 obtain ⟨k,b,rfl⟩:=mem_getD a;rw[<-AM,e,DA,AM];refine q _ ?_;rw[Q3,Q6 ⋯];exact W7 _
end
theorem HQ(n:Int):(zi (κ:=.q) n:Rat)=(n:Rat):=by
 have e:∀m:Nat,(zi (κ:=.q) (m:Int):Rat)=((m:Int):Rat):=λm=>by
  rw[Gq]
  induction m with
  |zero=>rfl
  |succ m a =>
   show nt m+1=_;rw[a];rw[Ua,Rat.intCast_add];rfl
 rcases Int.eq_nat_or_neg n with ⟨m,rfl|rfl⟩
 ·exact e m
 ·rw[show -(m:Int)=0-m by omega,FM,Aq,e m,Rat.intCast_sub];rfl
theorem pX{κ:KX}{a b:Int}(h:zi (κ:=κ) (a-b)=0):zi (κ:=κ) a=zi b:=by
 rw[FM] at h;grind
theorem bT{κ:KX}{p:Nat}{hp:BB p}(c:κ = .r p hp){a b:Int}(h:(p:Int) ∣ a-b):zi (κ:=κ) a=zi b:=pX<|(EY c).mpr h
theorem HU{κ:KX}{n:Int}(h:n.natAbs<=10^140):Cq κ n (zi n):=by
 cases κ with
 |q =>
  rw[HQ];exact (rfl,rfl)
 |r p hp =>
  have a:=hp.two;refine (h,?_);have e:zi (κ:=.r p hp) n=zi (((n%p).toNat:Nat):Int):=bT rfl (by
   rw[Uz<|Qv _ ⋯];exact (n/p,by have:=Uq n p;omega))
  rw[e,Gq];have:=MX (hp:=hp) (n%p).toNat;show ((Fin.val (show Fin p from nt (κ:=.r p hp) (n%p).toNat):Nat):Int)=n%p;have l:=W0 n (show (0:Int)<p by omega);have g:=Qv n (show (p:Int)≠0 by omega);rw[this,Nat.mod_eq_of_lt ⋯];omega
section
variable{κ:KX}
theorem gR{n:Nat}(h:n<=10^140):Cq κ (n:Int) (nt n):=by rw[<-Gq];exact HU (by rw[Qa];exact h)
theorem LP:∀n:Nat,QN κ 1 n<|nt n
 |0=>QN.zero
 |n+1=>QN.add ∅ (LP n) Bc
theorem oN{F R:Ab κ}{D M:Nat}(e:sr R=der (sr F))(l:F.length<=8)(q:∀x∈F,QN κ (D:Int) M x):∀x∈R,QN κ (D:Int) (7*M) x:=λx a=>by
 obtain ⟨k,_,rfl⟩:=mem_getD a;rw[<-AM,e,D1,AM]
 by_cases h:F.length<=k+1
 ·rw[BF h,show nt (κ:=κ) (k+1)*0=0 by grind];exact QN.zero
 ·have:=(LP (κ:=κ)<|k+1).mul<|Dm q<|k+1;rw[Wa] at this;exact this.mono<|W2 _ ⋯
theorem LX{x:κ.F}{D M v u W:Nat}(e:QN κ (v:Int) u x)(d:0<D)(b:0<v)(k:u<=W)(j:v<=W):∀f:Ab κ,(∀a∈f,QN κ (D:Int) M a)->QN κ ((D*v^f.length:Nat):Int) (f.length*(M*W^f.length)) (Bb x f)
 | [],_=>QN.zero
 |a::g,h=>by
  have l:=QN.upN d (Qw b) (h a<|.head _) (c:=v^(g.length+1));have i:=e.mul<|LX e d b k j g λy o=>h y<|.tail _ o;rw[<-W3,show v*(D*v^g.length)=D*v^(g.length+1) by rw[W5];grind] at i;refine (QN.add (by have:=Qg d<|Qw (n:=g.length+1) b;omega) l i).mono ?_;show _<=(g.length+1)*(M*W^(g.length+1));have m:v^(g.length+1)<=W^(g.length+1):=sM j _;have r:M*v^(g.length+1)<=M*W^(g.length+1):=Qq _ m;have p:u*(g.length*(M*W^g.length))<=W*(g.length*(M*W^g.length)):=W2 _ k;have q:W*(g.length*(M*W^g.length))=g.length*(M*W^(g.length+1)):=by rw[W5];grind
  rw[Nat.succ_mul];omega
theorem KR(x:κ.F)(f:Ab κ){k:Nat}(h:k<f.length):Bb x (f.drop k)=f.getD k 0+x*Bb x (f.drop<|k+1):=by
 rw[sC h,Q3,Q6 h];rfl
end
end Lake.My
namespace Lake.Zp
open My
open PySem L2 PyProof.Rows
variable{Z:Zc}{X:Cx}{P:Program}{w:World}{K:Ac}{mg:Ai}{base:Heap}{cN:Addr}
theorem Rn{st:Stmt}{N ps:List Str}{S:ZF}{t:ZS}(o:Am K C m c st)(b:∀f g,BT K m c st f g->AB K g ps [])(j:Aa N ps (Ao st))(e:∀vs Q,S vs Q->vs.length=ps.length)
 (body:∀(f:Addr) (d:Value) (A:Around) (a:List Env) (s:Shared) (H:Hp) (E:XK),Av k (A.deeper<|envOfC c (Ao st) s.heap.objs.size f d)->DH Z (F1 P w K mg base N c (Ao st) f d A a s H E) (CL st) t)
 (n:ps.length<=N.length) (p:∀vs Q,S vs Q->t (λ_=>Q .non,Q,λ_=>False,λ_=>False) (DT N vs)):Au P w K mg base C m (k+1) ps [] (EO Z S) :=
 o.hasMX b λf g F=>F.okx j (λvs H Q E h=>by
  obtain ⟨O,pv,l,r,q⟩:=h;rw[r.len]; exact e _ _ q) λd A a s H vs Q E i h=>IZ e (body f d A a s H E i) n p h
theorem mt_kk(j:Kd K mg Z.f Z.r)(f:Au P w K mg base Z.f m k ps [] (EO Z S))(e:Au P w K mg base Z.r m k ps [] (EO Z S))(l:Eo S)(i:¬m ="prime":= by decide):Mt P w K mg base Z zKd m k S :=
 P2 j f e l (λH O a o n Q d b L r s=>(O,_,L,.cons (by unfold Rep;exact (a,rfl,by obtain ⟨c,h⟩:=d;exact (c,by rw[hide_out λm=>by obtain ⟨g,q⟩:=L a m;rw[h] at q;cases q];exact h),b)) (by rw[Wu];exact r),s))
  (λp t H O a o n Q d b L r s=>(O,_,L,.cons (by unfold Rep;exact (a,rfl,by obtain ⟨c,h⟩:=d;exact (c,by rw[hide_out λm=>by obtain ⟨g,q⟩:=L a m;rw[h] at q;cases q];exact h),b)) (by rw[Wu];exact r),s)) i
inductive OC:ZF
 |mk {Q:AH} {κ:KX} {x y:κ.F} (y0:y≠0) (b1:B1 κ x) (b2:B1 κ (Fd.inv y)) (q:Q (num κ (x*Fd.inv y))):OC [.kd κ,num κ x,num κ y] Q
theorem XH:Aa ["self","one","other"] ["self","one","other"] (Ao Ks):=‹2›
theorem z_over(h:Am K C "over" "Kind.over" Ks) (a:Mt P w K mg base Z zKd "times" 4 (S2 λ_ x y=>x*y)) (b:Mt P w K mg base Z zKd "back" 4 Hx):Au P w K mg base C "over" 5 ["self","one","other"] [] (EO Z OC):=by
 refine Rn h (λ_ _ F=>F.b3 λ_ _ _ _ _ _ _ _ _=>rfl) XH (λ_ _ ⟨_,_,_,_⟩=>rfl) (λ_ _ _ _ _ _ _ f =>
  (AK<|Bk<|Bh a (qv 0)<|Aw (qv 1)<|Bh b (qv 0)<|By<|qv 2)) ∅ ?_
 rintro _ Q ⟨e,c,d,q⟩;exact (e,(c,d,q))
theorem Y6:∀t,t<8->∀g,g<8->t+g<=7->40+(229*(2*t+1)*(g+1)+229*max 1 (2*t-1))<=9960/\229*(2*t+1)*(g+1)<8900/\229*(2*t+1)*(g+1)+229*max 1 (2*t-1)+(1+229*(2*t+1))*(g+1)<30000/\229*(2*t-1)+229*(2*t-1)*g<=6640:=∅
theorem aP{κ:KX}{t g:Nat}(h:t+g<=7):Ll (zE κ<|max 1<|2*t-1) (zE κ<|2*t+1) (zE κ<|2*t-1) (zE κ<|2*t-1) g:=by
 cases κ with
 |r p e =>
  show Ll 1 1 1 1 g;refine (∅,∅,∅,∅,?_,?_,?_,?_,?_)
  ·rw[Nat.one_pow];decide +kernel
  ·rw[Nat.one_pow];exact Nat.one_lt_two_pow ∅
  ·rw[Nat.one_pow,Qz];exact Wy ∅ ⋯
  ·rw[Nat.one_pow];exact Qw ∅
  ·exact Nat.one_lt_two_pow ∅
 |q =>
  obtain ⟨b,c,a,d⟩:=Y6 t ⋯ g ⋯ h;show Ll (2^(229*max 1 (2*t-1))) (2^(229*(2*t+1))) (2^(229*(2*t-1))) (2^(229*(2*t-1))) g;refine (Qw ∅,Qw ∅,Qw ∅,Qw ∅,?_,?_,?_,?_,?_)
  ·rw[<-Uo,<-Wd,<-Wd];exact Q0 (Q8 ∅ b) ‹4›
  ·rw[<-Uo];exact Wy ∅ c
  ·rw[show 2*2^(229*(2*t+1))=2^(1+229*(2*t+1)) by rw[Wd,Nat.pow_one],<-Uo,<-Uo,<-Wd,<-Wd];exact Wy ∅ a
  ·rw[<-Uo,<-Wd];exact Q0 (Q8 ∅ d) ‹4›
  ·exact Wy ∅ ⋯
inductive SC (κ:KX) (f g:Sr κ) (u l:Ab κ) (mm:Nat):Bx->Prop
 |mk (U L:Ab κ) (x y:κ.F) (e:mm=L.length) (cr:G5 f g U L) (lt:L.length<U.length) (ul:U.length<=u.length) (x0:x≠0) (y0:y≠0) (qU:∀z∈U,QN κ 1 (zE κ (max 1 (2*(u.length-U.length)-1))) z) (sz:L.length≠0->Pa κ (u.length-U.length) L x y)
  (sb:κ = .q->L.length≠0->Rg.SbI (λd=>u.getD d 0) (λd=>l.getD d 0) (u.length-1) (l.length-1) (λd=>U.getD d 0) (λd=>L.getD d 0) (U.length-1) (L.length-1) x y):SC κ f g u l mm [some (.val (.kd κ)),some (.val (tab κ [U])),some (.val (tab κ [L])),some (.val (num κ x)),some (.val (num κ y)),none,none,none]
inductive Og:ZF
 |mk {Q:AH} {κ:KX} {u l:Ab κ} {f g:Sr κ} (cr:G5 f g u l) (lt:l.length<u.length) (u8:u.length<=8) (n1:κ = .q->l.length+1=u.length) (qu:∀z∈u,QN κ 1 (2^225) z) (ql:∀z∈l,QN κ 1 (2^225) z) (kk:∀R,J4 f g R->Q (tab κ [R])):Og [.kd κ,tab κ [u],tab κ [l]] Q
theorem Ca:Aa ["kind","upper","lower","last","height","gap","following","back"] ["kind","upper","lower"] (Ao Ky):=‹2›
theorem aD(h:Ae K mg "common_row" Ky):Fn P w K mg base Z "common_row" 0 λ_ _=>False :=
 (λ_ _ _ _ h=>h,["kind","upper","lower"],h.hasX (λ_ _ F=>F.b3 λ_ _ _ _ _ _ _ _ _=>rfl) λf a F=>(λ_ _ _ _ ⟨_,_,_,_,z⟩=>z.elim,λ_ _ _ _ _ _ _ _ _ _ _ _ _ ⟨_,_,_,_,z⟩=>z.elim))
theorem z_crow(h:Ae K mg "common_row" Ky) (T:Nm mg) (pc:Pc K mg Z.p) (hI:B5 P w K mg base Z.p 7 ["self","under"] (HC Z.p)) (B:Mt P w K mg base Z zKd "number" 8 Fy) (O:Mt P w K mg base Z zKd "back" 8 Hx) (M:Mt P w K mg base Z zKd "over" 8 OC) (H:Mt P w K mg base Z Ec "times" 8 Km) (A:Fn P w K mg base Z "raised" 8 A1) (o:Fn P w K mg base Z "following_row" 8 MF):Fn P w K mg base Z "common_row" 9 Og:=by
 have S:=Ca.nd;have v:=(aD (P:=P) (w:=w) (base:=base) (Z:=Z) h).mono (show 0<=8 by decide);refine Cg h Ca (λ_ _ _ _ _ _ _ hr =>
  (Ap (El (Ch EW lb (Ci T.len<|A8 (qv 1) Ah)<|Ci T.len<|A8 (qv 2) Ah) (AK<|Bk<|AD v<|BG (qv 0) (qv 2)<|qv 1) DM)
  (Ap (AE 3 S<|Bh B (qv 0)<|By Ah)
  (Ap (AE 4 S<|Bh B (qv 0)<|By Ah)
  (Ap (Hg [5,6] (Ch Eu lb (Ci T.len<|A8 (qv 2) Ah) Ah)<|Ap (Ry 5 S<|AA Cu li (Ci T.len<|A8 (qv 1) Ah)<|Ci T.len<|A8 (qv 2) Ah)
   (Ap (AE 6 S<|AD o<|DR (qv 0)<|IH (qv 1) (qv 2) (qv 3)<|qv 4)
   (Ap (AE 1 S<|qv 2)
   (Ap (AE 2 S<|qv 6)
   (Ap (AE 3 S<|A8 (A8 (qv 1) Ah)<|D6 Ah)
   (AK<|El (Ch Eu lb (qv 5) Ah) (AK<|AE 4 S<|Bh M (qv 0)<|Aw (AD A<|BG (qv 0) (qv 3)<|qv 5)<|AD A<|BG (qv 0) (qv 4)<|AA Cu li (qv 5) Ah) DM))))))
  (Ap (El (Ch BO D9 (Ci T.len<|A8 (qv 1) Ah) Ah) (AK<|Bk<|qv 1) DM)
  (Ap (AE 7 S<|QL.toE<|Cs<|By<|Bh O (qv 0)<|By<|A8 (A8 (qv 1) Ah)<|D6 Ah)
  (AK<|Bk<|QL.toE<|oT "one" [(0,"kind"),(7,"back")] (ED<|qv 1) (by exact λ_ _ _ _=>(Bh H (MI hI pc.m<|qv 1)<|Aw (qv 2)<|qv 0)))))))))) ?_
 rintro _ Q ⟨J,lt,u8,n1,qu,ql,kk⟩
 rename_i κ u l f g
 have lu:=Cb u;have ll:=Cb l;refine (_,rfl,_,rfl,br (λzz=>absurd zz ⋯) λ_=>?_);have a1:∀ {e:Nat},1<=e->∀ {z:κ.F},QN κ 1 (2^225) z->QN κ 1 (zE κ e) z:=λh z q=>by
  cases κ with
  |r p hp=>trivial
  |q=>exact q.mono<|Q8 ∅ ⋯
 have C:QN κ 1 (zE κ<|2*(u.length-u.length)-1) (1:κ.F):=Bc.mono KH;refine (1,FC,(1,FC,(SC κ f g u l,l.length,(u,l,1,1,rfl,J,lt,Q4 _,EZ,EZ,λz hz=>a1 ⋯<|qu z hz,λ_=>(λz hz=>a1 ⋯<|ql z hz,C,C),λe nz=>Rg.SbI.start (by have:=n1 e;omega)),?_)));clear J lt lu ll C a1;rintro _ _ ⟨U,L,x,y,rfl,J,lt,ul,x0,y0,qU,I,sb⟩;have lu:=Cb U;have ll:=Cb L;refine (_,rfl,br (λzz=>?_) λzz=>?_)
 ·have lz:L.length≠0:=⋯;have I:=I lz;have sb:=λe=>sb e lz;obtain ⟨d,hd⟩:∃d,L.length=d+1:=(L.length-1,⋯);obtain ⟨e,hg⟩:∃e,U.length=d+1+(e+1):=(U.length-(d+1)-1,⋯);obtain ⟨t,ht⟩:∃t,u.length-U.length=t:=(_,rfl);rw[ht] at qU I;have j:L.getD d 0≠0:=by
   have:=F7 J.tL ⋯;rw[hd,Wb] at this;exact this
  have W:=aP (κ:=κ) (t:=t) (g:=e+1) ⋯;refine (_,rfl,_,rfl,(((e+1:Nat):Int),⋯,?_));refine (hd,j,hg,⋯,x0,y0,qU,I.qL,I.qx,I.qy,W,λN Qt tN lN lQ eN=>?_);have a4:=F0 x0<|GB y0<|e+1;have a8:G5 f g L N:=J.step (c:=Fd.inv<|x*AN y (e+1)) (α:=AN (L.getD d 0)<|e+1+1) (Qt:=Qt) (Ph a4) (GB j _) (by
   rw[<-eN];have ic:=EK a4;generalize cn (x*AN y (e+1))=s1 at *;generalize cn (Fd.inv<|x*AN y (e+1))=s2 at *;grind) tN
  have qc:=Dm I.qL d;refine (_,rfl,_,Jy hd,br (λ_=>?_) λgz=>absurd (show (0:Int)<((e+1:Nat):Int) by omega) gz);have p3:(10^3000:Nat)<2^30000:=by decide +kernel
  have p2:(10^2000:Nat)<2^8900:=by decide +kernel
  have Gy:(2^8900:Nat)<2^30000:=by decide +kernel
  have Y:∀n,1^n<2^8900:=λn=>by rw[Nat.one_pow];decide
  have b0:zE κ (2*t+1)^(e+1)<2^8900:=Q5 (Q8 KH ⋯) W.c;have b1:zE κ (2*t+1)<2^8900:=Q5 (by rw[W5];exact Wi _<|Qw KH) b0;have k1:zE κ (2*t-1)^(e+1)<=10^2000:=Q0 (Wi _ W.sa) W.h;have k2:zE κ (2*t-1)^e<=10^2000:=Q0 (Q8 W.sh ⋯) k1;have q1:=GR qc<|e+1;have q2:=GR I.qy e;have y1:=GB y0 e;obtain ⟨a0,i1,i2,qi⟩:=Kf (E:=1) ∅ (Qw W.sh) q2 y1;have iy:=Fd.mul_inv _ y1;refine A1.mk (D:=1) ⋯ qc ∅ W.sl (Y _) (Wh b0 Gy) ∅ (Wh b1 Gy) ?_;show A1 [.kd κ,num κ y,.int<|((e+1:Nat):Int)-1] _;rw[show ((e+1:Nat):Int)-1=(e:Int) by omega];refine A1.mk (D:=1) ⋯ I.qy ∅ W.sh (Y _) (Wh (Q5 k2 p2) Gy) ∅ (Wh W.hS Gy) (y1,GH (D:=1) q1 ∅ ∅<|Wh b0 Gy,GH qi i1 (Q5 (Q0 i2 k2) p2)<|Nat.one_lt_two_pow ∅,?_);have hh:AN (L.getD d 0) (e+1)*Fd.inv (AN y e)*AN y e=AN (L.getD d 0) (e+1):=by
   generalize AN (L.getD d 0) (e+1)=s;generalize AN y e=s1 at *;grind
  have a5:=λnz=>YH qu ql n1 u8 hg hd (show u.length=U.length+t by omega) j lQ lN eN hh I sb nz;refine (N.length,⋯,L,N,L.getD d 0,_,rfl,a8,⋯,⋯,j,F0 (GB j _)<|Ph y1,λz hz=>(I.qL z hz).mono<|N1 ⋯,λnz=>?_,λe nz=>(a5 nz).2 e);rw[show u.length-L.length=t+(e+1) by omega];exact (a5 nz).1
 ·have zz:L.length=0:=⋯;have b4:sr L=0:=by rw[rH.mp zz];exact Ht
  obtain ⟨a,b,c',d,fa,fb,fc,fd,ef,eg⟩:=J.id;rw[b4] at ef eg;have ef:f=a*sr U:=by
   conv=>lhs;rw[ef]
   generalize sr U=U;grind
  have eg:g=c'*sr U:=by
   conv=>lhs;rw[eg]
   generalize sr U=U;grind
  obtain ⟨Su,eSu⟩:∃Su,Su=zE κ (max 1<|2*(u.length-U.length)-1):=(_,rfl);rw[<-eSu] at qU;have a6:0<Su:=by rw[eSu];exact KH
  have a2:Su<=10^2000:=by
   rw[eSu];refine Q0 (N1 (show _<=13 by omega)) ?_
   cases κ with
   |r p hp=>exact Qw ∅
   |q=>show 2^(229*13)<=10^2000;decide +kernel
  have a3:Su<=10^3000:=Q0 a2 ‹4›;refine (_,rfl,br (λuz=>?_) λuz=>?_)
  ·have e0:U=[]:=rH.mp ⋯;have s0:sr U=0:=by rw[e0];exact Ht
   exact kk U (J.tU,J.bU,.inl (e0,by rw[ef,s0];grind,by rw[eg,s0];grind))
  ·have uz:U.length≠0:=⋯;obtain ⟨m,hm⟩:∃m,U.length=m+1:=(U.length-1,⋯);have j:U.getD m 0≠0:=by
    have:=F7 J.tU uz;rw[hm,Wb] at this;exact this
   have qc:QN κ ((1:Nat):Int) Su (U.getD m 0):=Dm qU m;obtain ⟨a0,i1,i2,qi⟩:=Kf ∅ a6 qc j;have mi:=Fd.mul_inv _ j;refine (_,rfl,_,Jy hm,(j,by show 1<=1000;decide,?_));generalize hiv:Fd.inv (U.getD m 0)=iv at *;refine (λi r=>(i=0/\r=[])\/(i=1/\∃R,r=[nums κ R]/\sr R=cn iv*sr U/\Bj R/\R.length<=U.length),by show 1<=3000;decide,.inl (rfl,rfl),?_,?_)
   ·rintro i p r hp lr (⟨rfl,rfl⟩|⟨rfl,_⟩)
    ·cases hp
     exact BE.mk (F:=[iv]) (G:=U) (D:=a0) (E:=1) (by show 1<=90;decide) ⋯ (λx hx=>by rw[Qf.mp hx];exact qi) qU i1 (Q0 i2 a2) ∅ ∅ ∅ a3 λT tT eT lT => .inr (rfl,T,rfl,eT,tT,by have:T.length<=1+U.length-1:=lT;omega)
    ·cases hp
   rintro r _ (⟨e,_⟩|⟨_,R,rfl,e0,tR,b6⟩)
   ·exact absurd e (by show ¬1=0;decide)
   have c0:∀k,R.getD k 0=iv*U.getD k 0:=λk=>by rw[<-AM,e0,DA,AM]
   have tp:R.getD m 0=1:=by rw[c0 m,<-mi];generalize U.getD m 0=z2;grind
   have a9:R.length=m+1:=by
    have h2:m<R.length:=Nat.lt_of_not_le λq=>by
     rw[BF q] at tp;exact EZ tp.symm
    omega
   have b5:cn (U.getD m 0)*cn iv=1:=by rw[G0,mi,CJ]
   have eU:sr U=cn (U.getD m 0)*sr R:=by
    rw[e0];generalize cn (U.getD m 0)=s1 at *;generalize cn iv=s2 at *;generalize sr U=s3 at *;have:s1*(s2*s3)=s1*s2*s3:=by grind
    rw[this,b5];grind
   obtain ⟨ab,bb,b3,b2,a7⟩:=J.bU;refine kk R (tR,(cn iv*ab,cn iv*bb,(Fs.cn _).mul b3,(Fs.cn _).mul b2,?_),.inr ((⋯,by rw[a9,Wb];exact tp),a*cn (U.getD m 0),c'*cn (U.getD m 0),fa.mul<|Fs.cn _,fc.mul<|Fs.cn _,?_,?_))
   ·rw[e0,a7];generalize cn iv=s1;grind
   ·conv=>lhs;rw[ef,eU]
    generalize sr R=s1;generalize cn (U.getD m 0)=s2;grind
   ·conv=>lhs;rw[eg,eU]
    generalize sr R=s1;generalize cn (U.getD m 0)=s2;grind
inductive S_slopes:ZF
 |mk {Q:AH} {κ:KX} {f:Ab κ} (l:f.length<=8) (bf:∀x∈f,B1 κ x) (q:∀R,Bj R->sr R=der (sr f)->R.length<=f.length-1->Q (nums κ R)):S_slopes [.kd κ,nums κ f] Q
theorem nV:Aa ["kind","f"] ["kind","f"] (Ao Nw):=‹2›
theorem z_slopes(h:Ae K mg "slopes" Nw) (T:Nm mg) (c:Mt P w K mg base Z zKd "times" 3 (S2 λ_ x y=>x*y)) (b:Mt P w K mg base Z zKd "number" 3 Fy) (a:Fn P w K mg base Z "trimmed" 3 HG):Fn P w K mg base Z "slopes" 4 S_slopes:=by
 refine Cg h nV (λ_ _ _ _ _ _ _ v =>
  (AK<|Bk<|AD a<|Aw (qv 0)<|QL.toE<|Gh "place" [(0,"kind"),(1,"f")] (Oi T.range Ah<|Ci T.len<|qv 1) (by exact λ_ _ _ _=>(Bh c (qv 1)<|Aw (Bh b (qv 1)<|By<|qv 0)<|A8 (qv 2)<|qv 0)))) ?_
 rintro _ Q ⟨t,s,q⟩
 rename_i κ f
 have u:=Cb f;obtain ⟨g,hg⟩:∃g:Ab κ,g=(List.range<|f.length-1).map λi=>nt (i+1)*f.getD (i+1) 0:=(_,rfl);have j:g.length=f.length-1:=by rw[hg,Q1,Qu]
 have d:∀i,g.getD i 0=nt (i+1)*f.getD (i+1) 0:=λi=>by
  rw[Q3]
  by_cases y:i<f.length-1
  ·rw[hg,Q7,Ww y];rfl
  ·rw[U1 ⋯,BF (F:=f) ⋯];generalize nt (κ:=κ) (i+1)=z;grind
 refine (⋯,g.map<|num κ,by rw[DF,Cb,j];omega,by rw[DF];omega,λi p l=>?_,?_)
 ·obtain ⟨e,rfl⟩:=EQ l;have e:i<f.length-1:=⋯;refine (nt<|i+1,?_,_,by rw[show (1:Int)+(i:Int)=((i+1:Nat):Int) by omega];exact E4 ⋯,(GH (D:=1) (LP<|i+1) ∅ ∅<|Q5 (show i+1<=8 by omega)<|Q9 (show 8<2^10 by decide)<|Q8 ∅ ∅,s _ ?_,?_))
  ·rw[show (1:Int)+(i:Int)=((i+1:Nat):Int) by omega];exact gR<|Q0 (show i+1<=10^1 by omega)<|Q8 ∅ ∅
  ·rw[Q3,Q6 ⋯];exact W7 _
  ·rw[Q7,Q6 ⋯,<-d,Q3,Q6 ⋯];rfl
 ·exact Ba.mk λr m o n=>q _ (IT m n) (Rg.Ps.ext λk=>by rw[AM,Hv o,d,D1,AM]) (by rw[Qn];omega)
inductive S_cp:ZF
 |mk {Q:AH} {κ:KX} {F G:Ab κ} {D:Nat} (tF:Bj F) (tG:Bj G) (lt:G.length<F.length) (l8:F.length<=8) (n1:κ = .q->G.length+1=F.length) (d0:0<D) (d1:D<=10^600) (qF:∀x∈F,QN κ (D:Int) (2^225) x) (qG:∀x∈G,QN κ (D:Int) (2^225) x) (q:∀R,J4 (sr F) (sr G) R->Q (nums κ R)):S_cp [.kd κ,nums κ F,nums κ G] Q
theorem BN:Aa ["kind","f","g","polys","upper","lower"] ["kind","f","g"] (Ao NT):=‹2›
theorem z_cp(h:Ae K mg "common_part" NT) (H:Pc K mg Z.p) (Y:B5 P w K mg base Z.p 8 ["self","under"] (HC Z.p)) (c:Mt P w K mg base Z Ec "times" 9 Km) (a:Fn P w K mg base Z "bottom_factor" 9 CZ) (b:Fn P w K mg base Z "common_row" 9 Og):Fn P w K mg base Z "common_part" 10 S_cp:=by
 have i:=BN.nd;refine Cg h BN (λ_ _ _ _ _ _ _ hr =>
  (Ap (AE 3 i<|MI Y H.m<|qv 0)
  (Ap (AE 4 i<|QL.toE<|Cs<|By<|Bh c (qv 3)<|Aw (AD a<|Aw (qv 0)<|qv 1)<|qv 1)
  (Ap (AE 5 i<|QL.toE<|Cs<|By<|Bh c (qv 3)<|Aw (AD a<|Aw (qv 0)<|qv 2)<|qv 2)
  (AK<|Bk<|A8 (AD b<|BG (qv 0) (qv 4)<|qv 5) Ah))))) ?_
 rintro _ Q ⟨J,W,lt,l8,S,d,f,r,s,q⟩
 rename_i l F G D
 have o:∀ {x:l.F} {N:Nat},QN l 1 N x->∀u∈[x],QN l ((1:Nat):Int) N u:=λh u hu=>by rw[Qf.mp hu];exact h
 have B:D<2^8900:=Q5 f ‹4›;have A:D<=10^3000:=Q0 f<|Q8 ∅ ∅;have n:2^225<=10^3000:=by decide +kernel
 refine CZ.mk r d B λy v O g=>BE.mk (F:=[y]) (G:=F) (D:=1) (by show 1<=90;decide) ⋯ (o O) r ∅ ∅ d f A n λU T j C=>(by show 1<=1000;decide,?_);refine CZ.mk s d B λz p I k=>BE.mk (F:=[z]) (G:=G) (D:=1) (by show 1<=90;decide) ⋯ (o I) s ∅ ∅ d f A n λL E m t=>(by show 1<=1000;decide,?_);have C:U.length<=1+F.length-1:=C;have t:L.length<=1+G.length-1:=t;have gU:=Si v J j;have gL:=Si p W m;exact (dO v p T E rfl rfl j m,⋯,⋯,λe=>by have:=S e;omega,WQ j ⋯ g,WQ m ⋯ k,λR M=>(_,rfl,q R M))
inductive S_val:ZF
 |mk {Q:AH} {κ:KX} {f:Ab κ} {x:κ.F} (l:f.length<=1000) (bf:∀z∈f,B1 κ z) (bx:B1 κ x) (bv:∀k,k<=f.length->B1 κ (Bb x (f.drop k))/\B1 κ (Bb x (f.drop k)*x)) (q:Q (num κ (Bb x f))):S_val [.kd κ,nums κ f,num κ x] Q
theorem Cw:Aa ["kind","f","number","total","each"] ["kind","f","number"] (Ao O6):=‹2›
theorem z_val(h:Ae K mg "value_at" O6) (Tr:mg "reversed"=none) (a:Mt P w K mg base Z zKd "number" 3 Fy) (b:Mt P w K mg base Z zKd "times" 3 (S2 λ_ x y=>x*y)) (c:Mt P w K mg base Z zKd "plus" 3 (S2 λ_ x y=>x+y)):Fn P w K mg base Z "value_at" 4 S_val:=by
 have i:=Cw.nd;refine Cg h Cw (λ_ _ _ _ _ _ _ B =>
  (Ap (AE 3 i<|Bh a (qv 0)<|By Ah)
  (Ap (D3 [4] (WD Tr<|qv 1) (Eg 4 i)<|AK<|AE 3 i<|Bh c (qv 0)<|Aw (Bh b (qv 0)<|Aw (qv 3)<|qv 2)<|qv 4)
  (AK<|Bk<|qv 3)))) ?_
 rintro _ Q ⟨l,A,u,n,q⟩
 rename_i d f x
 have s:=Cb f;refine (0,FP,(λt r=>r=[some<|.val<|.kd d,some<|.val<|nums d f,some<|.val<|num d x,some<|.val<|num d<|Bb x<|f.drop<|f.length-t,none],?_,?_,?_))
 ·rw[U6,sP];rfl
 ·rintro t p _ j rfl;rw[<-List.map_reverse] at j;obtain ⟨y,g,rfl⟩:=mget j;have m:=(Qr.mp g).1;rw[We] at m;have o:f.getD (f.length-(t+1)) 0=y:=by
   rw[rK m] at g;rw[Q3,show f.length-(t+1)=f.length-1-t by omega,g];rfl
  obtain ⟨v,z⟩:=n (f.length-t) ⋯;refine (v,u,(z,A y<|List.mem_reverse.mp<|Ql g,?_));have e:=KR x f (k:=f.length-(t+1)) ⋯;rw[show f.length-(t+1)+1=f.length-t by omega,o] at e;rw[e,show y+x*Bb x (f.drop<|f.length-t)=Bb x (f.drop<|f.length-t)*x+y by grind]
 ·rintro _ rfl;rw[We,s,Nat.sub_self];exact q
section
variable{x y:Str}{pos p2:Pos}{elt it cnd:Expr}{te:ZE}{tc:ZT}{ti:ZA}{scope:Scope}{caps:List (Nat×Str)}
inductive DO (l:List PV) (c:PV->(Bool->Prop)->Prop) (f:PV->AH->Prop) (Q:List PV->Prop):Prop
 |mk (Pv:Nat->List PV->Prop) (hz:l.length<=3000) (h0:Pv 0 []) (hs:∀(i:Nat) p r,l[i]?=some p->Pv i r->c p λb=>Br b (f p λv=>Pv (i+1) (r++[v])) (Pv (i+1) r)) (q:∀r,Pv l.length r->Q r):DO l c f Q
theorem DO.mo{A B:List PV->Prop}(k:∀r,A r->B r)(h:DO l c f A):DO l c f B:=let ⟨Pv,h1,h2,h3,h4⟩:=h;(Pv,h1,h2,h3,λr a=>k _<|h4 r a)
abbrev Ki(caps:List (Nat×Str))(ti:ZA)(tc:ZT)(te:ZE):ZA:=λa Q=>ti a λl=>DO l (λp=>tc (some (.val p)::cap caps a)) (λp=>te (some (.val p)::cap caps a)) Q
theorem Tt(mi:Mo ti)(mc:Mo tc)(me:Mo te)(σ:L2.St)(H:Hp)(Q:VK)(h:Jt Z o j (Ki caps ti tc te) σ H Q):MU 1 caps (Jx Z o j ti) (DK 0) (NX Z o j tc) (E1 Z o j te) σ H Q:=by
 obtain ⟨O,E,s,q⟩:=h;refine (O,E,s,mi E _ _ (λl c J D u wk=>?_) q);obtain ⟨B,T,S,I,q⟩:=c;refine (λi m g n=>m=l.length-i/\i<=l.length/\g.length<=i/\Ad D n/\∃r,B i r/\Af Z (hide O n) r g,(_,rfl,Qe _,Q4 _,BI,[],S,.nil),?_);rintro i m g n ⟨rfl,hi,ly,d,r,pv,A⟩;have l1:l.length<sizeLine:=Q5 T ∅;obtain ⟨Y,U⟩:=wk O n (Ct d) ((s.ls.same u).same d) i;refine (⋯,?_)
 by_cases e:i=l.length
 ·refine .inl (Y e,nw (AW u d) (q r (by rw[<-e];exact pv)) A)
 ·have t:i<l.length:=⋯;obtain ⟨L,R⟩:=U l[i]<|Q6 t;refine .inr (L,⋯,λv a=>Ad D a/\∃r,B (i+1) r/\Af Z (hide O a) r (g++[v]),λa=>Ad D a/\∃r,B (i+1) r/\Af Z (hide O a) r g,λv a ⟨z,C⟩=>(l.length-(i+1),⋯,rfl,t,by rw[Qi,List.length_singleton];omega,z,C),λa ⟨z,C⟩=>(l.length-(i+1),⋯,rfl,t,⋯,z,C),λx N M=>?_);obtain ⟨S2,W⟩:=R x N M;have F:=s.cap (AW u<|AW d S2) caps (vs:=[x]) (ps:=[l[i]])<|.cons W .nil;refine (Ke,O,_,F,mc _ _ _ (λb k a f=>?_)<|I i _ r (Q6 t) pv)
  cases b with
  |true=>exact (O,_,F.same f,me _ _ _ (λp k v H5 G r5=>(AW d<|AW S2<|AW f G,r++[p],k,(A.h<|AW S2<|AW f G).append<|.cons r5 .nil)) k)
  |false=>exact (AW d<|AW S2 f,r,k,A.h<|AW S2 f)
theorem aE(x:Str)(caps:List (Nat×Str))(o:QI Z X (.Name x p2) it ti)(s:∀c b a C,QT Z (A9 X scope (x::caps.map (·.2)) b a C c) cnd tc)(r:∀c b a C,QE Z (A9 X scope (x::caps.map (·.2)) b a C c) elt te)(h:AV X scope caps:=by repeat (first | exact trivial | refine And.intro (rfl,rfl,by first | exact .inl rfl | exact .inr rfl) ?_))(u:X.calm=true:=by rfl)
 (j:(x::caps.map (·.2)).Nodup:=by decide +kernel)
 (p:(scope.names.all λy=>!(y.2==NameKind.free)||(X.env.cells.lookup y.1).isSome)=true:=by rfl)
 (g:scope.kind = .function:=by rfl) (e:∀y∈scope.names,y.2 ≠ .cell:=by decide +kernel)
 (d:∀y∈scope.names,y.2 = .local->scope.names.lookup y.1=some .local:=by decide +kernel) (v:∀x,foldedSetIterable it X.env x=pure x:=by intro _; rfl)
 (t:∀c b a C,Loc (A9 X scope (x::caps.map (·.2)) b a C c).env.scope x/\(A9 X scope (x::caps.map (·.2)) b a C c).env.scope.names.lookup x=some .local:=by exact λ_ _ _ _=>(.inl rfl,rfl)) :
 QL Z X (.ListComp elt [(.Name x p2,it,[cnd],0)] scope pos) (Ki caps ti tc te) :=
 (λz A B f q=>o.mo z _ _ (λl k=>k.mo f) q,λm n=>BZ (oK [x] caps u (o.ok m n) (λc b a C=>CA (i:=0) j rfl (t c b a C).1<|.inr (t c b a C).2) (λc b a C=>(s c b a C).ok m n) (λc b a C=>(r c b a C).ok m n) h p g e d v)<|Tt o.mo (s [] X.s₀ X.H₀ 0).mo (r [] X.s₀ X.H₀ 0).mo)
end
end Lake.Zp
namespace Lake.My
open PySem L2 PyProof.Rows
inductive OS (vs:List V) (H:Hp) (Q:VK) (zE:XK):Prop
 |mk (x y:Int) (_:vs=[.int x,.int y]) (_:x.natAbs<=10^148) (_:y.natAbs<=10^148) (_:∀(t:Addr) (H':Hp) (u v:Int),Ad H H'->H' t=some (.tup [.int (Int.gcd x y),.int u,.int v])->(Int.gcd x y:Int)=x*u+y*v->u.natAbs<=10^149->v.natAbs<=10^149->Q (.ref t) H'):OS vs H Q zE
section
variable{P:Program}{w:World}{K:Ac}{mg:Ai}{base:Heap}
theorem hX(h:Ae K mg "shares" KB) (c:AF P w K mg base "less_times" 1 ["some","factor","others"] (Lm K)):AF P w K mg base "shares" 2 ["one","other"] OS:=by
 refine Zp.has_okA h B4 (λ_ _ _ _ h=>by obtain ⟨_,_,rfl,_⟩:=h;rfl)<|λf X A J s H vs Q E T h=>?_;obtain ⟨x,y,rfl,bx,bY,k⟩:=h;have v:=B4.nd;refine (_,(AQ (Bv (i:=2) v rfl (Or.inl rfl)<|DI<|Ag (pv 0)<|Ag Aj<|Ag Aj An)
  (AQ (Bv (i:=3) v rfl (Or.inl rfl)<|DI<|Ag (pv 1)<|Ag Aj<|Ag Aj An)
  (AQ (Fq q5 (BK Ga (AY A6 (pv 3) Aj<|λ_ _=>rfl) Aj<|Bn _)<|AQ (Bv (i:=4) v rfl (Or.inl rfl)<|BJ c T (by rfl)<|Ag (pv 2)<|Ag (Ar Jn (AY A6 (pv 2) Aj<|λ_ _=>rfl)<|AY A6 (pv 3) Aj<|λ_ _=>rfl)<|Ag (pv 3) An)
   (AQ (Bv (i:=2) v rfl (Or.inl rfl)<|pv 3)
   (Az<|Bv (i:=3) v rfl (Or.inl rfl)<|pv 4)))
  (AQ (BX (BK EW (AY A6 (pv 2) Aj<|λ_ _=>rfl) Aj<|Bn _) (Az<|A7<|BJ c T (by rfl)<|Ag (DI<|Ag Aj<|Ag Aj<|Ag Aj An)<|Ag Aj<|Ag (pv 2) An) BW)
  (Az<|A7<|pv 2))))),?_)
 refine (_,rfl,(by show 3<=sizeLine;decide),λR M=>?_);refine (_,rfl,(by show 3<=sizeLine;decide),λY D=>?_);have W:Ad H (As H R<|.tup [.int x,.int 1,.int 0]):=Bg M _;have S1:=W.trans<|Bg D<|.tup [.int y,.int 0,.int 1];refine (λm U u=>∃(p r:Addr) (f:Option V) (a j l b C q:Int),m=b.natAbs/\U=[some<|.int x,some<|.int y,some<|.ref p,some<|.ref r,f]/\Ad H u/\u p=some (.tup [.int a,.int j,.int l])/\u r=some (.tup [.int b,.int C,.int q])/\M1.Sh x y a j l b C q,
  (_,R,Y,none,x,1,0,y,0,1,rfl,rfl,S1,by rw[AL<|Dj A4 D];exact A4,A4,M1.Sh.start x y),?_)
 rintro m U u ⟨p,r,f,a,j,l,b,C,q,rfl,rfl,S,n,e,I⟩;have g:=I.bound;have B:x.natAbs+2*y.natAbs+1+1<=10^150:=⋯;have d:=Nat.le_of_succ_le B;refine (_,rfl,_,_,_,_,rfl,rfl,AI.of e,rfl,rfl,_,rfl,?_);refine Hz (λo=>(_,λ_ _ h=>h,?_))<|λo=>?_
 ·refine (_,rfl,_,rfl,_,_,_,_,rfl,rfl,AI.of n,rfl,_,rfl,_,_,_,_,rfl,rfl,AI.of e,rfl,_,_,rfl,rfl,(o,Q0 g.2.2.2.1 d),_,rfl,?_);have L:=Q0 (M1.fdiv_small a o)<|Q0 (Nat.succ_le_succ g.1) B;refine (p,r,a.fdiv b,a,j,l,b,C,q,rfl,AI.of n,AI.of e,Di L<|Q0 g.2.2.2.1 d,Di L<|Q0 g.2.2.2.2.1 d,Di L<|Q0 g.2.2.2.2.2 d,λt G=>?_);refine (_,rfl,_,rfl,?_);exact (_,(by rw[M1.rest_eq];exact M1.fmod_lt a o),r,t,_,b,C,q,_,_,_,rfl,rfl,S.trans<|Bg G _,by rw[AL<|Dj e G];exact e,A4,I.turn o)
 ·subst o;obtain ⟨g1,O⟩:=I.done;refine (_,rfl,_,_,_,_,rfl,rfl,AI.of n,rfl,_,_,rfl,rfl,_,rfl,?_);refine Ex (λZ=>?_)<|λZ=>?_
  ·refine ((by show 3<=sizeLine;decide),λz N=>?_);refine (_,rfl,?_);refine (z,p,1,0,0,0,a,j,l,rfl,AI.of A4,AI.of (by rw[AL<|Dj n N];exact n),Di ∅<|Q0 g.1 d,Di ∅<|Q0 g.2.1 d,Di ∅<|Q0 g.2.2.1 d,λt G=>?_);have F:(0:Int)-1*a=Int.gcd x y:=⋯;refine k t _ (0-1*j) (0-1*l) ((S.trans<|Bg N _).trans<|Bg G _) (by rw[A4,F]) ?_ ⋯ ⋯;rw[<-F,O,Wa,Wa,Wa,Uy,Uy];omega
  ·refine (_,rfl,?_);have F:a=Int.gcd x y:=⋯;refine k p u j l S (by rw[<-F];exact n) (by rw[<-F];exact O) ⋯ ⋯
end
end Lake.My
namespace Lake.Zp
open My
open PySem L2 PyProof.Rows
variable{Z:Zc}{X:Cx}{P:Program}{w:World}{K:Ac}{mg:Ai}{base:Heap}{cN:Addr}
section
variable{e:Expr}{te:ZE}{p pos:Pos}{k:Nat}
abbrev iS(te:ZE):ZE:=λa Q=>te a λp=>∃n b,p = .kd (.r n b)/\Q (.int (n:Int))
theorem oC(o:AU X.K Z.r "prime") (t:BV X.K Z.r) (h:QE Z X e te) (r:attributeBase e "prime" X.env (eval e X.env)=eval e X.env:=by rfl):QE Z X (.Attribute e "prime" pos) (iS te) :=
 (λb _ _ f q=>h.mo b _ _ (λp ⟨n,h,e,k⟩=>(n,h,e,f _ k)) q,λd j=>BZ (F8 (h.ok d j) r) λu H Q ⟨O,b,s,q⟩=>(O,b,s,h.mo b _ _ (λp ⟨n,x,e,k⟩ v m i c=>by
  subst e;unfold Rep at c;obtain ⟨a,rfl,⟨l,g⟩,_⟩:=c;exact (a,Z.r,l,_,.int n,rfl,hide_le _ _ g,t,o,GJ _,k _ m i rep_i)) q))
abbrev TC(te:ZE):ZE:=λa Q=>te a λp=>∃(n:Nat) (b:BB n),p = .int (n:Int)/\Q (.kd<|.r n b)
theorem lI(u:∀H,Gd Z H)(A:B5 X.prog X.w X.K X.mg X.base Z.r k ["self","prime"] (Hf Z.r)) (z:X.mg "Rests"=some (.ref Z.r)) (h:QE Z X e te) (D:Av (k+1) X.A:=by assumption) (r:Gl X "Rests":= by rfl) (i:starEach [e] X.env=(false,eval e X.env)::starEach [] X.env:=by rfl):QE Z X (.Call (.Name "Rests" p) [e] [] pos) (TC te) :=
 (λa _ _ f q=>h.mo a _ _ (λp ⟨n,h,e,k⟩=>(n,h,e,f _ k)) q,λm y=>BZ (Ka A D r z (Ag (h.ok m y) An i) ∅ i rfl) λF H Q ⟨O,a,s,q⟩=>(O,a,s,h.mo a _ _ (λp ⟨n,l,e,k⟩ v B g t=>by
  subst e;have C:=A3 t;subst C;intro x b j d o;have S2:=Bg d<|.own x;have c:As B b (.own x) x=none:=by rw[AL<|rC o];exact j
  refine (x,b,n,rfl,A4,l.pr,by have:=l.lt;omega,?_);rw[Mz];have E:=AW S2<|Bg c<|.ins Z.r b<|En n;refine (rfl,k _ _ (AW g E) ?_);unfold Rep;exact (x,rfl,(b,by rw[hide_out<|(s.ls.same g).new j];exact A4),u _)) q))
end
theorem EA(h:C1 P w K mg base x k ps sp)(g:Eo S)(c:∀O e vs H Q E,Ls O H->Af Z (hide O H) e vs->S e (Up Z O H Q)->sp vs H Q E):Fn P w K mg base Z x k S :=
 (g,ps,let ⟨f,fd,a,b,c',d⟩:=h.ex;(f,fd,a.imp λvs H Q E ⟨O,e,l,r,s⟩=>c O e vs H Q E l r s,b,c',d))
inductive LZ:ZF
 |mk {Q:AH} {n:Int} (l:n<1000000) (q:∀b:Bool,(b=true↔M2.Prm n)->Q (.bl b)):LZ [.int n] Q
theorem z_isp(h:AF P w K mg base "is_prime" 1 ["number"] HL):Fn P w K mg base Z "is_prime" 1 LZ :=
 EA h.toX (λd A B f ⟨a,q⟩=>(a,λb e=>f _<|q b e)) λO g i H Q E l r s=>by
  obtain ⟨a,q⟩:=s;obtain ⟨v,rfl,c⟩:=r.one;have e:=A3 c;subst e;exact (_,rfl,a,λz=>q true (by simp[z]) _ H BI D2,λz=>q false (by simp[z]) _ H BI D2)
inductive Er:ZF
 |mk {Q:AH} {x y:Int} (bx:x.natAbs<=10^148) (bY:y.natAbs<=10^148) (q:∀u v:Int,(Int.gcd x y:Int)=x*u+y*v->u.natAbs<=10^149->Q (.tup [.int (Int.gcd x y),.int u,.int v])):Er [.int x,.int y] Q
theorem z_shs(h:AF P w K mg base "shares" 2 ["one","other"] OS):Fn P w K mg base Z "shares" 2 Er :=
 EA h.toX (λy A B f ⟨a,b,q⟩=>(a,b,λu v e g=>f _<|q u v e g)) λO C F H Q E l r s=>by
  obtain ⟨a,b,q⟩:=s;obtain ⟨z,D,rfl,i,o⟩:=r.two;have k:=A3 i;have j:=A3 o;subst k j;refine (_,_,rfl,a,b,λt n u v S c e d p=>q u v e d _ n S ?_);unfold Rep;exact (t,_,rfl,by rw[hide_out λm=>by obtain ⟨x,q⟩:=(l.same S) t m;rw[c] at q;cases q];exact c,.cons rep_i<|.cons rep_i<|.cons rep_i .nil)
end Lake.Zp
namespace Lake.My
open PySem L2 PyProof.Rows
section
variable{κ:KX}
theorem jI{f g:Sr κ}{R:Ab κ}(h:J4 f g R)(n:f≠0):R.length=1↔Cp f g:=by
 rcases h.o with ⟨-,e,-⟩|⟨mo,a,c,fa,fc,ef,eg⟩
 ·exact absurd e n
 obtain ⟨x,y,i,d,b⟩:=h.b
 constructor
 ·intro l;obtain ⟨z,rfl⟩:∃z,R=[z]:=rW.mp l;have m:z=1:=mo.2;have j:sr [z]=1:=by rw[m];exact CJ
  exact (x,y,i,d,by rw[j] at b;rw[b];grind)
 ·rintro ⟨u,v,k,o,e⟩;have p:=mo.1;have:=cU (R:=R) (F:=[(1:κ.F)]) (a:=u*a+v*c) mo (.inr EZ) (by show 1≠0;decide) ((k.mul fa).add<|o.mul fc) (by
   show cn 1=_;rw[CJ,<-e]
   conv=>lhs;rw[ef,eg]
   generalize sr R=s;grind)
  have:R.length<=1:=this;omega
def E2(x:κ.F)(f:Ab κ):Prop:=Bb x f=0
theorem IP(A:List Int):sr (A.map<|zi (κ:=κ))=⟨λd=>zi<|A.getD d 0⟩:=Rg.Ps.ext λk=>by
 rw[AM,Q3,Q7];show _=zi (A.getD k 0);rw[Q3]
 cases A[k]? with
 |none=>exact Aq.symm
 |some a=>rfl
end
end Lake.My
namespace Lake.Zp
open My
open PySem L2 PyProof.Rows
variable{Z:Zc}{X:Cx}{P:Program}{w:World}{K:Ac}{mg:Ai}{base:Heap}{cN:Addr}
abbrev zns(A:List Int):PV:=.lst<|A.map .int
theorem Z6(x:(KX.r p hp).F):num (.r p hp) x = .int ((show Fin p from x).val:Int):=by unfold num;rfl
theorem num_zi{p i:Nat}{hp:BB p}(h:i<p):num (.r p hp) (zi (i:Int)) = .int (i:Int):=by
 have e:=(HU (κ:=.r p hp) (n:=(i:Int)) (by rw[Qa];have:=hp.lt;exact Q0 (show i<=10^6 by omega)<|Q8 ∅ ∅)).2;rw[sE ⋯ ⋯] at e;rw[Z6];exact qW PV.int e
inductive S_sim:ZF
 |mk {Q:AH} {p:Nat} {hp:BB p} {f:List (KX.r p hp).F} (tf:Bj f) (l1:1<=f.length) (l8:f.length<=8) (q:∀b:Bool,(b=true↔Cp (sr f) (der (sr f)))->Q (.bl b)):S_sim [.kd (.r p hp),nums _ f] Q
theorem YY:Aa ["kind","f"] ["kind","f"] (Ao OW):=‹2›
theorem z_sim(h:Ae K mg "is_simple" OW) (T:Nm mg) (b:Fn P w K mg base Z "common_part" 10 S_cp) (a:Fn P w K mg base Z "slopes" 10 S_slopes):Fn P w K mg base Z "is_simple" 11 S_sim:=by
 refine Cg h YY (λ_ _ _ _ _ _ _ l =>
  (AK<|Bk<|SG BO D9 (Ci T.len<|AD b<|BG (qv 0) (qv 1)<|AD a<|Aw (qv 0)<|qv 1) Ah)) ?_
 rintro _ Q ⟨c,e,d,q⟩
 rename_i p m f
 refine S_slopes.mk d (λ_ _=>trivial) λG i j k=>S_cp.mk (D:=1) c i ⋯ d (λz=>nomatch z) ∅ ∅ (λ_ _=>trivial) (λ_ _=>trivial) λR g=>q _ ?_;rw[j] at g;rw[qT,<-jI g λz=>by rw[KA c z] at e;exact absurd e (by show ¬1<=0;decide),Cb];omega
inductive S_tri:ZF
 |mk {Q:AH} {p:Nat} {hp:BB p} {f:List (KX.r p hp).F} (p3:p<=3000) (l8:f.length<=1000) (q:∀c:Nat->Bool,(∀i,c i=true↔E2 (zi (i:Int)) f)->Q (.lst (((List.range p).filter c).map λi:Nat=>PV.int (i:Int)))):S_tri [.kd (.r p hp),nums _ f] Q
theorem nY:Aa ["kind","f"] ["kind","f"] (Ao MS):=‹2›
theorem z_tri(h:Ae K mg "tried_roots" MS) (T:Nm mg) (j:Kd K mg Z.f Z.r) (l:Mt P w K mg base Z zKd "is_nought" 4 Snz) (a:Fn P w K mg base Z "value_at" 4 S_val):Fn P w K mg base Z "tried_roots" 5 S_tri:=by
 refine Cg h nY (λ_ _ _ _ _ _ _ o =>
  (AK<|Bk<|QL.toE<|aE "number" [(0,"kind"),(1,"f")] (GD T.range<|oC j.nP j.clR<|qv 0) (by exact λ_ _ _ _=>(Fv<|Bh l (qv 1)<|By<|AD a<|BG (qv 1) (qv 2)<|qv 0)) (by exact λ_ _ _ _=>(qv 0)))) ?_
 rintro _ Q ⟨s,m,q⟩
 rename_i p e f
 obtain ⟨c,hc⟩:∃c:Nat->Bool,∀i,c i=true↔E2 (zi (i:Int)) f:=by
  classical
  exact (λi=>decide<|E2 (zi (i:Int)) f,λi=>qT)
 refine (p,e,rfl,by have:=e.lt;omega,⋯,λi r=>r=((List.range i).filter c).map λi:Nat=>PV.int (i:Int),by rw[DF];omega,rfl,?_,?_)
 ·rintro i _ r d rfl;obtain ⟨d,rfl⟩:=EQ d;have d:i<p:=⋯;have k:(PV.int<|0+(i:Int))=num (.r p e) (zi (i:Int)):=by rw[num_zi d,Int.zero_add]
  rw[k];refine (m,λ_ _=>trivial,trivial,λ_ _=>(trivial,trivial),⟨λb n=>?_⟩);have g:=Ur.mpr<|Iff.trans n (hc i).symm;rw[List.range_succ,List.filter_append]
  cases b with
  |true =>
   rw[Wp,List.filter_cons,qK g.symm,num_zi d];rfl
  |false =>
   rw[Wp,List.filter_cons,qI (by rw[<-g];decide)];show _=_++[];rw[Wu]
 ·rintro r rfl;rw[DF];exact q c hc
inductive S_res:ZF
 |mk {Q:AH} {κ:KX} {A:List Int} (l:A.length<=1000) (b:∀a∈A,a.natAbs<=10^140) (q:Q (nums κ (A.map zi))):S_res [.kd κ,zns A] Q
theorem pN:Aa ["kind","numbers"] ["kind","numbers"] (Ao Po):=‹2›
theorem z_res(h:Ae K mg "rests_of" Po) (c:Mt P w K mg base Z zKd "number" 4 Fy):Fn P w K mg base Z "rests_of" 5 S_res:=by
 refine Cg h pN (λ_ _ _ _ _ _ _ g =>
  (AK<|Bk<|QL.toE<|Gh "each" [(0,"kind")] (ED<|qv 1) (by exact λ_ _ _ _=>(Bh c (qv 1)<|By<|qv 0)))) ?_
 rintro _ Q ⟨l,b,q⟩
 rename_i f A
 refine ((A.map zi).map<|num f,by rw[Q1,Q1,Q1],by rw[Q1];exact l,λi p e=>?_,q);obtain ⟨a,d,rfl⟩:=mget e;exact (zi a,HU<|b a<|Ql d,by rw[Q7,Q7,d];rfl)
def Fits(A:List Int)(n:Nat):Prop:=∃a:BB n,¬(n:Int) ∣ A.getD (A.length-1) 0/\Cp (sr<|A.map<|zi (κ:=.r n a)) (der<|sr<|A.map zi)
theorem MY{A:List Int}(h:1<=A.length):CC (A.map PV.int) (-1)=some (.int<|A.getD (A.length-1) 0):=by
 have:=FO (xs:=A.map PV.int) (j:=A.length-1) (v:=.int<|A.getD (A.length-1) 0) (by rw[Q7,Q6 ⋯,Q3,Q6 ⋯];rfl);unfold CC at this ⊢;rw[Q1] at this ⊢;have a:DE A.length ((A.length-1:Nat):Int)=some (A.length-1):=LJ ⋯;have b:DE A.length (-1)=some (A.length-1):=by unfold DE;rw[qI ⋯,qK ⋯];congr 1;omega
 rw[a] at this;rw[b];exact this
inductive Dy:ZF
 |mk {Q:AH} {A:List Int} {n:Nat} (n2:2<=n) (n3:n<1000000) (l1:1<=A.length) (l8:A.length<=8) (b:∀a∈A,a.natAbs<=10^140) (q:∀b:Bool,(b=true↔Fits A n)->Q (.bl b)):Dy [.int (n:Int),zns A] Q
theorem Ej:Aa ["number","numbers","kind"] ["number","numbers"] (Ao P6):=‹2›
theorem z_fits(h:Ae K mg "fits" P6) (r:∀H,Gd Z H) (t:Kd K mg Z.f Z.r) (u:B5 P w K mg base Z.r 2 ["self","prime"] (Hf Z.r)) (g:Fn P w K mg base Z "is_prime" 11 LZ) (f:Fn P w K mg base Z "rests_of" 11 S_res) (a:Fn P w K mg base Z "is_simple" 11 S_sim):Fn P w K mg base Z "fits" 12 Dy:=by
 have k:=Ej.nd;refine Cg h Ej (λ_ _ _ _ _ _ _ x=>have o:=x.mono (show 3<=11 by decide)
  (Ap (El (QW.t<|HH (Ij<|Fv<|AD g<|By<|qv 0)<|JP<|Ch BO D9 (AA BU lc (A8 (qv 1)<|D6 Ah)<|qv 0) Ah) (AK<|Bk LL) DM)
  (Ap (AE 2 k<|lI r u t.mgR<|qv 0)
  (AK<|Bk<|AD a<|Aw (qv 2)<|AD f<|Aw (qv 2)<|qv 1)))) ?_
 rintro _ Q ⟨B,p,m,s,b,q⟩
 rename_i A n
 refine (⋯,λv j=>?_)
 cases v with
 |false=>exact q false ((λz=>nomatch z),λ⟨i,_⟩=>j.mpr i.pr)
 |true =>
  have i:BB n:=(j.mp rfl,p);refine (_,MY m,(⋯,br (λz=>?_) λz=>?_))
  ·exact q false ((λz=>nomatch z),λ⟨_,k,_⟩=>absurd (rR z) k)
  ·refine (n,i,rfl,S_res.mk ⋯ b<|S_sim.mk (.inr ?_) (by rw[Q1];exact m) (by rw[Q1];exact s) λy l=>q y<|l.trans (λc=>(i,λd=>z<|U9 d,c),λ⟨_,_,c⟩=>c));rw[Q1,Q3,Q7,Q6 ⋯];intro e;have e:zi (κ:=.r n i) (A[A.length-1]'⋯)=K0 _:=e;refine z<|U9 ?_;rw[Q3,Q6 ⋯];exact (EY rfl).mp e
inductive D4:ZF
 |mk {Q:AH} {A:List Int} (l1:1<=A.length) (l8:A.length<=8) (b:∀a∈A,a.natAbs<=10^140) (ex:∃n,n<3000/\Fits A n) (q:∀n:Nat,n<3000->Fits A n->Q (.int (n:Int))):D4 [zns A] Q
theorem Bz:Aa ["numbers","number"] ["numbers"] (Ao OT):=‹2›
theorem z_fp(h:Ae K mg "fitting_prime" OT) (a:Fn P w K mg base Z "fits" 12 Dy):Fn P w K mg base Z "fitting_prime" 13 D4:=by
 have d:=Bz.nd;refine Cg h Bz (λ_ _ _ _ _ _ _ r =>
  (Ap (AE 1 d Ah)
  (Ap (Hg [] (Ij<|Fv<|AD a<|Aw (qv 1)<|qv 0)<|AK<|Lq 1 KN d Ah)
  (AK<|Bk<|qv 1)))) ?_
 rintro _ Q ⟨o,j,b,⟨N,p,f⟩,q⟩
 rename_i A
 have two:∀ {n},Fits A n->2<=n:=λ⟨l,_⟩=>l.two;refine (λm i=>∃n:Nat,m=N-n/\2<=n/\n<=N/\i=[some<|.val<|zns A,some<|.val<|.int (n:Int)],N-2,(2,rfl,Q4 _,two f,rfl),?_);rintro _ _ ⟨n,rfl,g,s,rfl⟩;refine Dy.mk g ⋯ o j b λk c=>?_
 cases k with
 |true=>exact q n ⋯<|c.mp rfl
 |false =>
  have:n≠N:=λe=>by rw[e] at c;exact absurd (c.mpr f) ∅
  exact (N-(n+1),⋯,n+1,rfl,⋯,⋯,rfl)
end Lake.Zp
namespace Lake.My
open PySem L2 PyProof.Rows
def dl:Nat->List Int->List Int
 |_,[]=>[]
 |k,a::g=>(k:Int)*a::dl (k+1) g
theorem PN:∀(k:Nat) (g:List Int),(dl k g).length=g.length
 |_,[]=>rfl
 |k,a::g=>by show (dl (k+1) g).length+1=g.length+1;rw[PN]
theorem Ou:∀(k:Nat) (g:List Int) (i:Nat),(dl k g)[i]?=(g[i]?).map λa=>((k+i:Nat):Int)*a
 |_,[],_=>rfl
 |k,a::g,0=>rfl
 |k,a::g,i+1=>by
  show (dl (k+1) g)[i]?=(g[i]?).map _;rw[Ou (k+1) g i,show k+1+i=k+(i+1) by omega]
theorem UV(y:Int):∀(k:Nat) (g:List Int),vI y (dl k g)=k*vI y g+y*vD y g
 |k,[]=>by show (0:Int)=k*0+y*0;simp
 |k,a::g=>by
  show (k:Int)*a+y*vI y (dl (k+1) g)=k*(a+y*vI y g)+y*(vI y g+y*vD y g);rw[UV y (k+1) g,Ua];grind
theorem KG(y:Int):∀A:List Int,vI y (dl 1 A.tail)=vD y A
 | []=>rfl
 |a::g=>by
  show vI y (dl 1 g)=vI y g+y*vD y g;rw[UV];grind
theorem Pz{p r s:Int}(h:p ∣ r-s):∀A:List Int,p ∣ vI r A-vI s A
 | []=>(0,by show (0:Int)-0=p*0;simp)
 |a::g=>by
  obtain ⟨c,b⟩:=Pz h g;obtain ⟨d,f⟩:=h;refine (r*c+d*vI s g,?_);show a+r*vI r g-(a+s*vI s g)=_;have:r*vI r g-s*vI s g=r*(vI r g-vI s g)+(r-s)*vI s g:=by grind
  have e:a+r*vI r g-(a+s*vI s g)=r*vI r g-s*vI s g:=⋯;rw[e,this,b,f];grind
theorem XR{p r s:Int}(h:p ∣ r-s)(A:List Int):p ∣ vD r A-vD s A:=by rw[<-KG,<-KG];exact Pz h _
theorem pP(x:(KX.r p hp).F):∃n:Nat,n<p/\zi (n:Int)=x:=by
 refine ((show Fin p from x).val,(show Fin p from x).isLt,?_);refine (HU (n:=((show Fin p from x).val:Int)) ?_).uniq (?_,?_)
 ·have:=(show Fin p from x).isLt;have:=hp.lt;rw[Qa];exact Q0 (show _<=10^6 by omega)<|Q8 ∅ ∅
 ·have:=(show Fin p from x).isLt;have:=hp.lt;rw[Qa];exact Q0 (show _<=10^6 by omega)<|Q8 ∅ ∅
 ·have:=(show Fin p from x).isLt;exact (sE ⋯ ⋯).symm
theorem SD{κ:KX}{p:Nat}{hp:BB p}(b:κ = .r p hp){x:Int}(h:¬(p:Int) ∣ x):∃j:Int,(p:Int) ∣ x*j-1:=by
 have c:zi (κ:=κ) x≠0:=λz=>h<|(EY b).mp z;have e:=Fd.mul_inv _ c;have d:∀z:κ.F,∃n:Int,zi (κ:=κ) n=z:=by
  subst b;intro z;obtain ⟨n,_,a⟩:=pP (hp:=hp) z;exact (n,a)
 obtain ⟨n,a⟩:=d<|Fd.inv<|zi x;refine (n,(EY b).mp ?_);rw[FM,Cj,a,e,Ce];grind
theorem PL(hp:BB p){x:Int}(h:¬(p:Int) ∣ x)(n:Nat):∃u v:Int,x*u+(p:Int)^n*v=1:=by
 obtain ⟨j,c,d⟩:=SD (hp:=hp) rfl h
 induction n with
 |zero=>exact (0,1,by simp)
 |succ n a =>
  obtain ⟨u,v,e⟩:=a;refine (u+(p:Int)^n*v*j,0-v*c,?_);rw[Qo];generalize (p:Int)^n=z at *;have b:x*(u+z*v*j)+z*p*(0-v*c)=x*u+z*v*(x*j-p*c):=by grind
  rw[b,show x*j-p*c=1 by omega,U2];exact e
theorem gcd_one{x y u v:Int}(h:x*u+y*v=1):Int.gcd x y=1:=by
 have b:((Int.gcd x y:Nat):Int) ∣ x:=U0 ..;have a:((Int.gcd x y:Nat):Int) ∣ y:=W9 ..;have c:((Int.gcd x y:Nat):Int) ∣ 1:=by rw[<-h];exact Int.dvd_add (Um b)<|Um a
 have:=Int.eq_one_of_dvd_one ⋯ c;omega
structure Lf (A:List Int) (l s:Int) (p:Nat) (r B:Int):Prop where
 pw:∃k,B=(p:Int)^(k+1)
 r0:0<=r
 rB:r<B
 rs:(p:Int) ∣ r-s
 y:∀y,Cc y l A=0->(p:Int) ∣ y-l*s->B ∣ y-l*r
theorem Lf.two(hp:BB p)(h:Lf A l s p r B):2<=B:=by
 obtain ⟨k,rfl⟩:=h.pw;have a:=hp.two;have:(p:Int)^(k+1)=((p^(k+1):Nat):Int):=(Int.natCast_pow p<|k+1).symm;rw[this];have:p<=p^(k+1):=by
  rw[W5];exact Wi _<|Qw ⋯
 omega
theorem Lf.div(h:Lf A l s p r B):(p:Int) ∣ B:=by
 obtain ⟨k,rfl⟩:=h.pw;exact ((p:Int)^k,by rw[Qo];grind)
theorem Lf.gcd(hp:BB p)(h:Lf A l s p r B)(g:¬(p:Int) ∣ vD s A):Int.gcd (vD r A%(B*B)) (B*B)=1:=by
 have a:=h.div;have b:=λz=>g (by
  have d:=XR h.rs A;have c:(p:Int) ∣ vD r A:=by
   have:=Uq (vD r A)<|B*B;rw[<-this];exact Int.dvd_add (Um<|Um a) z
  have:=Int.dvd_sub c d;rw[show vD r A-(vD r A-vD s A)=vD s A by omega] at this;exact this)
 obtain ⟨k,f⟩:=h.pw;obtain ⟨u,v,e⟩:=PL hp b<|k+1+(k+1);rw[Int.pow_add,<-f] at e;exact gcd_one e
theorem Lf.step{l s r B u v:Int}(hp:BB p)(h:Lf A l s p r B)(C:¬(p:Int) ∣ l)(w:(p:Int) ∣ vI s A)(e:1=vD r A%(B*B)*u+B*B*v):Lf A l s p ((r-vI r A%(B*B)*u)%(B*B)) (B*B):=by
 have M:=h.two hp;have I:0<B*B:=Wk ⋯ ⋯;obtain ⟨k,i⟩:=h.pw;have E:=h.div;have f:(p:Int) ∣ B*B:=Um E;have H:=Uq (vI r A)<|B*B;have L:=Uq (r-vI r A%(B*B)*u)<|B*B;have o:=Uq (vD r A)<|B*B;generalize vI r A/(B*B)=c at *;generalize (r-vI r A%(B*B)*u)/(B*B)=a at *;generalize vD r A/(B*B)=F at *;have d:(r-vI r A%(B*B)*u)%(B*B)=r-vI r A*u+B*B*(c*u-a):=by
  generalize vI r A%(B*B)=z at *;generalize (r-z*u)%(B*B)=t at *;rw[<-H];grind
 refine ((k+1+k,by rw[i,<-Int.pow_add];congr 1),Qv _ ⋯,W0 _ I,?_,λy j m=>?_)
 ·rw[d];have G:=Pz h.rs A;have D:(p:Int) ∣ vI r A:=by
   have:=Int.dvd_add G w;rw[show vI r A-vI s A+vI s A=vI r A by omega] at this;exact this
  have K:(p:Int) ∣ vI r A*u:=Um D;have q:(p:Int) ∣ B*B*(c*u-a):=Um f;have:=Int.dvd_add (Int.dvd_sub h.rs K) q;rw[show r-s-vI r A*u+B*B*(c*u-a)=r-vI r A*u+B*B*(c*u-a)-s by omega] at this;exact this
 ·obtain ⟨J,x,g⟩:=PL hp C<|k+1+(k+1);rw[Int.pow_add,<-i] at g;have n:=XO (b:=u) j (h.y y j m) (J,x,g) (v-F*u,by
   generalize vD r A%(B*B)=z at *;rw[<-o];grind)
  rw[d];have:=Int.dvd_sub n (show B*B ∣ l*(B*B*(c*u-a)) from (l*(c*u-a),by grind));rw[show y-l*(r-vI r A*u)-l*(B*B*(c*u-a))=y-l*(r-vI r A*u+B*B*(c*u-a)) by grind] at this;exact this
theorem E6{x y:Int}(b:x.natAbs<2^1000)(a:y.natAbs<2^1000):IntMulOk x y:=Ak.mulH (Ak.up (Ak.of b) ∅)<|Ak.up (Ak.of a) ∅
theorem eS(y:Int)(A:List Int){k:Nat}(h:k<A.length):vI y (A.drop k)=A.getD k 0+y*vI y (A.drop<|k+1):=by
 rw[sC h,Q3,Q6 h];rfl
end Lake.My
namespace Lake.Zp
open My
open PySem L2 PyProof.Rows
variable{Z:Zc}{X:Cx}{P:Program}{w:World}{K:Ac}{mg:Ai}{base:Heap}{cN:Addr}
inductive Fo:ZF
 |mk {Q:AH} {A:List Int} {y B:Int} (l:A.length<=1000) (b0:0<B) (bB:B.natAbs<2^1000) (bY:y.natAbs<2^1000) (q:Q (.int (vI y A%B))):Fo [zns A,.int y,.int B] Q
theorem CU:Aa ["numbers","number","bound","total","each"] ["numbers","number","bound"] (Ao O4):=‹2›
theorem z_ra(h:Ae K mg "rest_at" O4) (Tr:mg "reversed"=none):Fn P w K mg base Z "rest_at" 1 Fo:=by
 have c:=CU.nd;refine Cg h CU (λ_ _ _ _ _ _ _ u =>
  (Ap (AE 3 c Ah)
  (Ap (D3 [4] (WD Tr<|qv 0) (Eg 4 c)<|AK<|AE 3 c<|AA BU lc (AA Bw li (AA BM lc (qv 3)<|qv 1)<|qv 4)<|qv 2)
  (AK<|Bk<|qv 3)))) ?_
 rintro _ Q ⟨l,i,v,o,q⟩
 rename_i A y B
 refine (λt n=>n=[some<|.val<|zns A,some<|.val<|.int y,some<|.val<|.int B,some<|.val<|.int<|vI y (A.drop<|A.length-t)%B,none],?_,?_,?_)
 ·rw[U6,sP];show _=[_,_,_,some<|Sl.val<|PV.int<|0%B,none];rw[Int.zero_emod]
 ·rintro t p _ d rfl;rw[<-List.map_reverse] at d;obtain ⟨a,b,rfl⟩:=mget d;have f:=(Qr.mp b).1;rw[We] at f;have j:A.getD (A.length-(t+1)) 0=a:=by
   rw[rK f] at b;rw[Q3,show A.length-(t+1)=A.length-1-t by omega,b];rfl
  have s:=Qv (vI y<|A.drop<|A.length-t) (show B≠0 by omega);have r:=W0 (vI y<|A.drop<|A.length-t) i;refine (E6 ⋯ o,(i,?_));have e:=eS y A (k:=A.length-(t+1)) ⋯;rw[show A.length-(t+1)+1=A.length-t by omega,j] at e;rw[e];have m:=Uq (vI y<|A.drop<|A.length-t) B;have:(vI y (A.drop<|A.length-t)%B*y+a)%B=(a+y*vI y (A.drop<|A.length-t))%B:=by
   generalize vI y (A.drop<|A.length-t)%B=z at *;generalize vI y (A.drop<|A.length-t)/B=g at *;rw[<-m,show a+y*(B*g+z)=z*y+a+B*(y*g) by grind,Int.add_mul_emod_self_left]
  rw[<-this]
 ·rintro _ rfl;rw[We,Q1,Nat.sub_self];exact q
inductive Dx:ZF
 |mk {Q:AH} {A:List Int} {s l L:Int} {p:Nat} (hp:BB p) (p3:p<3000) (l8:A.length<=8) (bA:∀a∈A,a.natAbs<=2^225) (s0:0<=s) (sp:s<p) (v0:(p:Int) ∣ vI s A) (d0:¬(p:Int) ∣ vD s A) (l0:¬(p:Int) ∣ l) (L4:4<=L) (L5:L<=2^230)
  (q:∀r B,L<B->B<=2^460->Lf A l s p r B->Q (.tup [.int r,.int B])):Dx [zns A,.int s,.int (p:Int),.int L] Q
theorem Dh:Aa ["numbers","start","prime","least_bound","steep","bound","root","back"] ["numbers","start","prime","least_bound"] (Ao MQ):=‹2›
theorem z_lift(h:Ae K mg "lifted" MQ) (T:Nm mg) (b:Fn P w K mg base Z "rest_at" 2 Fo) (c:Fn P w K mg base Z "shares" 2 Er):Fn P w K mg base Z "lifted" 3 Dx:=by
 have d:=Dh.nd;refine Cg h Dh (λ_ _ _ _ _ _ _ hr =>
  (Ap (Zn 4 "place" [(0,"numbers")] d (Oi T.range Ah<|Ci T.len<|qv 0) (by exact λ_ _ _ _=>(AA BM lc (qv 0)<|A8 (qv 1)<|qv 0)))
  (Ap (AE 5 d<|qv 2)
  (Ap (AE 6 d<|qv 1)
  (Ap (Hg [7] (Ch Lp lb (qv 5)<|qv 3)<|Ap (pW 5 Y4 (λ_ _ _ _ h=>h) d<|qv 5)
   (Ap (AE 7 d<|A8 (AD c<|Aw (AD b<|BG (qv 4) (qv 6)<|qv 5)<|qv 5) Ah)
   (AK<|AE 6 d<|AA BU lc (AA Cu li (qv 6)<|AA BM lc (AD b<|BG (qv 0) (qv 6)<|qv 5)<|qv 7)<|qv 5)))
  (AK<|Bk<|CH<|Aw (qv 6)<|qv 5)))))) ?_
 rintro _ Q ⟨k,p3,l8,W,Y,O,M,R,N,L4,L5,q⟩
 rename_i A s l L p
 have H:=k.two;have lA:(A.map PV.int).length=A.length:=Q1 _;refine (⋯,(dl 1 A.tail).map .int,by rw[DF,Q1,PN,List.length_tail];omega,by rw[DF];omega,λi x G=>?_,?_)
 ·obtain ⟨g,rfl⟩:=EQ G;have g:i+1<A.length:=⋯;have z:A[i+1]?=some (A[i+1]'(g)):=Q6 g;refine (.int<|A[i+1]'(g),by rw[show (1:Int)+(i:Int)=((i+1:Nat):Int) by omega];exact FO (by rw[Q7,z];rfl),E6 ?_ ?_,?_)
  ·exact Q5 (show _<=2^3 by omega) (Wy ∅ ∅)
  ·exact Q5 (W _<|W7 g) (Wy ∅ ∅)
  ·rw[Q7,Ou,List.getElem?_tail,z,show 1+i=i+1 by omega];show some (PV.int<|((i+1:Nat):Int)*A[i+1])=some (PV.int<|(1+(i:Int))*A[i+1]);rw[show ((i+1:Nat):Int)=1+(i:Int) by omega]
 have U:Lf A l s p s p:=((0,by rw[Qo,Wx,Wa]),Y,O,(0,by simp),λy _ h=>h);have a:∀ {x:Int},0<=x->x<=2^460->x.natAbs<2^1000:=λh1 H=>Q5 (show _<=2^460 by omega)<|Wy ∅ ∅;refine (λm D=>∃r B:Int,m=(L+1-B).toNat/\B<=2^460/\Lf A l s p r B/\D=[some<|.val<|zns A,some<|.val<|.int s,some<|.val<|.int (p:Int),some<|.val<|.int L,some<|.val<|zns<|dl 1 A.tail,some<|.val<|.int B,some<|.val<|.int r,none],(L+1-p).toNat,(s,p,rfl,Int.le_trans (show (p:Int)<=2^12 by omega) ∅,U,rfl),?_);rintro _ _ ⟨r,B,rfl,o,f,rfl⟩;have S:=f.two k;have r0:=f.r0;have rB:=f.rB;refine br (λn=>?_) λn=>?_
 ·have n:B<=L:=n;have F:B*B<=2^230*2^230:=Int.mul_le_mul ⋯ ⋯ ⋯ ∅;have t:B*B<=2^460:=Int.le_trans F ∅;have c3:2*B<=B*B:=Int.mul_le_mul_of_nonneg_right S ⋯;have j:0<B*B:=⋯;have I:=f.gcd k R;have E:vI r (dl 1 A.tail)=vD r A:=KG r A;have n1:=Qv (vD r A) (show B*B≠0 by omega);have n2:=W0 (vD r A) j;have n3:=Qv (vI r A) (show B*B≠0 by omega);have n4:=W0 (vI r A) j;have C:(2:Nat)^460<=10^148:=∅;refine (E6 (a ⋯ o)<|a ⋯ o,?_);refine Fo.mk (by rw[PN,List.length_tail];omega) j (a ⋯ t) (a ⋯ ⋯) ?_;rw[E];refine Er.mk ⋯ ⋯ λu v e J=>(_,rfl,?_);rw[I] at e;refine Fo.mk ⋯ j (a ⋯ t) (a ⋯ ⋯) (E6 (a ⋯ ⋯)<|Q5 J ∅,(j,?_));exact ((L+1-B*B).toNat,⋯,_,B*B,rfl,t,f.step k N M e,rfl)
 ·exact (by show 2<=1000;decide,q r B (by have:¬B<=L:=n;omega) o f)
end Lake.Zp
namespace Lake.L2
open PySem PySem.Spec PyProof.Rows
section
variable{X:Cx}
theorem jE(K:Ac)(h:X.K=K)(A:X.calm=true):EC X (.builtin "max") (λxs H Q=>∃(p:Addr) (a:List Int),xs=[.ref p]/\AR K H p (a.map V.int)/\a≠[]/\∀b,b∈a->(∀i∈a,i<=b)->Q (.int b) H):=by
 subst h;intro l s N H xs G Q I r h;obtain ⟨p,a,rfl,n,x,q⟩:=h;obtain ⟨u,rfl,C⟩:=Fw r
 cases C
 obtain ⟨f,B,y,L⟩:=I.list n;have m:=O1 B;obtain ⟨d,e⟩:=m.allInts.items;have c:=m.numsOf;have o:f=(intItems d).toList:=by rw[<-e]
 rw[o,nums_intItems] at c;have M:a.length=d.size:=by rw[<-c];simp
 have J:a.length≠0:=λz=>x<|rH.mp z;have w:=argBest_gt (numAt d)<|d.size-1;refine max_intList (xs:=d) (I.ok.hd A) (by rw[<-e];exact y.isList) ⋯ λv g O D F=>?_;obtain ⟨t,rfl⟩:=intItems_at D;refine (.int _,H,I.kept F,(t,rfl),q _ ?_ λi k=>?_)
 ·rw[numAt_eq,c];exact getD_mem ⋯
 ·rw[<-c] at k;obtain ⟨j,E,rfl⟩:=PySem.mem_getD k;rw[<-numAt_eq];exact w.2 j (by rw[c] at E;omega)
end
end Lake.L2
namespace Lake.Zp
open My
open PySem L2 PyProof.Rows
variable{Z:Zc}{X:Cx}{P:Program}{w:World}{K:Ac}{mg:Ai}{base:Heap}{cN:Addr}
section
variable{a:Expr}{ta:ZE}{p pos:Pos}
theorem oV(h:X.mg "abs"=none) (c:QE Z X a ta) (d:Gl X "abs":= by rfl) (b:starEach [a] X.env=(false,eval a X.env)::starEach [] X.env:=by rfl):QE Z X (.Call (.Name "abs" p) [a] [] pos) (GK (λl Q=>∃i,l=[.int i]/\Q (.int (if i<0 then -i else i)))<|DG ta FK) :=
 Ix (λ_ _ _ f ⟨i,e,q⟩=>(i,e,f _ q),λO H l x Q L r ⟨i,e,q⟩=>by
  subst e;obtain ⟨u,rfl,g⟩:=r.one;exact (i,by rw[A3 g],q _ H BI rep_i)) OJ d h boot_abs (DR c EM b) ∅ ∅ b rfl
theorem To:∀ {b:List Int} {us:List V},Af Z H (b.map .int) us->us=b.map V.int
 | [],us,h=>by unfold Af at h;exact h
 |n::b,us,h=>by
  unfold Af at h;obtain ⟨u,r,rfl,d,c⟩:=h;rw[A3 d,To c];rfl
theorem iR(v:X.mg "max"=none) (m:QE Z X a ta) (k:X.calm=true:=by rfl) (o:Gl X "max":= by rfl) (h:starEach [a] X.env=(false,eval a X.env)::starEach [] X.env:=by rfl):QE Z X (.Call (.Name "max" p) [a] [] pos) (GK (λl Q=>∃c:List Int,l=[zns c]/\c≠[]/\∀b,b∈c->(∀i∈c,i<=b)->Q (.int b))<|DG ta FK) :=
 Ix (λ_ _ _ f ⟨i,e,n,q⟩=>(i,e,n,λb d g=>f _<|q b d g),λO H l x Q L r ⟨c,e,n,q⟩=>by
  subst e;obtain ⟨u,rfl,j⟩:=r.one;unfold Rep at j;obtain ⟨t,z,rfl,d,g⟩:=j;rw[To g] at d;exact (t,c,rfl,AR.of<|hide_le _ _ d,n,λb s y=>q b s y _ H BI rep_i)) (jE X.K rfl k) o v PyProof.Rows.Boot.«max» (DR m EM h) ∅ ∅ h rfl
end
inductive C0:ZF
 |mk {Q:AH} {t b:Int} (b0:b≠0) (bb:b.natAbs<=10^150) (q:∀x:Rat,x.num*b=t*x.den->Q (num .q x)):C0 [.kd .q,.int t,.int b] Q
theorem mt_num2(C:Kd K mg Z.f Z.r)(t:Au P w K mg base Z.f "number" 3 ["self","top","bottom"] [] (HK cN)) (j:Au P w K mg base Z.r "number" 3 ["self","top","bottom"] [] (He Z.r cN)):Mt P w K mg base Z zKd "number" 3 C0:=by
 refine P2 C t j (λG A B f ⟨a,b,q⟩=>(a,b,λx h=>f _<|q x h)) (λH O a g m Q _ _ L r s=>?_) λp F H O a g m Q _ _ _ r s=>nomatch s;generalize e:PV.kd .q::g=l at s;obtain ⟨D,E,q⟩:=s
 cases e
 obtain ⟨u,v,rfl,o,n⟩:=r.two;rw[A3 o,A3 n];refine (a,_,_,rfl,E,λz=>absurd z D,λ_ r x y d k e _ _=>?_);obtain ⟨z,i,c⟩:=IA k;refine q z (by rw[i,c];exact e) _ _ (Bg d _)<|E9 (L.same<|Bg d _) (r,rfl,?_);rw[i,c];exact A4
inductive S_cand:ZF
 |mk {Q:AH} {A:List Int} {s l:Int} {p:Nat} (hp:BB p) (p3:p<3000) (l1:1<=A.length) (l8:A.length<=8) (bA:∀a∈A,a.natAbs<=2^225) (s0:0<=s) (sp:s<p) (v0:(p:Int) ∣ vI s A) (d0:¬(p:Int) ∣ vD s A) (el:l=A.getD (A.length-1) 0) (l0:¬(p:Int) ∣ l)
  (q:∀(x:Rat) (top:Int) (G:Nat),(∀a∈A,a.natAbs<=G)->x.num*l=top*x.den->(p:Int) ∣ top-l*s->top.natAbs<=2^460->(∀y,Cc y l A=0->(p:Int) ∣ y-l*s->y.natAbs<=2*G->y=top)->Q (num .q x)):S_cand [.kd .q,zns A,.int s,.int (p:Int)] Q
theorem Bo:Aa ["kind","numbers","start","prime","greatest","found","top"] ["kind","numbers","start","prime"] (Ao MC):=‹2›
theorem z_cand(h:Ae K mg "only_candidate" MC) (T:Nm mg) (o:mg "max"=none) (e:Mt P w K mg base Z zKd "number" 4 C0) (f:Fn P w K mg base Z "lifted" 4 Dx):Fn P w K mg base Z "only_candidate" 5 S_cand:=by
 have D:=Bo.nd;refine Cg h Bo (λ_ _ _ _ _ _ _ hr =>
  (Ap (AE 4 D<|iR o<|QL.toE<|Gh "each" [] (ED<|qv 1) (by exact λ_ _ _ _=>(oV T.abs<|qv 0)))
  (Ap (AE 5 D<|AD f<|IH (qv 1) (qv 2) (qv 3)<|AA BM lc Ah<|qv 4)
  (Ap (AE 6 D<|AA BU lc (AA BM lc (A8 (qv 1)<|D6 Ah)<|A8 (qv 5) Ah)<|A8 (qv 5) Ah)
  (Ap (El (Ch Eu lb (AA BM lc Ah<|qv 6)<|A8 (qv 5) Ah) (AK<|Lq 6 SQ D<|A8 (qv 5) Ah) DM)
  (AK<|Bk<|Bh e (qv 0)<|Aw (qv 6)<|A8 (qv 1)<|D6 Ah)))))) ?_
 rintro _ Q ⟨N,Y,C,l8,M,s0,sp,v0,d0,I,R,q⟩
 rename_i A s l p
 have lA:(A.map PV.int).length=A.length:=Q1 _;have S:l∈A:=by
  rw[I,Q3,Q6 ⋯];exact W7 _
 have ln:l≠0:=λz=>R (by rw[z];exact (0,by simp));have ab:∀a:Int,(if a<0 then -a else a)=(a.natAbs:Int):=λa=>by split <;> omega
 refine ((A.map λa=>((a.natAbs:Nat):Int)).map .int,by rw[Q1,Q1,Q1],⋯,λi x H=>?_,?_)
 ·obtain ⟨a,F,rfl⟩:=mget H;refine (a,rfl,?_);rw[ab,Q7,Q7,F];rfl
 refine (A.map λa=>((a.natAbs:Nat):Int),rfl,λz=>?_,λg G J=>?_)
 ·rw[List.map_eq_nil_iff.mp z] at C;exact absurd C (by show ¬1<=0;decide)
 obtain ⟨a,F,rfl⟩:=s8.mp G;have bG:=M a F;have O:∀b∈A,b.natAbs<=a.natAbs:=λb W=>by
  have:=J _<|s8.mpr (b,W,rfl);omega
 have lG:=O l S;have d:∀ {x:Int},x.natAbs<=2^461->x.natAbs<2^1000:=λh=>Q5 h<|Wy ∅ ∅;refine (E6 ∅<|d ⋯,Dx.mk (l:=l) N Y l8 M s0 sp v0 d0 R ⋯ ⋯ λr B hB bB m=>?_);have B2:=m.two N;have r0:=m.r0;have rB:=m.rB;have U:=M l S;refine (_,MY C,_,rfl,?_);rw[<-I];refine (E6 (d ⋯)<|d ⋯,_,rfl,(⋯,?_));have n1:=Qv (l*r) (show B≠0 by omega);have n2:=W0 (l*r) (show 0<B by omega);have m1:=Uq (l*r) B;have L:B ∣ l*r%B-l*r:=(-(l*r/B),by rw[U8];omega);obtain ⟨t,ht⟩:∃t,t=l*r%B:=(_,rfl);rw[<-ht] at n1 n2 m1 L;have n:∀top:Int,B ∣ top-l*r->2*top.natAbs<=B.natAbs->∃v,CC (A.map PV.int) (-1)=some v/\C0 [.kd .q,.int top,v] Q:=λtop k j=>by
  refine (_,MY C,?_);rw[<-I];refine C0.mk ln (Q0 U ∅) λx H=>q x top a.natAbs O H ?_ ⋯ λy h3 h4 h5=>?_
  ·have E:(p:Int) ∣ top-l*r:=Int.dvd_trans m.div k;have h7:(p:Int) ∣ l*(r-s):=Int.dvd_mul_of_dvd_right m.rs;have:=Int.dvd_add E h7;rw[show top-l*r+l*(r-s)=top-l*s by grind] at this;exact this
  ·have E:=Int.dvd_sub (m.y y h3 h4) k;rw[show y-l*r-(top-l*r)=y-top by omega] at E;have:=Int.eq_zero_of_dvd_of_natAbs_lt_natAbs E ⋯;omega
 refine (E6 ∅<|d (show (l*r%B).natAbs<=2^461 by rw[<-ht];omega),_,rfl,br (λu=>?_) λu=>?_)
 ·have u:2*t>B:=by rw[ht];exact u
  refine (_,rfl,?_);obtain ⟨c,hc⟩:=L;obtain ⟨v,k,j⟩:=n (t-B) (c-1,by rw[Uy,<-hc];omega) ⋯;rw[ht] at j;exact (v,k,j)
 ·have u:¬2*t>B:=by rw[ht];exact u
  obtain ⟨v,k,j⟩:=n t L ⋯;rw[ht] at j;exact (v,k,j)
end Lake.Zp
namespace Lake.My
open PySem L2 PyProof.Rows
theorem M0(n:Int):Rat.divInt n 1=(n:Rat):=by
 obtain ⟨a,b⟩:=Jw (n:=n) (d:=1) (N:=n) (D:=1) (∅,by simp) ∅ rfl;refine Rat.ext a ?_;have:(n:Rat).den=1:=rfl;rw[this];omega
theorem HP(x:Rat):zi (κ:=.q) (x.den:Int)*(show KX.q.F from x)=zi x.num:=by
 rw[HQ,HQ];have a:(x.den:Int)≠0:=by have:=x.den_nz;omega
 have e:((x.den:Int):Rat)*Rat.divInt x.num x.den=((x.num:Int):Rat):=by
  rw[show ((x.den:Int):Rat)=Rat.divInt x.den 1 from (M0 _).symm,show ((x.num:Int):Rat)=Rat.divInt x.num 1 from (M0 _).symm,rL,Wl ⋯ ∅];grind
 rw[W4] at e;exact e
theorem O9(n:Int):Cq .q n (zi n):=by
 rw[HQ];exact (rfl,rfl)
theorem Hr{κ:KX}{d x y:κ.F}(a:d≠0)(h:d*x=d*y):x=y:=Rg.fd_can a h
theorem J5(h:zi (κ:=.q) a=zi b):a=b:=by
 have:zi (κ:=.q) (a-b)=0:=by rw[FM,h];grind
 have:=Df.mp this;omega
theorem Kc{c:KX.q.F}{g A:Int}(a:(show Rat from c).num*g=A*(show Rat from c).den):zi (κ:=.q) g*c=zi A:=by
 have d:=HP (show Rat from c);have b:zi (κ:=.q) ((show Rat from c).den:Int)≠0:=λz=>by have:=Df.mp z;have:=(show Rat from c).den_nz;omega
 have e:zi (κ:=.q) ((show Rat from c).num*g)=zi (A*(show Rat from c).den):=by rw[a]
 rw[Cj,Cj,<-d] at e;refine Hr b ?_;generalize zi (κ:=.q) ((show Rat from c).den:Int)=i at *;generalize zi (κ:=.q) g=f at *;generalize zi (κ:=.q) A=h at *;have e:=e;grind
theorem Vu{n:Int}(h:QN .q 1 M (zi n)):n.natAbs<=M:=by
 obtain ⟨X,e,l⟩:=h;have e:(zi (κ:=.q) n:Rat)=Rat.divInt X 1:=e;rw[M0,<-HQ] at e;rw[J5 e];exact l
theorem Xy{x c:KX.q.F}{A g:Int}(m:g≠0)(p:((show Rat from x).den:Int) ∣ A)(t:g ∣ (show Rat from x).num)(a:zi g*c=zi A):∃k:Int,c*x=zi k/\∀M,QN .q 1 M (zi A*x)->k.natAbs<=M:=by
 have d:=HP (show Rat from x);have s:zi (κ:=.q) ((show Rat from x).den:Int)≠0:=λz=>by have:=Df.mp z;have:=(show Rat from x).den_nz;omega
 have j:zi (κ:=.q) g≠0:=λz=>m<|Df.mp z;obtain ⟨b,h⟩:=p;obtain ⟨n,r⟩:=t;rw[r,Cj] at d;rw[h,Cj] at a;have f:c*x=zi (b*n):=by
  rw[Cj];refine Hr j<|Hr s ?_;generalize zi (κ:=.q) ((show Rat from x).den:Int)=i at *;generalize zi (κ:=.q) g=e at *;generalize zi (κ:=.q) b=v at *;generalize zi (κ:=.q) n=u at *;have d:=d;have:i*(e*(c*x))=(e*c)*(i*x):=by grind
  rw[this,a,d];grind
 refine (b*n,f,λM q=>?_);have o:zi (κ:=.q) A*x=zi (b*n*g):=by
  rw[Cj,<-f,h,Cj,<-a];generalize zi (κ:=.q) g=e;grind
 rw[o] at q;have l:=Vu q;rw[Qj] at l;exact Q0 (Uu _ ⋯) l
end Lake.My
namespace Lake.Zp
open My
open PySem L2 PyProof.Rows
variable{Z:Zc}{X:Cx}{P:Program}{w:World}{K:Ac}{mg:Ai}{base:Heap}{cN:Addr}
abbrev NC:ZK:=λp A=>match p with
 | .kd κ=>κ = .q/\A
 |_=>False
theorem iW(n:Kd K mg Z.f Z.r)(g:Au P w K mg base Z.f m k ps [] (EO Z S))(o:Eo S):Mt P w K mg base Z NC m k S :=
 (o,λp A B f h=>by cases p <;> first|exact (h.1,f h.2)|exact h,λp A h=>by cases p <;> first|exact h.2|exact h.elim,λp x H O r b=>by
  have e:p = .kd .q:=by
   cases p <;> first|rw[b.1] |exact b.elim
  subst e;have l:=r;unfold Rep at r;obtain ⟨a,rfl,⟨j,h⟩,s⟩:=r;refine (a,Z.f,j,[],ps,[],_,rfl,hide_le _ _ h,n.clF,g,rfl,λv u t Q c i d q=>(O,_,i,.cons (l.same<|Ct c) (by rw[Wu];exact d),q)))
theorem ES(x:KX.q.F):num .q x = .tup [.int (show Rat from x).num,.int (show Rat from x).den]:=by unfold num;rfl
inductive NQ:ZF
 |mk {Q:AH} {a b:Int} (q:Q (.int (Int.gcd a b))):NQ [.int a,.int b] Q
theorem z_dvr(h:AF P w K mg base "divisor" 1 ["one","other"] EF):Fn P w K mg base Z "divisor" 1 NQ :=
 EA h.toX (λc A B f ⟨q⟩=>⟨f _ q⟩) λO e i H Q E l r s=>by
  obtain ⟨q⟩:=s;obtain ⟨d,g,rfl,a,b⟩:=r.two;exact (_,_,by rw[A3 a,A3 b],q _ H BI rep_i)
structure Tp (f:List KX.q.F) (g:Nat):Prop where
 dv:∀x∈f,(g:Int) ∣ (show Rat from x).num
 nz:(∃x∈f,(show Rat from x).num≠0)->g≠0
theorem Tp.snoc{f:List KX.q.F}{x:KX.q.F}(h:Tp f g):Tp (f++[x]) (Int.gcd g (show Rat from x).num):=by
 refine (λy hy=>?_,λ⟨y,hy,a⟩ z=>?_)
 ·rcases Qp.mp hy with hy|hy
  ·exact Int.dvd_trans (U0 ..) (h.dv y hy)
  ·rw[Qf.mp hy];exact W9 ..
 ·obtain ⟨c,b⟩:=Int.gcd_eq_zero_iff.mp z;rcases Qp.mp hy with hy|hy
  ·exact h.nz (y,hy,a) ⋯
  ·rw[Qf.mp hy] at a;exact a b
inductive Nq:ZF
 |mk {Q:AH} {f:List KX.q.F} (q:∀g:Nat,Tp f g->Q (.int (g:Int))):Nq [.kd .q,nums .q f] Q
theorem A5:Aa ["self","some","top","one"] ["self","some"] (Ao P5):=‹2›
theorem z_top(h:Am K Z.f "common_top" "Fractions.common_top" P5) (k:Kd K mg Z.f Z.r) (a:Fn P w K mg base Z "divisor" 1 NQ):Mt P w K mg base Z NC "common_top" 2 Nq:=by
 have d:=A5.nd;refine iW k (Rn h (λ_ _ F=>F.b2 λ_ _ _ _ _ _ _ _=>rfl) A5 (λ_ _ ⟨_⟩=>rfl) (λ_ _ _ _ _ _ _ o =>
  (Ap (AE 2 d Ah)
  (Ap (D3 [3] (ED<|qv 1) (Eg 3 d)<|AK<|AE 2 d<|AD a<|Aw (qv 2)<|A8 (qv 3) Ah)
  (AK<|Bk<|qv 2)))) ∅ ?_) λn A B f ⟨q⟩=>⟨λg h=>f _<|q g h⟩
 rintro _ Q ⟨q⟩
 rename_i f
 refine (λi j=>∃g:Nat,Tp (f.take i) g/\j=[some<|.val<|.kd .q,some<|.val<|nums .q f,some<|.val<|.int (g:Int),none],(0,(λx b=>by simp at b,λ⟨x,b,_⟩=>by simp at b),rfl),?_,?_)
 ·rintro i p _ l ⟨g,c,rfl⟩;obtain ⟨x,b,rfl⟩:=mget l;rw[ES];refine (_,rfl,(Int.gcd g (show Rat from x).num,?_,rfl));have m:=(Qr.mp b).1;have e:f.take (i+1)=f.take i++[x]:=by
   rw[Ul,b];rfl
  rw[e];exact c.snoc
 ·rintro _ ⟨g,c,rfl⟩;rw[Cb,Uk] at c;exact q g c
theorem RY{κ:KX}(x:κ.F):x*0=0:=by grind
structure OK {κ:KX} (f:Ab κ) (c:κ.F) (M:Nat) (A:List Int):Prop where
 c0:c≠0
 len:A.length=f.length
 ev:∀i,c*f.getD i 0=zi (A.getD i 0)
 sz:∀a∈A,a.natAbs<=M
theorem ZC{f:List KX.q.F}{c:KX.q.F}{M:Nat}(g:c≠K0 .q)(h:∀x∈f,c*x=zi (κ:=.q) (show Rat from c*x).num/\(show Rat from c*x).num.natAbs<=M):OK f c M (f.map λx=>(show Rat from c*x).num):=by
 refine (g,Q1 _,λi=>?_,λa b=>?_)
 ·rw[Q3,Q3,Q7]
  cases e:f[i]? with
  |none=>exact (RY c).trans Aq.symm
  |some x=>exact (h x<|Ql e).1
 ·obtain ⟨x,d,rfl⟩:=s8.mp b;exact (h x d).2
inductive Ds:ZF
 |mk {Q:AH} {f:List KX.q.F} {D M:Nat} (l:f.length<=1000) (nz:∃x∈f,(show Rat from x).num≠0) (d0:0<D) (d1:D<2^8900) (m1:M<2^400) (b:∀x∈f,(show Rat from x).num.natAbs<=10^150) (qf:∀x∈f,QN .q (D:Int) M x) (q:∀c A,OK f c M A->Q (nums .q (f.map (c * ·)))):Ds [.kd .q,nums .q f] Q
theorem h8:Aa ["kind","row"] ["kind","row"] (Ao NE):=‹2›
theorem z_prow(h:Ae K mg "plain_row" NE) (d:Mt P w K mg base Z zKd "number" 3 C0) (e:Mt P w K mg base Z zKd "common_bottom" 3 Sbot) (i:Mt P w K mg base Z NC "common_top" 3 Nq) (a:Fn P w K mg base Z "scaled_row" 3 L6):Fn P w K mg base Z "plain_row" 4 Ds:=by
 refine Cg h h8 (λ_ _ _ _ _ _ _ Y =>
  (AK<|Bk<|AD a<|BG (qv 0) (Bh d (qv 0)<|Aw (Bh e (qv 0)<|By<|qv 1)<|Bh i (qv 0)<|By<|qv 1)<|qv 1)) ?_
 rintro _ Q ⟨l,B,s,t,R,b,o,q⟩
 rename_i f D M
 refine ((D:Int),⋯,Ak.of (n:=8900) (by rw[Qa];exact t),λx j=>UZ s<|o x j,λA E=>(rfl,⟨λg r=>?_⟩));have U:=r.nz B;obtain ⟨C,m,W⟩:=B;have gs:g<=10^150:=by
  have:=Wo.mpr<|r.dv C m;rw[Qa] at this;exact Q0 (Wm ⋯ this)<|b C m
 refine C0.mk ⋯ (by rw[Qa];exact gs) λc v=>?_;have u:=Kc (c:=c) v;obtain ⟨J,N,H⟩:=SA s E o (y:=zi A)<|O9 A;obtain ⟨a0,G,-⟩:=E;have S:=Vu N;have I:(g:Int)≠0:=⋯;have qc:QN .q (g:Int) A.natAbs c:=by
  obtain ⟨O,h2⟩:=Jw (Cn c) (show (0:Int)<g by omega) v;exact (A,Rat.ext O.symm ⋯,Q4 _)
 have p:∀x∈f,c*x=zi (κ:=.q) (show Rat from c*x).num/\(show Rat from c*x).num.natAbs<=M:=λx j=>by
  obtain ⟨k,F,L⟩:=Xy I (G x j) (r.dv x j) u;have T:(show Rat from c*x).num=k:=by
   rw[F];exact (O9 k).1
  rw[T];exact (F,L M<|H x j)
 refine (GH qc ⋯ (Q5 gs ‹4›)<|Q5 S<|Wh t ‹4›,λx j=>GH (o x j) s t<|Wh R ‹4›,l,q c (f.map λx=>(show Rat from c*x).num)<|ZC (λz=>J (by rw[<-u,z];exact RY _)) p)
inductive S_tops:ZF
 |mk {Q:AH} {f:List KX.q.F} {D M:Nat} (l:f.length<=1000) (nz:∃x∈f,(show Rat from x).num≠0) (d0:0<D) (d1:D<2^8900) (m1:M<2^400) (b:∀x∈f,(show Rat from x).num.natAbs<=10^150) (qf:∀x∈f,QN .q (D:Int) M x) (q:∀c A,OK f c M A->Q (zns A)):S_tops [.kd .q,nums .q f] Q
theorem nZ:Aa ["kind","f"] ["kind","f"] (Ao OD):=‹2›
theorem z_tops(h:Ae K mg "plain_tops" OD) (a:Fn P w K mg base Z "plain_row" 4 Ds):Fn P w K mg base Z "plain_tops" 5 S_tops:=by
 refine Cg h nZ (λ_ _ _ _ _ _ _ z =>
  (AK<|Bk<|QL.toE<|Gh "each" [] (ED<|AD a<|Aw (qv 0)<|qv 1) (by exact λ_ _ _ _=>(A8 (qv 0) Ah)))) ?_
 rintro _ Q ⟨l,o,s,v,t,b,k,q⟩
 rename_i f D M
 refine Ds.mk l o s v t b k λc A d=>?_;refine (A.map .int,by rw[Q1,Q1,Q1];exact d.len,by rw[Q1,Q1];exact l,λi p r=>?_,q c A d);obtain ⟨y,u,rfl⟩:=mget r;obtain ⟨x,g,rfl⟩:=mget u;have j:=(Qr.mp g).1;have e:=d.ev i;rw[Q3,g] at e;have e:c*x=zi (κ:=.q) (A.getD i 0):=e;have m:A[i]?=some (A.getD i 0):=by rw[Q3,Q6 (by rw[d.len];exact j)];rfl
 rw[ES];refine (_,rfl,?_);rw[Q7,m];rw[e];exact qW (λn=>some<|PV.int n) (O9 _).1.symm
end Lake.Zp
namespace Lake.My
open PySem L2 PyProof.Rows
section
variable{κ:KX}
theorem T5(r:κ.F)(t:Sr κ)(k:Nat):(t*lx r).c (k+1)=t.c k-r*t.c (k+1):=by
 rw[show t*lx r=lx r*t by grind,FL,qI ⋯,Wb]
structure Tk (f:Ab κ) (r:κ.F) (k:Nat) (g:Ab κ):Prop where
 e:sr f=Rg.pwS (lx r) k*sr g
 l:g.length+k=f.length
 t:Bj g
 l1:1<=g.length
structure Dn (r:κ.F) (g q s:Ab κ):Prop where
 e:sr g=sr q*lx r+sr s
 ls:s.length<=1
 ts:Bj s
 lq:q.length=g.length-1
theorem Dn.top{r:κ.F}{g q s:Ab κ}(h:Dn r g q s)(j:Nat)(b:g.length=j+2):q.getD j 0=g.getD (j+1) 0:=by
 have e:=qW (λz:Sr κ=>z.c<|j+1) h.e;have e:=e;have a:=h.lq;have c:=h.ls;rw[Rg.Ps.c_add,T5,AM,AM,AM,AM,BF (F:=s) ⋯,BF (F:=q) (k:=j+1) ⋯] at e;rw[e];generalize q.getD j 0=z;grind
theorem Tk.next{f g q:Ab κ}{r:κ.F}(h:Tk f r k g)(d:Dn r g q []):Tk f r (k+1) q/\q.length<g.length:=by
 have c:=h.l1;have i:=d.lq;have a:sr g=sr q*lx r:=by rw[d.e,Ht];grind
 have m:g.length≠1:=λz=>by
  have:q=[]:=rH.mp ⋯;rw[this,Ht] at a;have:g=[]:=KA h.t (by rw[a];grind);rw[this] at c;exact absurd c (by show ¬1<=0;decide)
 have l:=h.l;obtain ⟨j,hj⟩:∃j,g.length=j+2:=(g.length-2,⋯);have e:=d.top j hj;have b:=F7 h.t ⋯;rw[hj,show j+2-1=j+1 by omega,<-e] at b;refine ((?_,⋯,.inr (by rw[i,hj,show j+2-1-1=j by omega];exact b),⋯),⋯);rw[h.e,a];show _=Rg.pwS (lx r) k*lx r*sr q;grind
theorem Dn.val{g q:Ab κ}{r v:κ.F}(d:Dn r g q [v]):Bb r g=v:=(Es r g).one (sr q,Fs.sr q,by rw[d.e];show _=_+sr [v];grind)
end
end Lake.My
namespace Lake.Zp
open My
open PySem L2 PyProof.Rows
variable{Z:Zc}{X:Cx}{P:Program}{w:World}{K:Ac}{mg:Ai}{base:Heap}{cN:Addr}
inductive S_tak:ZF
 |mk {Q:AH} {κ:KX} {f:Ab κ} {r:κ.F} {D E M N:Nat} (tf:Bj f) (l1:1<=f.length) (l8:f.length<=8) (br:B1 κ r) (qr:QN κ (E:Int) N (0-r)) (hb:∀k g,Tk f r k g->∀x∈g,QN κ (D:Int) M x) (d0:0<D) (e0:0<E) (m0:0<M) (eN:E<=N)
  (bD:D*(N*E)^(f.length-1)<2^8900) (bM:M*(2*(E*N))^(f.length-1)<2^30000) (bE:E<2^8900) (bN:N<2^8900) (q:∀k g,Tk f r k g->Bb r g≠0->Q (.tup [.int (k:Int),nums κ g])):S_tak [.kd κ,nums κ f,num κ r] Q
theorem Cr:Aa ["kind","f","root","factor","times","found"] ["kind","f","root"] (Ao Om):=‹2›
theorem z_tak(h:Ae K mg "taken_out" Om) (T:Nm mg) (i:Mt P w K mg base Z zKd "minus" 5 (S2 λ_ x y=>x-y)) (d:Mt P w K mg base Z zKd "number" 5 Fy) (b:Fn P w K mg base Z "divided" 5 S_divided):Fn P w K mg base Z "taken_out" 6 S_tak:=by
 have l:=Cr.nd;refine Cg h Cr (λ_ _ _ _ _ _ _ hr =>
  (Ap (AE 3 l<|QL.toE<|Cs<|Aw (Bh i (qv 0)<|Aw (Bh d (qv 0)<|By Ah)<|qv 2)<|Bh d (qv 0)<|By Ah)
  (Ap (AE 4 l Ah)
  (Ap (AE 5 l<|AD b<|BG (qv 0) (qv 1)<|qv 3)
  (Ap (Hg [] (Ch BO D9 (Ci T.len<|A8 (qv 5) Ah) Ah)<|Ap (AE 1 l<|A8 (qv 5) Ah)
   (Ap (Lq 4 KN l Ah)
   (AK<|AE 5 l<|AD b<|BG (qv 0) (qv 1)<|qv 3)))
  (AK<|Bk<|CH<|Aw (qv 4)<|qv 1)))))) ?_
 rintro _ Q ⟨tf,l1,l8,H,S,hb,d0,u,m0,L,bD,Y,bE,bN,q⟩
 rename_i κ f r D E M N
 have I:∀k g (A:AH),Tk f r k g->(∀q s,Dn r g q s->A (.tup [nums κ q,nums κ s]))->S_divided [.kd κ,nums κ g,nums κ [0-r,1]] A:=λk g A n kk=>by
  have lg:=n.l;have O:∀x∈[0-r,(1:κ.F)],QN κ (E:Int) N x:=λx hx=>by
   rcases Qd.mp hx with rfl|hx
   ·exact S
   ·rw[Qf.mp hx];have:=QN.upN (D:=1) (c:=E) ∅ u<|Bc (κ:=κ);rw[Qz] at this;exact this.mono L
  have z:0<N:=⋯;refine S_divided.mk (F:=g) (G:=[0-r,1]) (D:=D) (E:=E) (M:=M) (N:=N) (⋯,by show 2<=100;decide,.inr EZ,hb k g n,O,d0,u,m0,z,L,?_,?_,bE,bN) (by show 0<2;decide) λa qs R t j=>?_
  ·exact Q5 (Qq _<|Q8 (Qg z u) (show g.length+1-2<=f.length-1 by omega)) bD
  ·exact Q5 (Qq _<|Q8 (Qg ∅<|Qg u z) (show g.length+1-2<=f.length-1 by omega)) Y
  ·have l2:([0-r,(1:κ.F)]).length=1+1:=rfl;refine kk _ _ (?_,?_,IT j.lr j.r1,by rw[We,j.dv.lq];show g.length+1-2=_;omega)
   ·rw[GX];refine Rg.Ps.ext λk=>?_;rw[Rg.Ps.c_add,G7,AM,AM,Hv j.r0];exact ME l2 rfl j.dv k
   ·rw[Qn,Qn];show min t (min (2-1) _)<=1;omega
 have J:Tk f r 0 f:=(by show _=1*_;grind,rfl,tf,l1);refine (0,FP,(VB,H,1,FC,by show 2<=1000;decide,?_));refine I 0 f _ J λq0 s0 B=>?_;refine (λm W=>∃(k:Nat) (g q s:Ab κ),m=g.length/\Tk f r k g/\Dn r g q s/\W=[some<|.val<|.kd κ,some<|.val<|nums κ g,some<|.val<|num κ r,some<|.val<|nums κ [0-r,1],some<|.val<|.int (k:Int),some<|.val<|.tup [nums κ q,nums κ s]],f.length,(0,f,q0,s0,rfl,J,B,rfl),?_);rintro _ _ ⟨k,g,p,s,rfl,n,dn,rfl⟩;have ms:=Cb s;refine (_,rfl,Zp.br (λzz=>?_) λzz=>?_)
 ·have e:s=[]:=rH.mp ⋯;subst e;obtain ⟨o,lt⟩:=n.next dn
  refine (_,rfl,?_);show S_divided [.kd κ,nums κ p,nums κ [0-r,1]] _;exact I (k+1) p _ o λU s2 C=>(p.length,lt,k+1,p,U,s2,rfl,o,C,rfl)
 ·obtain ⟨v,rfl⟩:∃v,s=[v]:=rW.mp (by have:=dn.ls;omega);refine (by show 2<=1000;decide,q k g n ?_);rw[dn.val];exact F7 dn.ts (by show 1≠0;decide)
end Lake.Zp
namespace Lake.My
open PySem L2 PyProof.Rows
section
variable{κ:KX}
theorem S5{r:κ.F}{x y:Sr κ}(a:Fs x)(b:Fs y)(h:lx r*x=lx r*y):x=y:=by
 rw[GX] at h;exact QX (d:=[0-r,1]) (by show 1<=2;decide,rfl) a b (by rw[show x*sr [0-r,1]=sr [0-r,1]*x by grind,h];grind)
theorem Fs.pw{s:Sr κ}(h:Fs s):∀k,Fs<|Rg.pwS s k
 |0=>Fs.one
 |k+1=>(Fs.pw h k).mul h
theorem RM{r:κ.F}{x y:Sr κ}(a:Fs x)(b:Fs y):∀k,Rg.pwS (lx r) k*x=Rg.pwS (lx r) k*y->x=y
 |0,h=>by
  have h:1*x=1*y:=h;grind
 |k+1,h=>by
  have h:Rg.pwS (lx r) k*lx r*x=Rg.pwS (lx r) k*lx r*y:=h;exact S5 a b<|RM (r:=r) ((Fs.lx r).mul a) ((Fs.lx r).mul b) k (by grind)
def Mu(s:Sr κ)(r:κ.F)(k:Nat):Prop:=∃q v,Fs q/\s=Rg.pwS (lx r) k*q/\Ev q r v/\v≠0
theorem Mu.le{s:Sr κ}{r:κ.F}(h:Mu s r k)(g:Mu s r j):¬k<j:=λt=>by
 obtain ⟨q,v,n,e,m,i⟩:=h;obtain ⟨c,p,a,b,o,f⟩:=g;obtain ⟨d,rfl⟩:∃d,j=k+(d+1):=(j-k-1,⋯);rw[e,Rg.pwS_add] at b;have l:=RM (r:=r) n (((Fs.lx r).pw<|d+1).mul a) k (by rw[b];grind);have z:Ev q r 0:=(Rg.pwS (lx r) d*c,((Fs.lx r).pw d).mul a,by
  rw[l,Ef];show Rg.pwS (lx r) d*lx r*c=_;grind)
 exact i<|m.one z
theorem Mu.one{s:Sr κ}{r:κ.F}(h:Mu s r k)(g:Mu s r j):k=j:=by
 have:=h.le g;have:=g.le h;omega
theorem Mu.mul{P t:Sr κ}{r w:κ.F}(d:Fs P)(c:Ev P r w)(f:w≠0)(h:Mu t r k):Mu (P*t) r k:=by
 obtain ⟨q,v,b,e,a,g⟩:=h;exact (P*q,w*v,d.mul b,by rw[e];grind,c.mul a,F0 f g)
open Classical in
noncomputable def DX(s:Sr κ)(r:κ.F):Nat:=if h:∃k,Mu s r k then Classical.choose h else 0
theorem Oe{s:Sr κ}{r:κ.F}(h:Mu s r k):DX s r=k:=by
 unfold DX;rw[dif_pos (k,h)];exact (Classical.choose_spec ((k,h):∃k,Mu s r k)).one h
theorem Fp(h:Sr κ):∀us:Ab κ,prL h us=prL 1 us*h
 | []=>by show h=1*h;grind
 |r::us=>by
  show lx r*prL h us=lx r*prL 1 us*h;rw[Fp h us];grind
theorem IS(h:Sr κ)(vs:Ab κ):∀us:Ab κ,prL h (us++vs)=prL (prL h vs) us
 | []=>rfl
 |r::us=>by
  show lx r*prL h (us++vs)=lx r*prL (prL h vs) us;rw[IS h vs us]
theorem Lg(h:Sr κ)(r:κ.F):∀k,prL h (List.replicate k r)=Rg.pwS (lx r) k*h
 |0=>by show h=1*h;grind
 |k+1=>by
  show lx r*prL h (List.replicate k r)=Rg.pwS (lx r) k*lx r*h;rw[Lg h r k];grind
theorem Fs.prL{h:Sr κ}(a:Fs h):∀us:Ab κ,Fs<|My.prL h us
 | []=>a
 |r::us=>(Fs.lx r).mul<|Fs.prL a us
theorem Ms{r:κ.F}:∀us:Ab κ,(∀u∈us,u≠r)->∃w,Ev (prL 1 us) r w/\w≠0
 | [],_=>(1,by rw[<-CJ];exact Ev.cn r 1,EZ)
 |u::us,h=>by
  obtain ⟨w,e,a⟩:=Ms us λv b=>h v<|.tail _ b;refine ((r-u)*w,(Ev.lx r u).mul e,F0 (λz=>h u (.head _) ?_) a);grind
theorem f6{t:Sr κ}{r:κ.F}{us:Ab κ}(h:Mu t r k)(n:∀u∈us,u≠r):Mu (prL t us) r k:=by
 obtain ⟨w,e,a⟩:=Ms us n;rw[Fp];exact h.mul (Fs.one.prL us) e a
end
end Lake.My
namespace Lake.Zp
open My
open PySem L2 PyProof.Rows
variable{Z:Zc}{X:Cx}{P:Program}{w:World}{K:Ac}{mg:Ai}{base:Heap}
section
variable{H0:Hp}{O0:Ay}{st:Stmt}{ss:List Stmt}{u u2:ZS}
structure GZ (Z:Zc) (X:Cx) (H0:Hp) (O0:Ay) (ss:List Stmt) (t:ZS):Prop where
 mo:PR t
 ok:CT X ss (Pd Z H0 O0 t)
theorem GZ.m{D a:ZD}(h:GZ Z X H0 O0 ss u)(q:u D ρ)(l:D.Le a):u a ρ:=h.mo _ _ _ l q
theorem MD(h:QS Z X st u)(a:GZ Z X H0 O0 ss u2):GZ Z X H0 O0 (st::ss) (SW u u2) :=
 (λD i c l q=>h.m q (λ_ k=>a.mo _ _ _ l k,l.rt,l.bk,l.ct),Kw (AQ (h.ok H0 O0) a.ok) λD j H ⟨O,c,s,q⟩ =>
  (O,c,s,h.m q (λb k e f m d g=>(e,b,d,a.mo _ _ _ (Ic g) k),λ_ z=>z,λ_ z=>z,λ_ z=>z)))
theorem UJ:∀ {σ:L2.St} {i:Nat} {v:Option V},σ[i]?=some v->σ.set i v=σ
 |_::_,0,_,h=>by cases h;rfl
 |a::σ,i+1,v,h=>qW (a :: ·)<|UJ (σ:=σ) (i:=i) h
abbrev X0(i:Nat)(u:ZS):ZS:=λD a=>zO i (λl=>u D<|A2 a i<|some<|.val<|.fr l) a
theorem YZ(i:Nat)(A:Gd Z (hide O0 H0))(h:DH Z X ss u):GZ Z X H0 O0 ss (X0 i u) :=
 (λD I C l q=>G1 (λ_ k=>h.mo _ _ _ l k) q,Kw (h.ok H0 O0) λD M H ⟨O,C,s,q⟩=>by
  obtain ⟨l,e,q⟩:=Hh q;obtain ⟨a,L,b,m,g,r⟩:=s.ow e;obtain ⟨E,n,F⟩:=s.free e;have B:=(s.new a m).resolve_left<|s.out i l a e b;have G:=λz=>A.1 a z (by by_cases y:a∈O0;exact Jf y;rw[hide_out y];exact B);obtain ⟨v,o,c⟩:=n.rel i _<|P9<|Je e;rw[b] at o;cases o
  cases c with|val c=>?_
  obtain ⟨J,f,x,j,d⟩:=Db c
  cases x
  have t:=n.set (i:=i) (p:=.fr l) (v:=.ref a) (by unfold Rep;exact (a,f,rfl,G,j,d));rw[L9,UJ b] at t;exact (E,_,t,h.mo _ _ _ (Ic F) q))
end
theorem hH{N ps:List Str}{S:ZF}{t:ZS}{vs:List V}(d:∀vs Q,S vs Q->vs.length=ps.length)(g:∀vs Q,S vs Q->∃κ r,vs = .kd κ::r)(c:∀O,Gd Z (hide O H)->GZ Z X H O body t)
 (R:ps.length<=N.length) (y:∀vs Q,S vs Q->t (λ_=>Q .non,Q,λ_=>False,λ_=>False) (DT N vs)) (h:EO Z S vs H Q E):∃t,CT X body t/\t { nx:=λ_ b=>Q .non b,rt:=Q } (L2.start N vs) H:=by
 obtain ⟨O,pv,l,r,q⟩:=h;have T:=r.len;have W:=d _ _ q;obtain ⟨κ,U,s⟩:=g _ _ q;have o:Gd Z (hide O H):=by
  subst s;obtain ⟨u,_,C⟩:=r.get (i:=0) (p:=.kd κ) rfl;exact Kz C
 have c:=c O o;refine (_,c.ok,O,DT N pv,(BI,λ_ m=>m,λ_ m => .inl m,l,?_,λi J e=>?_,λi j x m n F _=>?_,λi x a e _=>?_),c.m (y pv _ q) (λI k L D b G M=>k .non b G.ext (by unfold Rep; rfl),λp k v b=>k v b,λ_ z=>z.elim,λ_ z=>z.elim))
 ·unfold L2.start; rw[Qi,Q1,Wv,Io]; omega
 ·obtain ⟨p,rfl,A⟩:=Ft e
  obtain ⟨u,f,B⟩:=r.get A;refine (u,?_,.val B);unfold L2.start;rw[U3 (by rw[Q1]; exact (Qr.mp f).1),Q7,f]; rfl
 ·obtain ⟨p,z,_⟩:=Ft F; cases z
 ·obtain ⟨p,z,_⟩:=Ft e; cases z
theorem dG{st:Stmt}{N ps:List Str}{t:ZS}(n:Ae K mg x st)(b:∀f e,BT K x x st f e->AB K e ps [])(j:Aa N ps (Ao st))(p:Eo S)(d:∀vs Q,S vs Q->vs.length=ps.length)(g:∀vs Q,S vs Q->∃κ r,vs = .kd κ::r)
 (body:∀(f:Addr) (c:Value) (A:Around) (a:List Env) (s:Shared) (H:Hp) (E:XK),Av k (A.deeper<|envOfC x (Ao st) s.heap.objs.size f c)->∀O,Gd Z (hide O H)->GZ Z (F1 P w K mg base N x (Ao st) f c A a s H E) H O (CL st) t)
 (m:ps.length<=N.length) (o:∀vs Q,S vs Q->t (λ_=>Q .non,Q,λ_=>False,λ_=>False) (DT N vs)):Fn P w K mg base Z x (k+1) S :=
 (p,ps,n.hasX b λf e F=>F.okx j (λvs H Q E h=>by
  obtain ⟨O,pv,l,r,q⟩:=h;rw[r.len]; exact d _ _ q) λc A a s H vs Q E i h=>hH d g (body f c A a s H E i) m o h)
variable{cN:Addr}
structure Isk (K:Ac) (f r:Addr):Prop where
 hF:PySem.W.findIn K (.ref f) "__class__"=some (some (.builtin "object.__class__"))
 hR:PySem.W.findIn K (.ref r) "__class__"=some (some (.builtin "object.__class__"))
 hn:PySem.W.specialIn K (.builtin "object.__class__") "__get__"=some (some (.builtin "getset_descriptor.__get__"))
 htk:PySem.W.takesIn K (.builtin "object.__class__")=some true
 mF:PySem.W.mroIn K f (.type "object")=some true
 mR:PySem.W.mroIn K r (.type "object")=some true
 yF:PySem.W.kitOne K (.ref f) (.ref f)=some true
 nR:PySem.W.kitOne K (.ref r) (.ref f)=some false
def isQ:KX->Bool
 | .q=>true
 | .r _ _=>false
abbrev Xm(te:ZE):ZE:=λb Q=>te b λp=>∃a,p = .kd a/\Q (.bl<|isQ a)
theorem kK{p p2 pos:Pos}(j:Kd X.K X.mg Z.f Z.r)(b:Isk X.K Z.f Z.r)(z:X.mg "isinstance"=none) (h:QE Z X e te) (u:Gl X "isinstance":= by rfl) (l:Gl X "Fractions":= by rfl) (m:starEach [e,.Name "Fractions" p2] X.env=(false,eval e X.env)::starEach [.Name "Fractions" p2] X.env:=by rfl):QE Z X (.Call (.Name "isinstance" p) [e,.Name "Fractions" p2] [] pos) (Xm te) :=
 (λc _ _ f q=>h.mo c _ _ (λp ⟨g,e,k⟩=>(g,e,f _ k)) q,λA x=>BZ (Cf Fb u z qZ (Ag (h.ok A x) (Ag (WO (v:=.ref Z.f) l j.mgF rfl) An) m) ∅ ∅ m rfl) λC H Q ⟨O,c,s,q⟩=>(O,c,s,h.mo c _ _ (λp ⟨g,e,k⟩ v t o i=>by
  subst e;unfold Rep at i
  cases g with
  |q =>
   obtain ⟨a,rfl,⟨y,d⟩,_⟩:=i;exact (_,_,_,true,rfl,.of<|.ins (hide_le _ _ d) j.clF b.hF b.hn b.htk b.mF,.ref b.yF,k _ t o D2)
  |r n B =>
   obtain ⟨a,rfl,⟨y,d⟩,_⟩:=i;exact (_,_,_,false,rfl,.of<|.ins (hide_le _ _ d) j.clR b.hR b.hn b.htk b.mR,.ref b.nR,k _ t o D2)) q))
noncomputable abbrev rk(κ:KX)(s:Sr κ)(r:κ.F):PV:=.tup [num κ r,.int ((DX s r:Nat):Int)]
def dM(a:ZF)(κ:KX)(f:Ab κ)(Q:AH):Prop:=match κ with
 | .q=>a [.kd .q,nums .q f] Q
 | .r p hp=>S_tri [.kd<|.r p hp,nums _ f] Q
inductive S_ral (Sf:ZF):ZF
 |mk {Q:AH} {κ:KX} {f:Ab κ} {D E M N:Nat} (R:Ab κ->Prop) (tf:Bj f) (l1:1<=f.length) (l8:f.length<=8) (sm:∀Q':AH,(∀rs,R rs->Q' (nums κ rs))->dM Sf κ f Q') (ok:∀rs,R rs->rs.length<=1000/\rs.Nodup/\∀r∈rs,B1 κ r/\QN κ (E:Int) N (0-r))
  (hb:∀us g,Bj g->sr f=prL (sr g) us->∀x∈g,QN κ (D:Int) M x) (d0:0<D) (e0:0<E) (m0:0<M) (eN:E<=N) (bD:D*(N*E)^(f.length-1)<2^8900) (bM:M*(2*(E*N))^(f.length-1)<2^30000) (bE:E<2^8900) (bN:N<2^8900)
  (q:∀rs g,R rs->Q (.tup [.fr (rs.map (rk κ (sr f))),nums κ g])):S_ral Sf [.kd κ,nums κ f] Q
theorem Bs:Aa ["kind","f","some","answer","root","found"] ["kind","f"] (Ao M7):=‹2›
theorem z_ral{k:Nat}(hk:6<=k)(h:Ae K mg "roots_and_left" M7) (T:Nm mg) (kd:Kd K mg Z.f Z.r) (ik:Isk K Z.f Z.r) (b:Fn P w K mg base Z "fraction_roots" k y) (c:Fn P w K mg base Z "tried_roots" k S_tri) (d:Fn P w K mg base Z "taken_out" k S_tak):Fn P w K mg base Z "roots_and_left" (k+1) (S_ral y):=by
 have t:=Bs.nd;refine dG h (λ_ _ F=>F.b2 λ_ _ _ _ _ _ _ _=>rfl) Bs (λps A B f ⟨a0,a1,a2,a3,a4,a5,a6,a7,a8,a9,C,H,I,J,W,q⟩=>(a0,a1,a2,a3,a4,a5,a6,a7,a8,a9,C,H,I,J,W,λl g a=>f _<|q l g a)) (λ_ _ ⟨_,_,_,_,_,_,_,_,_,_,_,_,_,_,_,_⟩=>rfl) (λ_ _ ⟨_,_,_,_,_,_,_,_,_,_,_,_,_,_,_,_⟩=>(_,_,rfl)) (λ_ _ _ _ _ _ _ hr O gd =>
  (MD (AE 2 t<|ZR (Fv<|kK kd ik T.isinstance<|qv 0) (AD b<|Aw (qv 0)<|qv 1)<|AD c<|Aw (qv 0)<|qv 1)
  (MD (Hi 3 t<|Cs EM)
  (MD (D3 [4,5] (ED<|qv 2) (Eg 4 t)<|Ap (AE 5 t<|AD d<|BG (qv 0) (qv 1)<|qv 4)
   (Ap (Iv 3<|CH<|Aw (qv 4)<|A8 (qv 5) Ah)
   (AK<|AE 1 t<|A8 (qv 5) Ah)))
  (YZ 3 gd<|AK<|Bk<|CH<|Aw (qv 3)<|qv 1))))) ∅ ?_
 rintro _ Q ⟨R,tf,l1,l8,sm,ok,hb,d0,e0,m0,eN,bD,bM,bE,bN,q⟩
 rename_i e f D E M N
 have U:∀(x:AH),(∀l,R l->x (nums e l))->Br (isQ e) (y [.kd e,nums e f] x) (S_tri [.kd e,nums e f] x):=λx hq=>by
  have:=sm x hq
  cases e with
  |q=>exact this
  |r p hp=>exact this
 refine (e,rfl,U _ λl hR=>?_);obtain ⟨lr,Y,G⟩:=ok l hR;refine (by show 0<=1000;decide,(λi ρ=>∃(o:Ab e) (g:Ab e),(∀u∈o,u∈l.take i)/\sr f=prL (sr g) o/\Bj g/\1<=g.length/\g.length<=f.length/\ρ=[some<|.val<|.kd e,some<|.val<|nums e g,some<|.val<|nums e l,some<|.own<|(l.take i).map<|rk e<|sr f,none,none],([],f,(λu hu=>nomatch hu),rfl,tf,l1,Q4 _,rfl),?_,?_))
 ·rintro i p _ hp ⟨o,g,v,eg,tg,lg,b0,rfl⟩;obtain ⟨r,m,rfl⟩:=mget hp;have il:=(Qr.mp m).1;have rm:r∈l:=Ql m;obtain ⟨S,L⟩:=G r rm;have nr:∀u∈o,u≠r:=λu hu z=>by
   obtain ⟨j,hj⟩:=rM<|v u hu;have jl:=(Qr.mp hj).1;rw[Qn] at jl;rw[List.getElem?_take_of_lt ⋯,z,<-m] at hj;have:=(List.getElem?_inj ⋯ Y).mp hj;omega
  have ep:g.length-1<=f.length-1:=⋯;have n0:0<N:=⋯;refine S_tak.mk (D:=D) (E:=E) (M:=M) (N:=N) tg lg ⋯ S L (λk s n=>hb (o++List.replicate k r) s n.t (by rw[IS,Lg,<-n.e];exact eg)) d0 e0 m0 eN (Q5 (Qq _<|Q8 (Qg n0 e0) ep) bD) (Q5 (Qq _<|Q8 (Qg ∅<|Qg e0 n0) ep) bM) bE bN λk s n v0=>?_;have mu:Mu (sr f) r k:=by
   rw[eg];exact f6 (sr s,_,Fs.sr s,n.e,Es r s,v0) nr
  have em:=Oe mu;have lk:=n.l;refine (_,rfl,by show 2<=1000;decide,by rw[Q1,Qn];omega,_,rfl,?_);have et:l.take (i+1)=l.take i++[r]:=by rw[Ul,m];rfl
  refine (o++List.replicate k r,s,λu hu=>?_,by rw[IS,Lg,<-n.e];exact eg,n.t,n.l1,⋯,?_)
  ·rw[et];rcases Qp.mp hu with hu|hu
   ·exact Qp.mpr (.inl<|v u hu)
   ·exact Qp.mpr (.inr (by rw[(List.mem_replicate.mp hu).2];exact .head _))
  ·rw[et,Wp];show _=[_,_,_,some<|Sl.own<|_++[PV.tup [num e r,.int ((DX (sr f) r:Nat):Int)]],none,none];rw[em]
 ·rintro _ ⟨o,g,-,-,-,-,-,rfl⟩;rw[Cb,Uk];exact (by show 2<=1000;decide,q l g hR)
inductive IR (Sf:ZF):ZF
 |mk {Q:AH} {κ:KX} {f:Ab κ} (R:Ab κ->Prop) (h:∀Q':AH,(∀rs g,R rs->Q' (.tup [.fr (rs.map (rk κ (sr f))),nums κ g]))->S_ral Sf [.kd κ,nums κ f] Q') (q:∀rs,R rs->Q (.fr (rs.map (rk κ (sr f))))):IR Sf [.kd κ,nums κ f] Q
theorem Vp:Aa ["kind","f"] ["kind","f"] (Ao KZ):=‹2›
theorem z_roots{k:Nat}(h:Ae K mg "roots" KZ) (a:Fn P w K mg base Z "roots_and_left" k (S_ral b)):Fn P w K mg base Z "roots" (k+1) (IR b):=by
 refine Cg h Vp (λ_ _ _ _ _ _ _ e =>
  (AK<|Bk<|A8 (AD a<|Aw (qv 0)<|qv 1) Ah)) ?_
 rintro _ Q ⟨R,h,q⟩;exact h _ λd g c=>(_,rfl,q d c)
end Lake.Zp
namespace Lake.My
open PySem L2 PyProof.Rows
section
variable{P:Program}{w:World}{K:Ac}{mg:Ai}{base:Heap}
theorem B7:Aa ["_law_top","_law_bottom","_law_by"] ["_law_top","_law_bottom"] (Ao Ml):=‹2›
theorem aU(h:Ae K mg "_law_fraction" Ml) (c:AF P w K mg base "_law_divisor" 1 ["_law_one","_law_other"] EF):AF P w K mg base "_law_fraction" 2 ["_law_top","_law_bottom"] HD:=by
 refine Zp.has_okA h B7 (λ_ _ _ _ h=>by obtain ⟨_,_,rfl,_⟩:=h;rfl)<|λf p A e s H x Q E l h=>?_;obtain ⟨t,b,rfl,u,n,k⟩:=h;have o:=B7.nd;refine (_,(AQ (Bv (i:=2) o rfl (Or.inl rfl)<|BJ c l (by rfl)<|Ag (pv 0)<|Ag (pv 1) An)
  (Az<|A7<|DI<|Ag (Ar Td (pv 0)<|pv 2)<|Ag (Ar Td (pv 1)<|pv 2) An)),?_)
 refine (_,rfl,_,rfl,t,b,rfl,?_);have v:=M3.gcd_ne (a:=t) (b:=b) ⋯;have m:Int.gcd t b<=b.natAbs:=Wm ⋯<|Wo.mpr<|W9 t b;have d:(Int.gcd t b:Int)≠0/\Ak 8000 (Int.gcd t b:Int):=(⋯,n.le (by rw[Qa];exact m));obtain ⟨q,j⟩:=fY (t:=t) u;refine (_,rfl,_,rfl,_,_,rfl,rfl,d,_,rfl,_,rfl,_,_,rfl,rfl,d,(by show 2<=sizeLine;decide),λr g=>?_);have:=k r g;rw[<-q,<-j] at this;exact this
end
theorem o8:M2.Prm 997:=Tu (n:=997) ‹4› ∅
inductive Ni (vs:List V) (H:Hp) (Q:VK) (zE:XK):Prop
 |mk (n:Int) (_:vs=[.int n]) (_:2<=n) (_:n<=997) (_:∀p:Int,PK p->p<=997->Q (.int p) H):Ni vs H Q zE
inductive MR (vs:List V) (H:Hp) (Q:VK) (zE:XK):Prop
 |mk (c:Int) (_:vs=[.int c]) (_:∀(H':Hp) (p:Int),Ad H H'->PK p->p<=997->Q (.int p) H'):MR vs H Q zE
theorem Yy(c:Int):∃m:Int,CC [V.int 2,V.int 3,V.int 5,V.int 7,V.int 11,V.int 97] (c/3%6)=some (.int m)/\PK m/\m<=997:=by
 rcases (by omega:c/3%6=0\/c/3%6=1\/c/3%6=2\/c/3%6=3\/c/3%6=4\/c/3%6=5) with e|e|e|e|e|e <;> rw[e]
 ·exact (2,rfl,.inr (HA ⋯,∅),∅)
 ·exact (3,rfl,.inr (HA ⋯,∅),∅)
 ·exact (5,rfl,.inr (HA ⋯,∅),∅)
 ·exact (7,rfl,.inr (HA ⋯,∅),∅)
 ·exact (11,rfl,.inr (HA ⋯,∅),∅)
 ·exact (97,rfl,.inr (HA ⋯,∅),∅)
section
variable{P:Program}{w:World}{K:Ac}{mg:Ai}{base:Heap}
theorem CV:Aa ["_law_number"] ["_law_number"] (Ao Mi):=‹2›
theorem pK(h:Ae K mg "_law_prime" Mi) (a:AF P w K mg base "_law_is_prime" 1 ["_law_number"] HL):AF P w K mg base "_law_prime" 2 ["_law_number"] Ni:=by
 refine Zp.has_okA h CV (λ_ _ _ _ h=>by obtain ⟨_,rfl,_⟩:=h;rfl)<|λf o A b s H v Q E p h=>?_;obtain ⟨n,rfl,q,u,k⟩:=h;have j:=CV.nd;refine (_,(AQ (Fq q5 (GG<|DQ<|BJ a p (by rfl)<|Ag (pv 0) An)<|Az<|Bv (i:=0) j rfl (Or.inl rfl)<|Ar Bw (pv 0) Aj)
  (Az<|A7<|pv 0)),?_)
 refine (λe d g=>∃t:Int,e=(997-t).toNat/\d=[some<|.int t]/\g=H/\2<=t/\t<=997,(_,n,rfl,rfl,rfl,⋯,⋯),?_);rintro e d g ⟨t,rfl,rfl,rfl,r,l⟩;refine (_,rfl,t,rfl,⋯,λc=>(_,rfl,?_),λc=>(_,rfl,?_))
 ·refine Ek ?_;exact (_,rfl,k t (.inr (c,⋯)) l)
 ·refine FE ?_;refine (_,λ_ _ h=>h,?_);have m:t≠997:=λz=>c (by rw[z];exact o8);refine (_,rfl,_,_,rfl,rfl,?_);exact (_,⋯,t+1,rfl,rfl,rfl,⋯,⋯)
theorem Zw:Aa ["_law_cell"] ["_law_cell"] (Ao LS):=‹2›
theorem dZ(h:Ae K mg "_law_prime_by" LS) (a:AF P w K mg base "_law_prime" 2 ["_law_number"] Ni):AF P w K mg base "_law_prime_by" 3 ["_law_cell"] MR:=by
 refine Zp.has_okA h Zw (λ_ _ _ _ h=>by obtain ⟨_,rfl,_⟩:=h;rfl)<|λf j A b s H o Q E l h=>?_;obtain ⟨c,rfl,k⟩:=h;refine (_,(AQ (BX (BK BO (Ar BU (pv 0) Aj) Aj<|Bn _) (Az<|A7 Aj) BW)
  (AQ (BX (BK BO (Ar BU (pv 0) Aj) Aj<|Bn _) (Az<|A7<|AY FN (Jb<|Ag Aj<|Ag Aj<|Ag Aj<|Ag Aj<|Ag Aj<|Ag Aj An) (Ar BU (Ar DS (pv 0) Aj) Aj)<|λ_ _=>rfl) BW)
  (Az<|A7<|BJ a l (by rfl)<|Ag (Ar Bw Aj<|Ar BU (Ar Fj (Ar DS (pv 0) Aj) Aj) Aj) An))),?_)
 refine (_,rfl,_,_,rfl,rfl,∅,rfl,_,rfl,?_);refine EI (λ_=>k H 0 (Ad.refl H) (.inl rfl) ∅)<|λ_=>?_;refine (_,rfl,_,_,rfl,rfl,∅,rfl,_,rfl,?_);refine EI (λ_=>?_)<|λ_=>?_
 ·obtain ⟨m,e,pm,n⟩:=Yy c;refine (∅,λq g=>?_);refine (_,rfl,_,_,rfl,rfl,(∅,∅),_,_,rfl,rfl,∅,_,_,_,_,rfl,rfl,AR.of A4,e,?_);exact k _ m (Bg g _) pm n
 ·refine (_,rfl,_,_,rfl,rfl,(∅,∅),_,_,rfl,rfl,.inr (∅,∅),_,_,rfl,rfl,∅,_,_,rfl,rfl,_,rfl,?_,?_,λp d i=>k H p (Ad.refl H) d i)
  ·omega
  ·omega
theorem X8:Aa ["_law_prime_here","_law_number"] ["_law_prime_here","_law_number"] (Ao LU):=‹2›
theorem Yd(h:Ae K mg "_law_make" LU):AF P w K mg base "_law_make" 1 ["_law_prime_here","_law_number"] Ji:=by
 refine Zp.has_okA h X8 (λ_ _ _ _ h=>by obtain ⟨_,_,_,rfl,_⟩:=h;rfl)<|λf i A a s H o Q E m h=>?_;obtain ⟨g,t,x,rfl,b,k⟩:=h;refine (_,(AQ (BX (BK BO (pv 0) Aj<|Bn _) (Az<|A7<|DI<|Ag (pv 1)<|Ag Aj An) BW)
  (Az<|A7<|Ar D0 (pv 1)<|pv 0)),?_)
 refine (_,rfl,rfl,_,rfl,?_)
 cases g with
 |r p c =>
  have n:=c.two;refine Oq (show (KX.r p c).P≠0 by have:0<(KX.r p c).P:=JJ;omega) (_,rfl,_,rfl,_,_,rfl,rfl,(show (p:Int)≠0 by omega),k H _ (Ad.refl H) ?_);show V.int (t.fmod p)=V.int x.val;have e:(Fin.val x:Int)=t%p:=b.2;rw[Wr _ ⋯,e]
 |q =>
  refine MK (show KX.q.P=0 from rfl) (_,rfl,(by show 2<=sizeLine;decide),λr l=>?_);refine k _ _ (Bg l _) (r,rfl,?_);have j:Rat.num x=t:=b.1;have d:Rat.den x=1:=b.2;rw[A4,j,d];rfl
theorem kQ:Aa ["_law_prime_here","_law_found"] ["_law_prime_here","_law_found"] (Ao Mb):=‹2›
theorem fR(h:Ae K mg "_law_is_number" Mb) (T:Nm mg) (b:AF P w K mg base "_law_whole" 1 ["_law_found"] HW) (c:AF P w K mg base "_law_divisor" 1 ["_law_one","_law_other"] EF):AF P w K mg base "_law_is_number" 2 ["_law_prime_here","_law_found"] PQ:=by
 refine Zp.has_okA h kQ (λ_ _ _ _ h=>by obtain ⟨_,_,_,rfl,_⟩:=h;rfl)<|λf m A i s H t Q E g h=>?_;obtain ⟨l,u,x,rfl,e,k⟩:=h;refine (_,(AQ (BX (BK Eu (pv 0) Aj<|Bn _) (Az<|A7<|KT (BJ b g (by rfl)<|Ag (pv 1) An)<|K4<|Y5 Lp EW Aj (pv 1)<|pv 0) BW)
  (AQ (BX (FS (GG<|DQ<|Cf Fb (by rfl) T.isinstance qZ<|Ag (pv 1)<|Ag (DU (by rfl) T.tuple boot_tuple) An)<|FS (BK Ga (Cf E7 (by rfl) T.len boot_len<|Ag (pv 1) An) Aj<|Bn _)<|FS (GG<|DQ<|BJ b g (by rfl)<|Ag (AY A6 (pv 1) Aj<|λ_ _=>rfl) An)<|Hl<|GG<|DQ<|BJ b g (by rfl)<|Ag (AY A6 (pv 1) Aj<|λ_ _=>rfl) An).pt (Az<|A7 GA) BW)
  (Az<|A7<|KT (FY Eu (AY A6 (pv 1) Aj<|λ_ _=>rfl) Aj<|Bn _)<|K4<|FY BO (BJ c g (by rfl)<|Ag (AY A6 (pv 1) Aj<|λ_ _=>rfl)<|Ag (AY A6 (pv 1) Aj<|λ_ _=>rfl) An) Aj<|Bn _))),?_)
 refine (_,rfl,_,_,rfl,rfl,_,rfl,?_)
 cases l with
 |r p n =>
  have e:=e;subst e;have o:=x.isLt;exact KL (show (0:Int)<(KX.r p n).P from JJ) (_,rfl,_,rfl,_,rfl,FE (_,rfl,_,_,rfl,rfl,_,rfl,KL (show (0:Int)<=x.val by omega) (_,rfl,_,_,rfl,rfl,V5 (show (x.val:Int)<(p:Int) by omega) k)))
 |q =>
  obtain ⟨a,rfl,d⟩:=e;have j:=Cn x;refine V0 (show ¬(0:Int)<0 by decide) ?_;refine (_,rfl,_,_,_,_,rfl,.of<|.tup d,.ty<|Gg K _,_,rfl,Ek ?_);refine (_,rfl,a,_,rfl,.inr<|AI.of d,rfl,_,rfl,Hz (λz=>absurd rfl z)<|λ_=>?_);refine (_,rfl,a,_,0,_,rfl,rfl,AI.of d,rfl,_,rfl,_,rfl,Ek ?_);refine (_,rfl,a,_,1,_,rfl,rfl,AI.of d,rfl,_,rfl,_,rfl,Ek ?_);refine (_,rfl,a,_,1,_,rfl,rfl,AI.of d,rfl,_,_,rfl,rfl,_,rfl,KL (show (0:Int)<x.den from j.pos) ?_);refine (_,rfl,a,_,0,_,rfl,rfl,AI.of d,rfl,_,rfl,a,_,1,_,rfl,rfl,AI.of d,rfl,_,_,rfl,rfl,V5 (show V.int ((Int.gcd x.num x.den:Nat):Int)=V.int 1 by rw[j.cop];rfl) k)
end
inductive Oz (CF CR:Addr) (vs:List V) (H:Hp) (Q:VK) (zE:XK):Prop
 |mk (p:Int) (_:vs=[.int p]) (_:PK p) (_:∀(H':Hp) (k:Addr),Ad H H'->R8 CF CR p H' k->Q (.ref k) H'):Oz CF CR vs H Q zE
section
variable{P:Program}{w:World}{K:Ac}{mg:Ai}{base:Heap}{CF CR cN:Addr}
theorem eO:Aa ["_law_prime_here"] ["_law_prime_here"] (Ao Mv):=‹2›
theorem Zi(h:Ae K mg "_law_kind" Mv) (j:Kd K mg CF CR) (t:B5 P w K mg base CR 2 ["self","prime"] (Hf CR)):AF P w K mg base "_law_kind" 4 ["_law_prime_here"] (Oz CF CR):=by
 refine Zp.has_okA h eO (λ_ _ _ _ h=>by obtain ⟨_,rfl,_⟩:=h;rfl)<|λf u A i s H B Q E v h=>?_;obtain ⟨p,rfl,x,k⟩:=h;refine (_,(AQ (BX (BK BO (pv 0) Aj<|Bn _) (Az<|A7<|Z1 j.mkF (by rfl) j.mgF) BW)
  (Az<|A7<|Ka t v (by rfl) j.mgR<|Ag (pv 0) An)),?_)
 refine (_,rfl,rfl,_,rfl,?_);refine EI (λz=>?_)<|λz=>?_
 ·intro y m l c q;refine k _ y (λb o e=>?_)<|.inl (z,m,A4);rw[AL<|Dj e l,AL<|Dj e c];exact e
 ·rcases x with rfl|⟨pr1,lp1⟩
  ·exact absurd rfl z
  refine (_,rfl,λr g a d n=>(r,g,p,rfl,A4,pr1,lp1,rfl,?_));refine k _ r (λb o e=>?_)<|.inr (pr1,lp1,g,A4);rw[AL<|Dj e a,AL<|Dj e a,AL<|Dj e d];exact e
end
abbrev BL(κ:KX)(x:κ.F):Prop:=Bd κ 1000000 4000 x
theorem QN.bL{κ:KX}{D:Int}(a:0<D)(c:D.natAbs<2^3000){M:Nat}(d:M<2^3000){x:κ.F}(h:QN κ D M x):BL κ x:=by
 cases κ with
 |r p g=>exact trivial
 |q =>
  obtain ⟨X,rfl,e⟩:=h;obtain ⟨f,b⟩:=FZ X a;refine (?_,?_)
  ·exact Lu b ((Ak.of (n:=3000)<|Q5 e d).up ∅) (Lk X a)
  ·exact Lu f ((Ak.of (n:=3000) c).up ∅) (λz=>⋯)
inductive HJ (g:(κ:KX)->κ.F->κ.F->κ.F) (vs:List V) (H:Hp) (Q:VK) (zE:XK):Prop
 |mk (κ:KX) (u v:V) (x y:κ.F) (_:vs=[.int κ.P,u,v]) (_:NR κ H u x) (_:NR κ H v y) (_:BL κ x) (_:BL κ y) (_:∀H' t,Ad H H'->NR κ H' t (g κ x y)->Q t H'):HJ g vs H Q zE
inductive NI (vs:List V) (H:Hp) (Q:VK) (zE:XK):Prop
 |mk (κ:KX) (fa ga:Addr) (xs ys:List V) (F G:Ab κ) (D E:Int) (M N:Nat) (_:vs=[.int κ.P,.ref fa,.ref ga]) (_:H fa=some (.lst xs)) (_:H ga=some (.lst ys)) (_:AT (NR κ H) xs F) (_:AT (NR κ H) ys G) (_:F.length<=100) (_:G.length<=100) (_:(∀x∈F,QN κ D M x)) (_:(∀x∈G,QN κ E N x)) (_:0<D) (_:0<E) (_:(D.natAbs<2^3000/\E.natAbs<2^3000/\M<2^3000/\N<2^3000/\(D*E).natAbs<2^3000)) (_:F.length*(G.length*(M*N))<2^3000) (_:∀(H':Hp) (R:Addr) (zs:List V) (r:Nat),Ad H H'->H' R=some (.lst zs)->AT (NR κ H') zs ((CM F G F.length 0).take r)->r<=F.length+G.length->(∀j,r<=j->(CM F G F.length 0).getD j 0=0)->(r=0\/(CM F G F.length 0).getD (r-1) 0≠0)->H R=none->Q (.ref R) H'):NI vs H Q zE
section
variable{P:Program}{w:World}{K:Ac}{mg:Ai}{base:Heap}
theorem eI:Aa ["_law_prime_here","_law_one","_law_other"] ["_law_prime_here","_law_one","_law_other"] (Ao Nh):=‹2›
theorem YT(h:Ae K mg "_law_times" Nh) (c:AF P w K mg base "_law_fraction" 2 ["_law_top","_law_bottom"] HD):AF P w K mg base "_law_times" 3 ["_law_prime_here","_law_one","_law_other"] (HJ λ_ x y=>x*y):=by
 refine Zp.has_okA h eI (λ_ _ _ _ h=>by obtain ⟨_,_,_,_,_,rfl,_⟩:=h;rfl)<|λf C A l s H G Q E D h=>?_;obtain ⟨B,u,v,x,y,rfl,i,j,m,d,k⟩:=h;refine (_,(AQ (BX (BK BO (pv 0) Aj<|Bn _) (Az<|A7<|BJ c D (by rfl)<|Ag (Ar BM (AY A6 (pv 1) Aj<|λ_ _=>rfl)<|AY A6 (pv 2) Aj<|λ_ _=>rfl)<|Ag (Ar BM (AY A6 (pv 1) Aj<|λ_ _=>rfl)<|AY A6 (pv 2) Aj<|λ_ _=>rfl) An) BW)
  (Az<|A7<|Ar D0 (Ar BM (pv 1)<|pv 2)<|pv 0)),?_)
 refine (_,rfl,rfl,_,rfl,?_)
 cases B with
 |q =>
  obtain ⟨a,rfl,o⟩:=i;obtain ⟨b,rfl,t⟩:=j;refine MK (show KX.q.P=0 from rfl) ?_;have F:=(Cn x).pos;have z:=(Cn y).pos;refine (_,rfl,a,_,0,_,rfl,rfl,AI.of o,rfl,_,rfl,b,_,0,_,rfl,rfl,AI.of t,rfl,_,_,rfl,rfl,m.1.mulT d.1,_,rfl,a,_,1,_,rfl,rfl,AI.of o,rfl,_,rfl,b,_,1,_,rfl,rfl,AI.of t,rfl,_,_,rfl,rfl,(m.2.up ∅).mulG d.2,_,_,rfl,Wk F z,(m.2.times d.2),λr n=>?_);have e:x*y=Rat.divInt (x.num*y.num) ((x.den:Int)*y.den):=by
   rw[<-rL,W4,W4]
  refine k _ _ (Bg n _) (r,rfl,?_);rw[A4];rw[e]
 |r p g =>
  have i:=i;have j:=j;subst i j;refine Oq (show (KX.r p g).P≠0 by have:0<(KX.r p g).P:=JJ;omega) (_,rfl,_,rfl,_,_,rfl,rfl,Di (FD g x)<|FD g y,_,rfl,_,_,rfl,rfl,(show (p:Int)≠0 by have:=g.two;omega),k H _ (Ad.refl H) ?_);show V.int (((x.val:Int)*y.val).fmod p)=V.int ((Fin.val (x*y):Nat):Int);have e:Fin.val (x*y)=(x.val*y.val)%p:=Fin.val_mul x y;rw[e,U5,W3,Wr _ ⋯]
theorem Y3:Aa ["_law_prime_here","_law_one","_law_other"] ["_law_prime_here","_law_one","_law_other"] (Ao NV):=‹2›
theorem YL(h:Ae K mg "_law_plus" NV) (c:AF P w K mg base "_law_fraction" 2 ["_law_top","_law_bottom"] HD):AF P w K mg base "_law_plus" 3 ["_law_prime_here","_law_one","_law_other"] (HJ λ_ x y=>x+y):=by
 refine Zp.has_okA h Y3 (λ_ _ _ _ h=>by obtain ⟨_,_,_,_,_,rfl,_⟩:=h;rfl)<|λf C A m s H G Q E D h=>?_;obtain ⟨B,u,v,x,y,rfl,g,i,j,d,k⟩:=h;refine (_,(AQ (BX (BK BO (pv 0) Aj<|Bn _) (Az<|A7<|BJ c D (by rfl)<|Ag (Ar Bw (Ar BM (AY A6 (pv 1) Aj<|λ_ _=>rfl)<|AY A6 (pv 2) Aj<|λ_ _=>rfl)<|Ar BM (AY A6 (pv 2) Aj<|λ_ _=>rfl)<|AY A6 (pv 1) Aj<|λ_ _=>rfl)<|Ag (Ar BM (AY A6 (pv 1) Aj<|λ_ _=>rfl)<|AY A6 (pv 2) Aj<|λ_ _=>rfl) An) BW)
  (Az<|A7<|Ar D0 (Ar Bw (pv 1)<|pv 2)<|pv 0)),?_)
 refine (_,rfl,rfl,_,rfl,?_)
 cases B with
 |q =>
  obtain ⟨a,rfl,l⟩:=g;obtain ⟨b,rfl,o⟩:=i;refine MK (show KX.q.P=0 from rfl) ?_;have F:=(Cn x).pos;have z:=(Cn y).pos;refine (_,rfl,a,_,0,_,rfl,rfl,AI.of l,rfl,_,rfl,b,_,1,_,rfl,rfl,AI.of o,rfl,_,_,rfl,rfl,j.1.mulG d.2,_,rfl,b,_,0,_,rfl,rfl,AI.of o,rfl,_,rfl,a,_,1,_,rfl,rfl,AI.of l,rfl,_,_,rfl,rfl,d.1.mulG j.2,_,_,rfl,rfl,_,rfl,a,_,1,_,rfl,rfl,AI.of l,rfl,_,rfl,b,_,1,_,rfl,rfl,AI.of o,rfl,_,_,rfl,rfl,(j.2.up ∅).mulG d.2,_,_,rfl,Wk F z,(j.2.times d.2),λr t=>?_);have e:x+y=Rat.divInt (x.num*y.den+y.num*x.den) ((x.den:Int)*y.den):=by
   rw[<-sX _ _ ⋯ ⋯,W4,W4]
  refine k _ _ (Bg t _) (r,rfl,?_);rw[A4];rw[e]
 |r p n =>
  have g:=g;have i:=i;subst g i;refine Oq (show (KX.r p n).P≠0 by have:0<(KX.r p n).P:=JJ;omega) (_,rfl,_,rfl,_,_,rfl,rfl,_,rfl,_,_,rfl,rfl,(show (p:Int)≠0 by have:=n.two;omega),k H _ (Ad.refl H) ?_);show V.int (((x.val:Int)+y.val).fmod p)=V.int ((Fin.val (x+y):Nat):Int);have e:Fin.val (x+y)=(x.val+y.val)%p:=Fin.val_add x y;rw[e,U5,Ua,Wr _ ⋯]
theorem C5:Aa ["_law_cell","_law_k","_law_one"] ["_law_cell","_law_k"] (Ao L8):=‹2›
theorem Zr(h:Ae K mg "_law_mixed" L8):AF P w K mg base "_law_mixed" 1 ["_law_cell","_law_k"] MV:=by
 refine Zp.has_okA h C5 (λ_ _ _ _ h=>by obtain ⟨_,_,rfl,_⟩:=h;rfl)<|λf e A a s H n Q E l h=>?_;obtain ⟨c,j,rfl,m,k⟩:=h;have b:=C5.nd;refine (_,(AQ (Bv (i:=2) b rfl (Or.inl rfl)<|Ar BU (Ar Fj (Ar Bw (Ar Bw (Ar BU (pv 0) Aj)<|Ar BM (Ar Fj Aj<|pv 1)<|pv 1)<|Ar Fj Aj<|pv 1) Aj) Aj)
  (Az<|A7<|Ar BU (Ar BM (pv 2)<|Ar Bw (Ar Bw (Ar BU (pv 2) Aj)<|Ar Fj Aj<|pv 1) Aj) Aj)),?_)
 have d:((40503:Int)*j).natAbs<=10^150:=Q0 (show _<=100000000 by omega) ∅;have g:j.natAbs<=10^150:=Q0 (show _<=100000000 by omega) ∅;refine (_,rfl,_,_,rfl,rfl,∅,_,rfl,_,_,rfl,rfl,.inl (∅,∅),_,rfl,_,_,rfl,rfl,Di d g,_,_,rfl,rfl,_,rfl,_,_,rfl,rfl,.inl (∅,∅),_,_,rfl,rfl,_,_,rfl,rfl,.inr (∅,∅),_,_,rfl,rfl,∅,?_);refine (_,rfl,_,rfl,_,_,rfl,rfl,∅,_,rfl,_,_,rfl,rfl,.inl (∅,∅),_,_,rfl,rfl,_,_,rfl,rfl,_,_,rfl,rfl,?_,_,_,rfl,rfl,∅,?_)
 ·refine Di ?_ ?_
  ·exact Q0 (show _<=10000000000 by omega) ∅
  ·exact Q0 (show _<=10000000000 by omega) ∅
 ·exact k _
theorem o7:Aa ["_law_prime_here","_law_number"] ["_law_prime_here","_law_number"] (Ao NB):=‹2›
theorem bX(h:Ae K mg "_law_drawn" NB) (a:AF P w K mg base "_law_fraction" 2 ["_law_top","_law_bottom"] HD):AF P w K mg base "_law_drawn" 3 ["_law_prime_here","_law_number"] MH:=by
 refine Zp.has_okA h o7 (λ_ _ _ _ h=>by obtain ⟨_,_,rfl,_⟩:=h;rfl)<|λf G A b s H M Q E I h=>?_;obtain ⟨B,c,rfl,k⟩:=h;refine (_,(AQ (BX (BK Eu (pv 0) Aj<|Bn _) (Az<|A7<|AY FN (Jb<|Ag Aj<|Ag Aj<|Ag (Ar Cu (pv 0) Aj)<|Ag (Ar D0 (Ar DS (pv 1) Aj)<|pv 0) An) (Ar BU (pv 1) Aj)<|λ_ _=>rfl) BW)
  (AQ (BX (BK BO (Ar BU (pv 1) Aj) Aj<|Bn _) (Az<|A7<|DI<|Ag (Ar Cu (Ar BU (Ar DS (pv 1) Aj) Aj) Aj)<|Ag Aj An) BW)
  (Az<|A7<|BJ a I (by rfl)<|Ag (Ar Cu (Ar BU (Ar DS (pv 1) Aj) Aj) Aj)<|Ag (Ar Bw Aj<|Ar BU (Ar DS (pv 1) Aj) Aj) An))),?_)
 refine (_,rfl,_,_,rfl,rfl,_,rfl,?_)
 cases B with
 |r p i =>
  have L:=i.two;refine KL (show (0:Int)<(KX.r p i).P from JJ) (_,rfl,_,_,rfl,rfl,_,rfl,_,_,rfl,rfl,(∅,∅),_,rfl,_,_,rfl,rfl,(show (p:Int)≠0 by omega),(by show 4<=sizeLine;decide),λl C=>?_);obtain ⟨o,u⟩:=Zg i<|c/4;have g:∃(v:V) (x:Fin p),CC [V.int 0,V.int 1,V.int<|(p:Int)-1,V.int<|(c/4).fmod p] (c%4)=some v/\v = .int (x.val:Int):=by
   rcases (by omega:c%4=0\/c%4=1\/c%4=2\/c%4=3) with e|e|e|e <;> rw[e]
   ·exact (_,(0,⋯),rfl,rfl)
   ·exact (_,(1,⋯),rfl,rfl)
   ·exact (_,(p-1,⋯),rfl,by show V.int ((p:Int)-1)=V.int (((p-1:Nat)):Int);congr 1;omega)
   ·exact (_,o,rfl,by rw[u])
  obtain ⟨v,x,t,D⟩:=g;exact (_,rfl,_,_,rfl,rfl,(by show (0:Int)<_;decide),l,_,_,_,rfl,rfl,AR.of A4,t,k _ v x (Bg C _) D trivial)
 |q =>
  refine V0 (show ¬(0:Int)<0 by decide) ?_;refine (_,rfl,_,_,rfl,rfl,(by show (0:Int)<_;decide),rfl,_,rfl,?_);refine EI (λ_=>?_)<|λ_=>?_
  ·obtain ⟨x,m,j⟩:=IA (n:=c/3%3-1) (d:=1) (∅,by rw[Int.gcd_one]);refine (_,rfl,_,_,rfl,rfl,(∅,∅),_,_,rfl,rfl,(by show (0:Int)<_;decide),_,_,rfl,rfl,(by show 2<=sizeLine;decide),λz y=>?_);have F:x=Rat.divInt (c/3%3-1) 1:=by rw[<-m,<-j,W4]
   refine k _ _ x (Bg y _) (z,rfl,?_) ?_
   ·rw[A4,m,j]
   ·rw[F];exact V7 ∅ ∅ ⋯
  ·refine (_,rfl,_,_,rfl,rfl,(∅,∅),_,_,rfl,rfl,(by show (0:Int)<_;decide),_,_,rfl,rfl,_,rfl,_,_,rfl,rfl,(∅,∅),_,_,rfl,rfl,(by show (0:Int)<_;decide),_,_,rfl,rfl,c/3%19-9,1+c/57%4,rfl,⋯,Ak.of<|Q9 (show _<2^3 by show _<8;omega)<|Q8 ∅ ∅,λr J=>?_);exact k _ _ (Rat.divInt (c/3%19-9)<|1+c/57%4) (Bg J _) (r,rfl,A4)<|V7 ⋯ ⋯ ⋯
theorem DN:Aa ["_law_prime_here","_law_numbers"] ["_law_prime_here","_law_numbers"] (Ao Nb):=‹2›
theorem gG(h:Ae K mg "_law_cut" Nb) (T:Nm mg) (d:AF P w K mg base "_law_make" 1 ["_law_prime_here","_law_number"] Ji):AF P w K mg base "_law_cut" 2 ["_law_prime_here","_law_numbers"] Pj:=by
 refine Zp.has_okA h DN (λ_ _ _ _ h=>by obtain ⟨_,_,_,_,rfl,_⟩:=h;rfl)<|λf Z A t s H vs Q E C h=>?_;obtain ⟨B,a,l,g,rfl,M,D,k⟩:=h;have X:=DN.nd;refine (_,(AQ (Fq q5 (Xb (BK Eu (Cf E7 (by rfl) T.len boot_len<|Ag (pv 1) An) Aj<|Bn _)<|Rb<|BK (OA C) (AY FN (pv 1) (Ar Cu (Cf E7 (by rfl) T.len boot_len<|Ag (pv 1) An) Aj)<|λ_ _=>rfl) (BJ d C (by rfl)<|Ag (pv 0)<|Ag Aj An)<|Bn _).pt<|Az<|Bv (i:=1) X rfl (Or.inl rfl)<|JV JR (pv 1) O2<|Oo<|G6 Hj Aj)
  (Az<|A7<|pv 1)),?_)
 have lx:=D.1;refine (λc I q=>∃(b:Addr) (r:Nat),c=r/\I=[some<|.int B.P,some<|.ref b]/\Ad H q/\q b=some (.lst<|l.take r)/\r<=g.length/\(∀j,r<=j->g.getD j 0=0)/\(b=a\/H b=none),(_,a,g.length,rfl,rfl,Ad.refl _,by rw[<-lx,Uk];exact M,Q4 _,λj J=>?_,.inl rfl),?_)
 ·rw[Q3,U1 J];rfl
 rintro c I q ⟨b,r,rfl,rfl,S,m,o,x,G⟩;have y:(l.take c).length=c:=by rw[Qn];omega
 refine (_,rfl,b,_,rfl,.inl<|AR.of m,_,_,rfl,rfl,_,rfl,?_);rw[y];refine Ex (λz=>?_)<|λz=>?_
 ·have z:=z;obtain ⟨v,Y,R⟩:=Lj D (i:=c-1) ⋯;have u:CC (l.take c) (((l.take c).length:Int)-1)=some v:=by
   rw[y,show (c:Int)-1=((c-1:Nat):Int) by omega];refine FO ?_;rw[Uj,qK ⋯];exact Y
  refine (_,rfl,_,rfl,b,_,rfl,.inl<|AR.of m,_,_,rfl,rfl,b,_,_,v,rfl,rfl,AR.of m,u,_,rfl,B,0,0,rfl,FP,λN v0 S2 O=>?_);obtain ⟨L,U,n⟩:=YD (R.same<|S.trans S2) O;refine (L,U,_,rfl,?_)
  cases L with
  |true =>
   have W:=n.mp rfl;refine FE (_,λ_ _ h=>h,?_);refine (_,rfl,_,rfl,_,rfl,b,_,rfl,AR.of<|S2 _ _ m,λp F=>?_);have ec:FB (l.take c) none (some<|-1)=l.take (c-1):=by
    unfold FB;rw[HT.sIx_none,List.drop_zero,U6,y];have:HT.sIx c c (some<|-1)=c-1:=by
     simp only[HT.sIx]
     rw[qK ∅];omega
    rw[this,List.take_take]
    congr 1
    omega
   refine (c-1,⋯,p,c-1,rfl,rfl,(S.trans S2).trans<|Bg F _,?_,⋯,λj J=>?_,.inr<|(S.trans S2).free F)
   ·rw[A4];exact qW (λz=>some<|HO.lst z) ec
   ·by_cases e:j=c-1
    ·rw[e];exact W
    ·exact x j ⋯
  |false =>
   refine Ek ?_;exact (_,rfl,k N b c (S.trans S2) (S2 _ _ m) o x (.inr λz=>by have:=n.mpr z;cases this) G)
 ·have z:=z;exact (_,rfl,k q b c S m o x (.inl ⋯) G)
theorem BD:Aa ["_law_prime_here","_law_f","_law_g","_law_told","_law_i","_law_j"] ["_law_prime_here","_law_f","_law_g"] (Ao QJ):=‹2›
theorem oX(h:Ae K mg "_law_poly_times" QJ) (T:Nm mg) (g:AF P w K mg base "_law_make" 3 ["_law_prime_here","_law_number"] Ji) (l:AF P w K mg base "_law_plus" 3 ["_law_prime_here","_law_one","_law_other"] (HJ λ_ x y=>x+y)) (e:AF P w K mg base "_law_times" 3 ["_law_prime_here","_law_one","_law_other"] (HJ λ_ x y=>x*y)) (t:AF P w K mg base "_law_cut" 3 ["_law_prime_here","_law_numbers"] Pj):AF P w K mg base "_law_poly_times" 4 ["_law_prime_here","_law_f","_law_g"] NI:=by
 refine Zp.has_okA h BD (λ_ _ _ _ h=>by obtain ⟨_,_,_,_,_,_,_,_,_,_,_,rfl,_⟩:=h;rfl)<|λf b0 A a2 s H vs Q E hr h=>?_;obtain ⟨d,Y,X,xs,ys,F,G,Dd,Ee,M,N,rfl,hF,hG,aF,aG,lF,lG,qF,qG,hD,hE,S,lM,k⟩:=h;have nd:=BD.nd;refine (_,(AQ (KM (i:=3) ["_law_k"] [(0,"_law_prime_here")] nd rfl rfl rfl (KW (by rfl) T.range<|Ag (Ar Bw (Cf E7 (by rfl) T.len boot_len<|Ag (pv 1) An)<|Cf E7 (by rfl) T.len boot_len<|Ag (pv 2) An) An) (by exact λ_ _ _ _=>(CA (i:=0) (show (["_law_k","_law_prime_here"]:List Str).Nodup by decide +kernel) rfl<|Or.inl rfl)) (by exact λ_ _ _ _=>(BJ g hr (by rfl)<|Ag (pv 1)<|Ag Aj An)) ((rfl,rfl,Or.inl rfl),trivial))
  (AQ (Gz q5 rfl (KW (by rfl) T.range<|Ag (Cf E7 (by rfl) T.len boot_len<|Ag (pv 1) An) An) (CA (i:=4) nd rfl<|Or.inl rfl)<|Az<|Gz q5 rfl (KW (by rfl) T.range<|Ag (Cf E7 (by rfl) T.len boot_len<|Ag (pv 2) An) An) (CA (i:=5) nd rfl<|Or.inl rfl)<|Az<|M9 (BJ l hr (by rfl)<|Ag (pv 0)<|Ag (AY FN (pv 3) (Ar Bw (pv 4)<|pv 5)<|λ_ _=>rfl)<|Ag (BJ e hr (by rfl)<|Ag (pv 0)<|Ag (AY FN (pv 1) (pv 4)<|λ_ _=>rfl)<|Ag (AY FN (pv 2) (pv 5)<|λ_ _=>rfl) An) An)<|Rv (pv 3) (Ar Bw (pv 4)<|pv 5) V6)
  (Az<|A7<|BJ t hr (by rfl)<|Ag (pv 0)<|Ag (pv 3) An))),?_)
 have lx:=aF.1;have ly:=aG.1;have L:=Wk hD hE;have bM:F.length*(G.length*(M*N))<2^3000:=lM;have Z:∀ {x y:d.F},QN d Dd M x->QN d Ee N y->1<=F.length->1<=G.length->BL d x/\BL d y/\BL d (x*y):=by
  intro x y hx hy f1 g1;have m1:M*N<=F.length*(G.length*(M*N)):=by
   have a:1*(M*N)<=G.length*(M*N):=W2 _ g1;have b:1*(G.length*(M*N))<=F.length*(G.length*(M*N)):=W2 _ f1;omega
  refine (hx.bL hD S.1 S.2.2.1,hy.bL hE S.2.1 S.2.2.2.1,(QN.mul hx hy).bL L S.2.2.2.2<|Q5 m1 bM)
 refine (_,rfl,Y,_,rfl,.inl<|AR.of hF,_,rfl,X,_,rfl,.inl<|AR.of hG,_,_,rfl,rfl,(xs.length:Int)+(ys.length:Int),rfl,⋯,⋯,?_);rw[show ((xs.length:Int)+(ys.length:Int)).toNat=F.length+G.length by omega];refine pF (lo:=0) (n:=F.length+G.length) (λq c R=>Ad H R/\AT (NR d R) c (List.replicate q 0)) ⋯ (Ad.refl _,.nil) ?_ ?_
 ·rintro q c R _ _ ⟨m,C⟩;refine (_,rfl,d,0,0,rfl,FP,λH5 v0 U n0=>(m.trans U,?_));rw[List.replicate_succ'];exact (C.mono λ_ _ n=>n.same U).append<|.one n0
 rintro c H1 _ ⟨S1,e1⟩ p B;have Sd:=Bg B<|.lst c;have qt:=A4 (H:=H1) (a:=p) (o:=.lst c);have e2:=e1.mono λ_ _ n=>n.same Sd;have W:H p=none:=S1.free B;have S2:=S1.trans Sd;generalize As H1 p (.lst c)=H2 at *;rw[<-gW] at e2;refine (_,rfl,Y,_,rfl,.inl<|AR.of<|S2 _ _ hF,(xs.length:Int),rfl,⋯,⋯,?_);rw[show ((xs.length:Int)).toNat=F.length by omega];refine UD (lo:=0) (n:=F.length) (λi O u=>∃(z4 J:Option V) (c:List V),O=[some<|.int d.P,some<|.ref Y,some<|.ref X,some<|.ref p,z4,J]/\Ad H u/\u p=some (.lst c)/\AT (NR d u) c (CM F G i 0)) (_,_,c,rfl,S2,qt,e2) ?_ ?_
 ·rintro i O u hi ⟨z4,J,c,rfl,S3,q3,e3⟩;refine (_,rfl,X,_,rfl,.inl<|AR.of<|S3 _ _ hG,(ys.length:Int),rfl,⋯,⋯,?_);rw[show ((ys.length:Int)).toNat=G.length by omega];refine UD (lo:=0) (n:=G.length) (λj O u=>∃(J:Option V) (c:List V),O=[some<|.int d.P,some<|.ref Y,some<|.ref X,some<|.ref p,some<|.int<|0+(i:Int),J]/\Ad H u/\u p=some (.lst c)/\AT (NR d u) c (CM F G i j)) (_,c,rfl,S3,q3,e3) ?_ ?_
  ·rintro j O R hj ⟨J,c,rfl,m,q4,C⟩;have lz:=C.1;rw[FJ] at lz;obtain ⟨vt,a1,a9⟩:=Lj C (i:=i+j) (by rw[FJ];omega);obtain ⟨vf,a5,a3⟩:=Lj aF (i:=i) hi;obtain ⟨vg,a6,a7⟩:=Lj aG (i:=j) hj;have mt:=Ql<|E8 (show i+j<(CM F G i j).length by rw[FJ];omega);have bt:BL d ((CM F G i j).getD (i+j) 0):=(oU L qF qG hi ⋯ _ mt).bL L S.2.2.2.2 bM;obtain ⟨bf,bg,a4⟩:=Z (qF _<|Ql<|E8 hi) (qG _<|Ql<|E8 hj) ⋯ ⋯;have a0:(0+(i:Int))+(0+(j:Int))=((i+j:Nat):Int):=⋯;refine (_,rfl,_,rfl,_,rfl,_,rfl,_,_,rfl,rfl,p,_,_,_,rfl,rfl,AR.of q4,(by rw[a0];exact FO a1),_,rfl,_,rfl,_,rfl,Y,_,_,_,rfl,rfl,AR.of<|m _ _ hF,(by rw[Int.zero_add];exact FO a5),_,rfl,_,rfl,X,_,_,_,rfl,rfl,AR.of<|m _ _ hG,(by rw[Int.zero_add];exact FO a6),d,vf,vg,_,_,rfl,a3.same m,a7.same m,bf,bg,λH5 vp U np=>?_);refine (d,vt,vp,_,_,rfl,a9.same U,np,bt,a4,λH6 v S6 nv=>?_);have I:=U.trans S6;have q6:=I _ _ q4;refine (_,rfl,_,rfl,_,rfl,_,_,rfl,rfl,p,c,_,_,rfl,rfl,q6,(by rw[a0];exact jR (Int.natCast_nonneg _) ⋯),?_);rw[Ui];have O7:Off [p] H6 (As H6 p<|.lst<|c.set (i+j) v):=XT<|Ad.refl H6;refine (_,c.set (i+j) v,rfl,Off.same O7 (m.trans I) (λz hz=>by rw[Qf.mp hz];exact W),A4,?_);rw[cI hi hj];exact (C.mono λ_ _ n=>(n.same I).off q6 O7).set _<|nv.off q6 O7
  ·rintro O R ⟨J,c,rfl,m,q4,C⟩;rw[hY] at C;exact (_,_,c,rfl,m,q4,C)
 ·rintro O u ⟨z4,J,c,rfl,S3,q3,e3⟩;refine (_,rfl,_,rfl,d,p,c,_,rfl,q3,e3,λR D r m a8 lr h0 h1 fD=>?_);rw[FJ] at lr;refine k R D _ r (S3.trans m) a8 (oQ (e3.mono λ_ _ n=>n.same m) r) lr h0 h1 ?_;rcases fD with rfl|fD
  ·exact W
  ·exact S3.free fD
end
end Lake.My
namespace Lake.Zp
open My
open PySem L2 PyProof.Rows
variable{Z:Zc}{X:Cx}{P:Program}{w:World}{K:Ac}{mg:Ai}{base:Heap}{cF:Addr}
theorem Af.three{p q r:PV}(h:Af Z H [p,q,r] us):∃u v t,us=[u,v,t]/\Rep Z H p u/\Rep Z H q v/\Rep Z H r t:=by
 unfold Af at h;obtain ⟨u,r,e,a,t⟩:=h;obtain ⟨v,t,c,d,b⟩:=t.two;exact (u,v,t,by rw[e,c],a,d,b)
inductive GL:ZF
 |mk {Q:AH} {κ:KX} {t:Int} (x:κ.F) (n:Cq κ t x) (q:Q (num κ x)):GL [.int κ.P,.int t] Q
theorem z_lmake{k:Nat}(h:AF P w K mg base "_law_make" k ps Ji):Fn P w K mg base Z "_law_make" k GL :=
 EA h.toX (λps A B f ⟨x,n,q⟩=>(x,n,f _ q)) λO pv e H Q E L r s=>by
  obtain ⟨x,n,q⟩:=s;obtain ⟨u,v,rfl,a,b⟩:=r.two;rw[A3 a,A3 b];exact (_,_,x,rfl,n,λd v S c=>q v d S<|E9 (L.same S) c)
inductive Bp (g:(κ:KX)->κ.F->κ.F->κ.F):ZF
 |mk {Q:AH} {κ:KX} {x y:κ.F} (b1:BL κ x) (b2:BL κ y) (q:Q (num κ (g κ x y))):Bp g [.int κ.P,num κ x,num κ y] Q
theorem z_lop{g:(κ:KX)->κ.F->κ.F->κ.F}(h:AF P w K mg base n k ps (HJ g)):Fn P w K mg base Z n k (Bp g) :=
 EA h.toX (λps A B f ⟨a,b,q⟩=>(a,b,f _ q)) λO pv o H Q E L r s=>by
  obtain ⟨j,l,q⟩:=s;obtain ⟨u,v,t,rfl,c,d,e⟩:=r.three;rw[A3 c];exact (_,v,t,_,_,rfl,D5 d,D5 e,j,l,λm v S i=>q v m S<|E9 (L.same S) i)
inductive Fg (n:Bool):Gv
 |mk {Q:AH} {κ:KX} {x y:κ.F} (q:∀b:Bool,(b=true↔x=y)->Q (.bl (n ^^ b))):Fg n (num κ x) (num κ y) Q
theorem VI{κ:KX}{x y:κ.F}(r1:Rep Z (hide O H) (num κ x) u)(r2:Rep Z (hide O H) (num κ y) v):∃b:Bool,J7 H u v b/\(b=true↔x=y):=by
 have f:=D5 r1;have d:=D5 r2
 cases κ with
 |q =>
  obtain ⟨a,rfl,h⟩:=f;obtain ⟨c,rfl,g⟩:=d;refine (_,.inr (a,c,_,_,_,_,rfl,rfl,h,g,rfl),?_);rw[sN,qT,qT];exact (λ⟨a,b⟩=>Rat.ext a ⋯,λe=>by rw[e];exact (rfl,rfl))
 |r p i =>
  have f:=f;have d:=d;refine (_,.inl (_,_,f,d,rfl),?_);rw[qT];exact (λe=>Fin.ext ⋯,λe=>by rw[e])
theorem UB:LR Z Md (Fg false):=(λp q A B f ⟨h⟩=>⟨λb e=>f _<|h b e⟩,λO H p q x y Q _ a c k=>by
 obtain ⟨k⟩:=k;obtain ⟨b,e,i⟩:=VI a c;have:=k b i _ H BI D2;rw[Bool.false_xor] at this;exact (b,e,this))
theorem oE:LR Z OG (Fg true):=(λp q A B f ⟨h⟩=>⟨λb e=>f _<|h b e⟩,λO H p q x y Q _ a c k=>by
 obtain ⟨k⟩:=k;obtain ⟨b,e,i⟩:=VI a c;have:=k b i _ H BI D2;rw[Bool.true_xor] at this;exact (b,e,this))
section
variable{p p2 pos:Pos}{e:Expr}{te:ZE}
abbrev kU(te:ZE):ZE:=λa Q=>te a λp=>match p with
 | .tup _=>Q<|.bl true
 |_=>False
abbrev eZ(te:ZE):ZE:=λa Q=>te a λp=>match p with
 | .lst _=>Q<|.bl true
 |_=>False
theorem n5(t:X.mg "isinstance"=none) (n:X.mg "tuple"=none) (h:QE Z X e te) (m:Gl X "isinstance":= by rfl) (c:Gl X "tuple":= by rfl) (g:starEach [e,.Name "tuple" p2] X.env=(false,eval e X.env)::starEach [.Name "tuple" p2] X.env:=by rfl):QE Z X (.Call (.Name "isinstance" p) [e,.Name "tuple" p2] [] pos) (kU te) :=
 (λb _ _ f q=>h.mo b _ _ (λp k=>by
  split at k
  ·exact f _ k
  ·exact k.elim) q,λi o=>BZ (Cf Hu m t qZ (Ag (h.ok i o) (Ag (DU c n boot_tuple) An) g) ∅ ∅ g rfl) λx H Q ⟨O,b,s,q⟩=>(O,b,s,h.mo b _ _ (λp k v r l d=>by
  split at k
  ·unfold Rep at d;obtain ⟨a,u,rfl,j,_⟩:=d;exact (_,_,_,true,rfl,.tup<|hide_le _ _ j,Gg _ _,k _ r l D2)
  ·exact k.elim) q))
theorem iU(t:X.mg "isinstance"=none) (n:X.mg "list"=none) (h:QE Z X e te) (m:Gl X "isinstance":= by rfl) (c:Gl X "list":= by rfl) (g:starEach [e,.Name "list" p2] X.env=(false,eval e X.env)::starEach [.Name "list" p2] X.env:=by rfl):QE Z X (.Call (.Name "isinstance" p) [e,.Name "list" p2] [] pos) (eZ te) :=
 (λb _ _ f q=>h.mo b _ _ (λp k=>by
  split at k
  ·exact f _ k
  ·exact k.elim) q,λi o=>BZ (Cf Hu m t qZ (Ag (h.ok i o) (Ag (DU c n boot_list) An) g) ∅ ∅ g rfl) λx H Q ⟨O,b,s,q⟩=>(O,b,s,h.mo b _ _ (λp k v r l d=>by
  split at k
  ·unfold Rep at d;obtain ⟨a,u,rfl,j,_⟩:=d;exact (_,_,_,true,rfl,.lst<|hide_le _ _ j,Gg _ _,k _ r l D2)
  ·exact k.elim) q))
end
end Lake.Zp
namespace Lake.My
open PySem L2 PyProof.Rows
section
variable{κ:KX}
noncomputable def qlx(r:κ.F)(f:Ab κ):Ab κ:=(List.range<|f.length-1).map λi=>Bb r<|f.drop<|i+1
theorem oM(r:κ.F)(f:Ab κ):(qlx r f).length=f.length-1:=by unfold qlx;rw[Q1,Qu]
theorem QQ(r:κ.F)(f:Ab κ)(i:Nat):(qlx r f).getD i 0=Bb r (f.drop<|i+1):=by
 unfold qlx;rw[Q3,Q7]
 by_cases h:i<f.length-1
 ·rw[Ww h];rfl
 ·rw[U1 (by rw[Qu];omega),sT ⋯];rfl
theorem nM(x:κ.F)(f:Ab κ)(k:Nat):Bb x (f.drop k)=f.getD k 0+x*Bb x (f.drop<|k+1):=by
 by_cases h:k<f.length
 ·exact KR x f h
 ·rw[sT ⋯,sT ⋯,BF ⋯];show (0:κ.F)=0+x*0;grind
theorem YQ(r:κ.F)(f:Ab κ):sr f=sr (qlx r f)*lx r+cn (Bb r f):=Rg.Ps.ext λk=>by
 rw[Rg.Ps.c_add,CO,AM];have e:=nM r f k
 cases k with
 |zero =>
  rw[qK rfl,show sr (qlx r f)*lx r=lx r*sr (qlx r f) by grind,FL,qK rfl,AM,QQ];have e:=e;grind
 |succ k =>
  rw[qI ⋯,T5,AM,AM,QQ,QQ];grind
theorem Tk.qlx{f g:Ab κ}{r:κ.F}(h:Tk f r k g)(z:Bb r g=0):Tk f r (k+1) (My.qlx r g)/\(My.qlx r g).length<g.length :=
 h.next (q:=My.qlx r g) (by
  rw[Ht];have e:=YQ r g;rw[z,Ef] at e;exact e,by show 0<=1;decide,.inl rfl,oM r g)
theorem Ie{D M:Nat}{x:κ.F}(h:QN κ (D:Int) M x)(c:0<D)(a:D<2^3000)(b:M<2^3000):BL κ x:=h.bL ⋯ (by rw[Qa];exact a) b
structure Vz (κ:KX) (D E M N:Nat) (n:Nat):Prop where
 d0:0<D
 e0:0<E
 eN:E<=N
 bD:D*E^(n+1)<2^3000
 bM:n*(M*N^n)*N<2^3000
theorem Vz.val{f:Ab κ}{r:κ.F}(z:Vz κ D E M N n)(b:QN κ (E:Int) N r)(g:∀x∈f,QN κ (D:Int) M x)(l:f.length<=n)(k:Nat):BL κ (Bb r<|f.drop k)/\BL κ (Bb r (f.drop k)*r):=by
 have q:=LX (W:=N) b z.d0 z.e0 (Q4 N) z.eN (f.drop k) λa h=>g a<|List.mem_of_mem_drop h;have e:(f.drop k).length<=n:=by rw[W6];omega
 have d:0<N:=Q9 z.e0 z.eN;generalize (f.drop k).length=t at *;have m:t*(M*N^t)<=n*(M*N^n):=Qk e<|Qq _<|Q8 d e;have p:n*(M*N^n)<=n*(M*N^n)*N:=Uu _ d;have i:=z.bM;have o:D*E^t<=D*E^(n+1):=Qq _<|Q8 z.e0 ⋯;have j:D*E^t*E<=D*E^(n+1):=by
  rw[W8,<-W5];exact Qq _<|Q8 z.e0 ⋯
 refine (Ie q (Qg z.d0<|Qw z.e0) (Q5 o z.bD) ⋯,?_);have c:=q.mul b;rw[<-W3] at c;exact Ie c (Qg (Qg z.d0<|Qw z.e0) z.e0) (Q5 j z.bD)<|Q5 (W2 _ m) i
end
end Lake.My
namespace Lake.Zp
open My
open PySem L2 PyProof.Rows
variable{Z:Zc}{X:Cx}{P:Program}{w:World}{K:Ac}{mg:Ai}{base:Heap}{cN:Addr}
inductive Dq:ZF
 |mk {Q:AH} {κ:KX} {f:Ab κ} {x:κ.F} (l:f.length<=1000) (bf:∀z∈f,BL κ z) (bx:BL κ x) (bv:∀k,BL κ (Bb x (f.drop k))/\BL κ (Bb x (f.drop k)*x)) (q:Q (num κ (Bb x f))):Dq [.int κ.P,nums κ f,num κ x] Q
theorem CQ:Aa ["_law_prime_here","_law_f","_law_number","_law_told","_law_k"] ["_law_prime_here","_law_f","_law_number"] (Ao LY):=‹2›
theorem z_lval(h:Ae K mg "_law_value" LY) (T:Nm mg) (b:Fn P w K mg base Z "_law_make" 3 GL) (c:Fn P w K mg base Z "_law_plus" 3 (Bp λ_ x y=>x+y)) (a:Fn P w K mg base Z "_law_times" 3 (Bp λ_ x y=>x*y)):Fn P w K mg base Z "_law_value" 4 Dq:=by
 have g:=CQ.nd;refine Cg h CQ (λ_ _ _ _ _ _ _ v =>
  (Ap (AE 3 g<|AD b<|Aw (qv 0) Ah)
  (Ap (D3 [4] (GD T.range<|Ci T.len<|qv 1) (Eg 4 g)<|AK<|AE 3 g<|AD c<|BG (qv 0) (AD a<|BG (qv 0) (qv 3)<|qv 2)<|A8 (qv 1)<|AA Cu li (AA Cu li (Ci T.len<|qv 1) Ah)<|qv 4)
  (AK<|Bk<|qv 3)))) ?_
 rintro _ Q ⟨l,u,o,j,q⟩
 rename_i d f x
 have n:=Cb f;refine (0,FP,⋯,⋯,(λt m=>m=[some<|.val<|.int d.P,some<|.val<|nums d f,some<|.val<|num d x,some<|.val<|num d<|Bb x<|f.drop<|f.length-t,none],?_,?_,?_))
 ·rw[U6,sP];rfl
 ·rintro t p _ i rfl;obtain ⟨i,rfl⟩:=EQ i;have i:t<f.length:=⋯;obtain ⟨r,s⟩:=j<|f.length-t;refine (r,o,_,by rw[show ((f.map<|num d).length:Int)-1-(0+(t:Int))=((f.length-(t+1):Nat):Int) by omega];exact E4 ⋯,(s,u _ ?_,?_))
  ·rw[Q3,Q6 ⋯];exact W7 _
  ·have e:=KR x f (k:=f.length-(t+1)) ⋯;rw[show f.length-(t+1)+1=f.length-t by omega] at e;rw[e];generalize f.getD (f.length-(t+1)) 0=y;rw[show y+x*Bb x (f.drop<|f.length-t)=Bb x (f.drop<|f.length-t)*x+y by grind]
 ·rintro _ rfl;rw[DF,n,show f.length-((f.length:Nat):Int).toNat=0 by omega];exact q
inductive CK:ZF
 |mk {Q:AH} {κ:KX} {f:Ab κ} {x:κ.F} (l:f.length<=900) (l1:1<=f.length) (bf:∀z∈f,BL κ z) (bx:BL κ x) (bv:∀k,BL κ (Bb x (f.drop k))/\BL κ (Bb x (f.drop k)*x)) (q:Q (nums κ (qlx x f))):CK [.int κ.P,nums κ f,num κ x] Q
theorem Do:Aa ["_law_prime_here","_law_f","_law_number","_law_told","_law_last","_law_k"] ["_law_prime_here","_law_f","_law_number"] (Ao Nu):=‹2›
theorem z_lless(h:Ae K mg "_law_less" Nu) (T:Nm mg) (b:Fn P w K mg base Z "_law_make" 3 GL) (c:Fn P w K mg base Z "_law_plus" 3 (Bp λ_ x y=>x+y)) (a:Fn P w K mg base Z "_law_times" 3 (Bp λ_ x y=>x*y)):Fn P w K mg base Z "_law_less" 4 CK:=by
 have g:=Do.nd;refine Cg h Do (λ_ _ _ _ _ _ _ B =>
  (Ap (AE 3 g<|QL.toE<|Cs EM)
  (Ap (AE 4 g<|AD b<|Aw (qv 0) Ah)
  (Ap (D3 [5] (GD T.range<|AA Cu li (Ci T.len<|qv 1) Ah) (Eg 5 g)<|Ap (AE 4 g<|AD c<|BG (qv 0) (AD a<|BG (qv 0) (qv 4)<|qv 2)<|A8 (qv 1)<|AA Cu li (AA Cu li (Ci T.len<|qv 1) Ah)<|qv 5)
   (AK<|AE 3 g<|QL.toE<|GW (QL.toE<|Cs<|By<|qv 4)<|qv 3))
  (AK<|Bk<|qv 3))))) ?_
 rintro _ Q ⟨l,C,z,s,m,q⟩
 rename_i d f x
 have r:=Cb f;refine (by show 0<=1000;decide,0,FP,⋯,⋯,(λt n=>t<=f.length-1/\n=[some<|.val<|.int d.P,some<|.val<|nums d f,some<|.val<|num d x,some<|.val<|nums d<|(List.range t).map λi=>Bb x<|f.drop<|f.length-t+i,some<|.val<|num d<|Bb x<|f.drop<|f.length-t,none],?_,?_,?_))
 ·refine (Qe _,?_);rw[U6,sP];rfl
 ·rintro t p _ j ⟨-,rfl⟩;obtain ⟨j,rfl⟩:=EQ j;have j:t<f.length-1:=⋯;obtain ⟨u,v⟩:=m<|f.length-t;refine (u,s,_,by rw[show ((f.map<|num d).length:Int)-1-(0+(t:Int))=((f.length-(t+1):Nat):Int) by omega];exact E4 ⋯,(v,z _ ?_,?_))
  ·rw[Q3,Q6 ⋯];exact W7 _
  ·have e:=KR x f (k:=f.length-(t+1)) ⋯;rw[show f.length-(t+1)+1=f.length-t by omega] at e;have o:Bb x (f.drop<|f.length-t)*x+f.getD (f.length-(t+1)) 0=Bb x (f.drop<|f.length-(t+1)):=by
    rw[e];generalize f.getD (f.length-(t+1)) 0=y;grind
   have A:((List.range<|t+1).map λi=>Bb x<|f.drop<|f.length-(t+1)+i)=Bb x (f.drop<|f.length-(t+1))::(List.range t).map λi=>Bb x (f.drop<|f.length-t+i):=by
    rw[List.range_succ_eq_map,Us,List.map_map]
    congr 1
    refine rN λi _=>?_;show Bb x (f.drop<|f.length-(t+1)+(i+1))=_;rw[show f.length-(t+1)+(i+1)=f.length-t+i by omega]
   refine (by show 1<=1000;decide,?_);refine (by rw[Q1,Q1,Qu];show 1+t<=1000;omega,⋯,?_);rw[A];show _=[_,_,_,some<|Sl.val<|.lst (num d (Bb x<|f.drop<|f.length-(t+1))::_),some<|Sl.val<|num d<|Bb x<|f.drop<|f.length-(t+1),none];rw[<-o]
   rfl
 ·rintro _ ⟨-,rfl⟩;rw[DF,r];have:(((f.length:Nat):Int)-1).toNat=f.length-1:=⋯;show Q (nums d _);rw[this,show f.length-(f.length-1)=1 by omega];have e:qlx x f=(List.range<|f.length-1).map λi=>Bb x (f.drop<|1+i):=by
   unfold qlx;refine rN λi _=>?_;rw[Nat.add_comm]
  rw[<-e];exact q
inductive Ep:ZF
 |mk {Q:AH} {κ:KX} {f:Ab κ} {r:κ.F} {D E M N:Nat} (tf:Bj f) (l1:1<=f.length) (l8:f.length<=8) (br:BL κ r) (qr:QN κ (E:Int) N r) (hb:∀k g,Tk f r k g->∀x∈g,QN κ (D:Int) M x/\BL κ x) (vz:Vz κ D E M N f.length) (q:∀g,Q (.tup [.int ((DX (sr f) r:Nat):Int),nums κ g])):Ep [.int κ.P,nums κ f,num κ r] Q
theorem Cy:Aa ["_law_prime_here","_law_f","_law_number","_law_times_here"] ["_law_prime_here","_law_f","_law_number"] (Ao O5):=‹2›
theorem z_lrd(h:Ae K mg "_law_rooted" O5) (T:Nm mg) (i:Fn P w K mg base Z "_law_make" 4 GL) (a:Fn P w K mg base Z "_law_value" 4 Dq) (d:Fn P w K mg base Z "_law_less" 4 CK):Fn P w K mg base Z "_law_rooted" 5 Ep:=by
 have v:=Cy.nd;refine Cg h Cy (λ_ _ _ _ _ _ _ I =>
  (Ap (AE 3 v Ah)
  (Ap (Hg [] (QW.t<|Hc (Ch Eu lb (Ci T.len<|qv 1) Ah)<|HX<|Ch (OA I) UB (AD a<|BG (qv 0) (qv 1)<|qv 2)<|AD i<|Aw (qv 0) Ah)<|Ap (AE 1 v<|AD d<|BG (qv 0) (qv 1)<|qv 2)
   (AK<|AE 3 v<|AA Bw li (qv 3) Ah))
  (AK<|Bk<|CH<|Aw (qv 3)<|qv 1)))) ?_
 rintro _ Q ⟨C,J,U,p,F,A,S,q⟩
 rename_i n f r D E M N
 refine (λm G=>∃(k:Nat) (g:Ab n),m=g.length/\Tk f r k g/\G=[some<|.val<|.int n.P,some<|.val<|nums n g,some<|.val<|num n r,some<|.val<|.int (k:Int)],f.length,(0,f,rfl,(by show _=1*_;grind,rfl,C,J),rfl),?_);rintro _ _ ⟨k,g,rfl,l,rfl⟩;have W:=Cb g;have Y:=l.l;have L:=l.l1;have s:Bb r g≠0->Q (.tup [.int (k:Int),nums n g]):=λH=>by
  have:=q g;rw[Oe (sr g,_,Fs.sr g,l.e,Es r g,H)] at this;exact this
 have y:=λj=>S.val F (λx u=>(A k g l x u).1) ⋯ j;have B:=λx u=>(A k g l x u).2;refine Zp.br (λz=>?_) λz=>(by show 2<=1000;decide,s ?_)
 ·refine Dq.mk ⋯ B p y (0,FP,Fg.mk λb o=>?_)
  cases b with
  |true =>
   obtain ⟨t,R⟩:=l.qlx<|o.mp rfl;exact CK.mk ⋯ ⋯ B p y ((qlx r g).length,R,k+1,qlx r g,rfl,t,rfl)
  |false=>exact (by show 2<=1000;decide,s λe=>by cases o.mpr e)
 ·have z:¬(1:Int)<((g.map<|num n).length:Int):=z;obtain ⟨c,rfl⟩:∃c,g=[c]:=rW.mp ⋯;have O:c≠0:=F7 l.t (by show 1≠0;decide);intro e;have e:c+r*0=0:=e;exact O (by grind)
end Lake.Zp
namespace Lake.My
open PySem L2 PyProof.Rows
section
variable{κ:KX}
theorem eW(F G:Ab κ):sr (CM F G F.length 0)=sr F*sr G:=Rg.Ps.ext λk=>by
 rw[G7,AM]
 by_cases h:k<F.length+G.length
 ·rw[RN h];show pO F G F.length k+0=_;generalize pO F G F.length k=z;grind
 ·rw[BF (by rw[FJ];omega),Rq ⋯]
theorem oI{f:Ab κ}{r:Nat}(a:∀j,r<=j->f.getD j 0=0):sr (f.take r)=sr f:=Rg.Ps.ext λk=>by rw[AM,AM,Hv a]
def F2(κ:KX)(x:κ.F):Prop:=∃d:Nat,0<d/\d<=1000/\QN κ (d:Int) (10^12) x
end
end Lake.My
namespace Lake.Zp
open My
open PySem L2 PyProof.Rows
variable{Z:Zc}{X:Cx}{P:Program}{w:World}{K:Ac}{mg:Ai}{base:Heap}{cN:Addr}
inductive Dt:ZF
 |mk {Q:AH} {c j:Int} (j9:j.natAbs<=1000) (q:∀m:Int,Q (.int m)):Dt [.int c,.int j] Q
theorem z_lmix{k:Nat}(h:AF P w K mg base "_law_mixed" k ps MV):Fn P w K mg base Z "_law_mixed" k Dt :=
 EA h.toX (λps A B f ⟨a,q⟩=>(a,λm=>f _<|q m)) λO pv e H Q E L r s=>by
  obtain ⟨d,q⟩:=s;obtain ⟨u,v,rfl,b,c⟩:=r.two;rw[A3 b,A3 c];exact (_,_,rfl,d,λm=>q m _ H BI rep_i)
inductive CS:ZF
 |mk {Q:AH} {κ:KX} {c:Int} (q:∀x:κ.F,QN κ 12 108 x->Q (num κ x)):CS [.int κ.P,.int c] Q
theorem z_ldr{k:Nat}(h:AF P w K mg base "_law_drawn" k ps MH):Fn P w K mg base Z "_law_drawn" k CS :=
 EA h.toX (λps A B f ⟨q⟩=>⟨λx h=>f _<|q x h⟩) λO pv e H Q E L r s=>by
  obtain ⟨q⟩:=s;obtain ⟨u,v,rfl,a,b⟩:=r.two;rw[A3 a,A3 b];exact (_,_,rfl,λd v x S n c=>q x c v d S<|E9 (L.same S) n)
inductive BP:ZF
 |mk {Q:AH} {t b:Int} (b0:0<b) (bb:Ak 8000 b) (q:Q (num .q (show KX.q.F from Rat.divInt t b))):BP [.int t,.int b] Q
theorem z_lfr{k:Nat}(h:AF P w K mg base "_law_fraction" k ps HD):Fn P w K mg base Z "_law_fraction" k BP :=
 EA h.toX (λps A B f ⟨a,b,q⟩=>(a,b,f _ q)) λO pv j H Q E L r s=>by
  obtain ⟨g,i,q⟩:=s;obtain ⟨u,v,rfl,d,e⟩:=r.two;rw[A3 d,A3 e];exact (_,_,rfl,g,i,λr c=>q _ _ (Bg c _)<|E9 (L.same<|Bg c _) (r,rfl,A4))
inductive Bu:ZF
 |mk {Q:AH} {κ:KX} {F G:Ab κ} {D E M N:Nat} (lF:F.length<=100) (lG:G.length<=100) (qF:∀x∈F,QN κ (D:Int) M x) (qG:∀x∈G,QN κ (E:Int) N x) (d0:0<D) (e0:0<E) (d1:D<2^1000) (e1:E<2^1000) (m1:M<2^1000) (n1:N<2^1000) (q:∀R,Bj R->sr R=sr F*sr G->R.length<=F.length+G.length->Q (nums κ R)):Bu [.int κ.P,nums κ F,nums κ G] Q
theorem z_lptl{k:Nat}(h:AF P w K mg base "_law_poly_times" k ps NI):Fn P w K mg base Z "_law_poly_times" k Bu :=
 EA h.toX (λps A B f ⟨a1,a2,Y,a4,a5,a6,a7,a8,a9,g,q⟩=>(a1,a2,Y,a4,a5,a6,a7,a8,a9,g,λR a b c=>f _<|q R a b c)) λO pv vs H Q E' L r s=>by
  obtain ⟨C,T,qF,qG,d0,e0,W,U,I,J,q⟩:=s
  rename_i κ F G D E M N
  obtain ⟨u,v,x,rfl,ru,rv,rx⟩:=r.three;rw[A3 ru];obtain ⟨fa,xs,rfl,e,ra⟩:=Db rv;obtain ⟨ga,ys,rfl,m,rb⟩:=Db rx;have d:∀ {n:Nat},n<2^1000->n<2^3000:=λh=>Q9 h<|Q8 ∅ ∅;have t:∀ {a b:Nat},a<2^1000->b<2^1000->a*b<=2^1000*2^1000:=λo j=>Qk (Wf o)<|Wf j;have m2:F.length*(G.length*(M*N))<2^3000:=by
   have:=t I J;have o:=Qk T this;have j:=Qk C o;exact Q5 j ‹4›
  refine (κ,fa,ga,xs,ys,F,G,(D:Int),(E:Int),M,N,rfl,hide_le _ _ e,hide_le _ _ m,Jj ra,Jj rb,C,T,qF,qG,⋯,⋯,(by rw[Qa];exact d W,by rw[Qa];exact d U,d I,d J,?_),m2,λy R zs r S hR z lr r0 r1 nR=>?_)
  ·rw[<-W3,Qa];exact Q5 (t W U) ‹4›
  ·refine q _ (IT (by rw[FJ];exact lr) r1) (by rw[oI r0,eW]) (by rw[Qn,FJ];omega) _ y S ?_;have l:hide O y R=some (.lst zs):=by rw[hide_out<|L.new nR];exact hR
   refine ZJ l<|.of (by rw[Q1];exact z.1) λi p u hp hu=>?_;obtain ⟨x,hx,rfl⟩:=mget hp;exact E9 (L.same S)<|z.2 i u x hu hx
inductive CG:ZF
 |mk {Q:AH} {κ:KX} {c:Int} (q:∀x:κ.F,F2 κ x->Q (num κ x)):CG [.int κ.P,.int c] Q
theorem jS:Aa ["_law_prime_here","_law_cell"] ["_law_prime_here","_law_cell"] (Ao ON):=‹2›
theorem z_lroot(h:Ae K mg "_law_root" ON) (a:Fn P w K mg base Z "_law_fraction" 3 BP) (d:Fn P w K mg base Z "_law_drawn" 3 CS):Fn P w K mg base Z "_law_root" 4 CG:=by
 refine Cg h jS (λ_ _ _ _ _ _ _ l =>
  (Ap (El (QW.t<|Hc (Ch BO D9 (qv 0) Ah)<|HX<|Ch BO D9 (AA BU lc (qv 1) Ah) Ah) (AK<|Bk<|AD a<|Aw (AA Cu li (AA BU lc (AA DS lc (qv 1) Ah)<|AA Bw li (AA Fj lc Ah<|AA Jp lc Ah Ah) Ah)<|AA Jp lc Ah Ah)<|AA Bw li Ah<|AA BU lc (AA DS lc (qv 1) Ah) Ah) DM)
  (AK<|Bk<|AD d<|Aw (qv 0)<|qv 1))) ?_
 rintro _ Q ⟨q⟩
 rename_i e c
 have f:CS [.int e.P,.int c] Q:=⟨λx i=>q x (12,∅,∅,i.mono ∅)⟩;refine br (λz=>?_) λz=>f;have z:e.P=0:=z
 cases e with
 |r p g=>exact absurd z (by show ¬(p:Int)=0;have:=g.two;omega)
 |q =>
  refine (by show (0:Int)<6;decide,br (λ_=>?_) λ_=>f);refine ((∅,∅),(∅,∅,∅),.inl (∅,∅),by show (0:Int)<2*10^12+1;decide,(∅,∅,∅),(∅,∅),by show (0:Int)<1000;decide,?_);show BP [.int<|c/6%(2*10^12+1)-10^12,.int<|1+c/48271%1000] Q;have o:=Qv (c/6) (show (2*10^12+1:Int)≠0 by decide);have m:=W0 (c/6) (show (0:Int)<2*10^12+1 by decide);have k:=Qv (c/48271) (show (1000:Int)≠0 by decide);have j:=W0 (c/48271) (show (0:Int)<1000 by decide);generalize c/6%(2*10^12+1)=t at *;generalize c/48271%1000=b at *;refine BP.mk ⋯ (Ak.of (n:=8000)<|Q5 (show (1+b).natAbs<=2^10 by omega)<|Wy ∅ ∅)<|q _ ((1+b).toNat,⋯,⋯,t-10^12,?_,⋯);rw[Uz ⋯]
end Lake.Zp
namespace Lake.My
open PySem L2 PyProof.Rows
theorem RE{a b c:Rat}(f:a<b)(d:b<c):a<c:=Rat.lt_of_le_of_ne (Rat.le_trans (Rat.le_of_lt f)<|Rat.le_of_lt d) λe=>by
 subst e;exact Rat.not_lt.mpr (Rat.le_of_lt d) f
def Eb(l:List KX.q.F):Prop:=l.Pairwise λa b=>(show Rat from a)<(show Rat from b)
theorem eV{l:List KX.q.F}{x:KX.q.F}(h:Eb l)(a:∀y∈l.take j,(show Rat from y)<(show Rat from x))(b:∀y∈l.drop j,(show Rat from x)<(show Rat from y)):Eb (l.take j++[x]++l.drop j):=by
 have f:Eb (l.take j++l.drop j):=by rw[List.take_append_drop];exact h
 obtain ⟨e,g,d⟩:=List.pairwise_append.mp f;refine List.pairwise_append.mpr (List.pairwise_append.mpr (e,List.pairwise_singleton _ _,λy hy z c=>by rw[Qf.mp c];exact a y hy),g,λy hy z c=>?_);rcases Qp.mp hy with hy|hy
 ·exact d y hy z c
 ·rw[Qf.mp hy];exact b z c
theorem VU:∀ {l m:List KX.q.F},Eb l->Eb m->(∀x,x∈l↔x∈m)->l=m
 | [],[],_,_,_=>rfl
 | [],y::m,_,_,h=>nomatch (h y).mpr<|.head _
 |x::l,[],_,_,h=>nomatch (h x).mp<|.head _
 |x::l,y::m,h1,h2,h=>by
  obtain ⟨c,f⟩:=List.pairwise_cons.mp h1;obtain ⟨b,d⟩:=List.pairwise_cons.mp h2;have e:x=y:=by
   rcases Qd.mp ((h x).mp<|.head _) with e|e
   ·exact e
   ·rcases Qd.mp ((h y).mpr<|.head _) with e' |e'
    ·exact e'.symm
    ·exact absurd (RE (b x e)<|c y e') Rat.lt_irrefl
  subst e;refine qW _<|VU f d λz=>(λa=>?_,λa=>?_)
  ·rcases Qd.mp ((h z).mp<|.tail _ a) with e|e
   ·have:=c z a;rw[e] at this;exact absurd this Rat.lt_irrefl
   ·exact e
  ·rcases Qd.mp ((h z).mpr<|.tail _ a) with e|e
   ·have:=b z a;rw[e] at this;exact absurd this Rat.lt_irrefl
   ·exact e
end Lake.My
namespace Lake.Zp
open My
open PySem L2 PyProof.Rows
variable{Z:Zc}{X:Cx}{P:Program}{w:World}{K:Ac}{mg:Ai}{base:Heap}{cN:Addr}
theorem QF{g:List KX.q.F}{i:Nat}(h:i<g.length):CC (g.map<|num .q) (i:Int)=some (num .q<|g[i]'h):=FO (by rw[Q7,Q6 h];rfl)
inductive DC:ZF
 |mk {Q:AH} {us:List KX.q.F} (l:us.length<=100) (sz:∀x∈us,(show Rat from x).num.natAbs<2^1000/\((show Rat from x).den:Int).natAbs<2^1000) (q:∀rs,Eb rs->(∀r,r∈rs↔r∈us)->Q (nums .q rs)):DC [nums .q us] Q
theorem Cz:Aa ["_law_numbers","_law_told","_law_one","_law_at"] ["_law_numbers"] (Ao M6):=‹2›
theorem z_lris(h:Ae K mg "_law_rising" M6) (T:Nm mg):Fn P w K mg base Z "_law_rising" 2 DC:=by
 have o:=Cz.nd;refine Cg h Cz (λ_ _ _ _ _ _ _ R =>
  (Ap (AE 1 o<|QL.toE<|Cs EM)
  (Ap (D3 [2,3] (ED<|qv 0) (Eg 2 o)<|Ap (AE 3 o Ah)
   (Ap (Hg [] (QW.t<|Hc (Ch EW lb (qv 3)<|Ci T.len<|qv 1)<|HX<|Ch EW lb (AA BM lc (A8 (A8 (qv 1)<|qv 3) Ah)<|A8 (qv 2) Ah)<|AA BM lc (A8 (qv 2) Ah)<|A8 (A8 (qv 1)<|qv 3) Ah)<|AK<|AE 3 o<|AA Bw li (qv 3) Ah)
   (AK<|El (QW.t<|HH (Ch BO D9 (qv 3)<|Ci T.len<|qv 1)<|JP<|Ch (XF R) oE (A8 (qv 1)<|qv 3)<|qv 2) (AK<|AE 1 o<|QL.toE<|GW (QL.toE<|GW (QL.toE<|GN (qv 1) GV<|F6<|qv 3)<|QL.toE<|Cs<|By<|qv 2)<|QL.toE<|GN (qv 1) (F6<|qv 3) GV) DM)))
  (AK<|Bk<|qv 1)))) ?_
 rintro _ Q ⟨l,I,q⟩
 rename_i g
 refine (by show 0<=1000;decide,(λi v=>∃a:List KX.q.F,Eb a/\a.length<=i/\(∀r,r∈a↔r∈g.take i)/\v=[some<|.val<|nums .q g,some<|.val<|nums .q a,none,none],([],.nil,Q4 _,(λr=>by simp),rfl),?_,?_))
 ·rintro i p _ S ⟨a,f,lr,d,rfl⟩;obtain ⟨x,A,rfl⟩:=mget S;have il:=(Qr.mp A).1;have U:=Ql A;obtain ⟨nx,N⟩:=I x U;have W:=Cb a;have G:g.take (i+1)=g.take i++[x]:=by rw[Ul,A];rfl
  have sr:∀y∈a,(show Rat from y).num.natAbs<2^1000/\((show Rat from y).den:Int).natAbs<2^1000:=λy hy=>I y<|List.mem_of_mem_take<|(d y).mp hy;rw[ES];refine (λm v=>∃j:Nat,m=a.length-j/\j<=a.length/\(∀y∈a.take j,(show Rat from y)<(show Rat from x))/\v=[some<|.val<|nums .q g,some<|.val<|nums .q a,some<|.val<|.tup [.int (show Rat from x).num,.int (show Rat from x).den],some<|.val<|.int (j:Int)],a.length,(0,rfl,Qe _,(λy hy=>by simp at hy),rfl),?_);rintro _ _ ⟨j,rfl,jl,D,rfl⟩;have stop:(∀c:j<a.length,¬(show Rat from a[j])<(show Rat from x))->(∀c:j<a.length,a[j]≠x)->Eb (a.take j++[x]++a.drop j)/\∀r,r∈a.take j++[x]++a.drop j↔r∈g.take (i+1):=λu L=>by
   refine (eV f D λy hy=>?_,λr=>?_)
   ·have c:j<a.length:=Nat.lt_of_not_le λz=>by rw[sT z] at hy;cases hy
    have E:(show Rat from x)<(show Rat from a[j]):=Rat.lt_of_le_of_ne (Rat.not_lt.mp<|u c) λe=>L c e.symm;rw[sC c] at hy;rcases Qd.mp hy with rfl|hy
    ·exact E
    ·have F:Eb (a.drop j):=f.sublist<|List.drop_sublist _ _;rw[sC c] at F;exact RE E<|(List.pairwise_cons.mp F).1 y hy
   ·rw[G,Qp,Qp,Qp,<-d r];have:r∈a↔r∈a.take j\/r∈a.drop j:=by rw[<-Qp,List.take_append_drop]
    rw[this]
    constructor
    ·rintro ((h|h)|h)
     ·exact .inl (.inl h)
     ·exact .inr h
     ·exact .inl (.inr h)
    ·rintro ((h|h)|h)
     ·exact .inl (.inl h)
     ·exact .inr h
     ·exact .inl (.inr h)
  have skip:(∃c:j<a.length,a[j]=x)->∀r,r∈a↔r∈g.take (i+1):=λ⟨c,e⟩ r=>by
   rw[G,Qp,<-d r]
   constructor
   ·exact .inl
   ·rintro (h|h)
    ·exact h
    ·rw[Qf.mp h,<-e];exact W7 c
  have s:∀k,k=a.take j++[x]++a.drop j->((Da (a.map<|num .q) none (some (j:Int))++[PV.tup [.int (show Rat from x).num,.int (show Rat from x).den]])++Da (a.map<|num .q) (some (j:Int)) none)=k.map (num .q):=λk e=>by
   rw[e,Ku,Il,<-ES,Wp,Wp];rfl
  have M:(a.take j++[x]++a.drop j).length=a.length+1:=by
   rw[Qi,Qi,Qn,W6];show min j a.length+1+_=_;omega
  have t:(Da (a.map<|num .q) none<|some (j:Int)).length=j:=by rw[Ku,Q1,Qn];omega
  have H:(Da (a.map<|num .q) (some (j:Int)) none).length=a.length-j:=by rw[Il,Q1,W6]
  refine Zp.br (λz=>?_) λz=>?_
  ·have c:j<a.length:=by have z:(j:Int)<((a.map<|num .q).length:Int):=z;omega
   obtain ⟨O,Y⟩:=sr _<|W7 c;refine (_,QF c,?_);rw[ES];refine (_,rfl,_,rfl,E6 O N,_,rfl,_,QF c,?_);rw[ES];refine (_,rfl,E6 nx Y,Zp.br (λz=>?_) λz=>?_)
   ·have z:(show Rat from a[j])<(show Rat from x):=(Rat.lt_iff _ _).mpr z;refine (a.length-(j+1),⋯,j+1,rfl,⋯,λy hy=>?_,rfl);rw[Ul,Q6 c] at hy;rcases Qp.mp hy with hy|hy
    ·exact D y hy
    ·rw[Qf.mp hy];exact z
   ·have u:¬(show Rat from a[j])<(show Rat from x):=λy=>z<|(Rat.lt_iff _ _).mp y;refine Zp.br (λn=>?_) λn=>?_
    ·have n:(j:Int)=((a.map<|num .q).length:Int):=n;omega
    ·refine (_,QF c,?_);rw[<-ES];refine Fg.mk λb J=>?_
     cases b with
     |true=>exact (a,f,⋯,skip (c,J.mp rfl),rfl)
     |false =>
      obtain ⟨C,B⟩:=stop (λ_=>u) λ_ e=>by cases J.mpr e
      have e:=s _ rfl;rw[<-ES] at e;refine (by show 1<=1000;decide,by rw[t];show j+1<=1000;omega,by rw[Qi,t,H];show j+1+(a.length-j)<=1000;omega,_,C,⋯,B,?_);rw[e]
  ·have c:j=a.length:=by have z:¬(j:Int)<((a.map<|num .q).length:Int):=z;omega
   refine Zp.br (λn=>?_) λn=>absurd (show (j:Int)=((a.map<|num .q).length:Int) by omega) n;obtain ⟨C,B⟩:=stop (λh=>⋯) λh=>⋯;have e:=s _ rfl;refine (by show 1<=1000;decide,by rw[t];show j+1<=1000;omega,by rw[Qi,t,H];show j+1+(a.length-j)<=1000;omega,_,C,⋯,B,?_);rw[e]
 ·rintro _ ⟨a,f,-,d,rfl⟩;rw[Cb,Uk] at d;exact q a f d
end Lake.Zp
namespace Lake.My
open PySem L2 PyProof.Rows
section
variable{κ:KX}
theorem TW(s t:Sr κ):der (s-t)=der s-der t:=Rg.Ps.ext λk=>by
 rw[Rg.Ps.c_sub,D1,D1,D1,Rg.Ps.c_sub];grind
theorem Mr(m:κ.F):der (cn m)=0:=Rg.Ps.ext λk=>by
 rw[D1,CO,qI ⋯,Rg.Ps.c_zero];grind
theorem Sy(r:κ.F):der (lx r)=1:=by
 have h:=Gm r 1;rw[<-CJ,Mr,CJ] at h;rw[show lx r*1=lx r by grind] at h;rw[h];grind
structure Bf (h:Sr κ) (n:Nat):Prop where
 mn:Bl h n
 cp:Cp h (der h)
 nr:∀r,¬Ev h r 0
theorem Bf.one:Bf (1:Sr κ) 0:=by
 refine ((?_,λk b=>?_),(1,0,Fs.one,Fs.zero,by grind),λr e=>?_)
 ·rw[<-CJ,CO];rfl
 ·rw[<-CJ,CO,qI ⋯]
 ·have a:Ev (1:Sr κ) r 1:=by rw[<-CJ];exact Ev.cn r 1
  exact EZ<|a.one e
theorem TQ(r:κ.F)(t:Sr κ)(k:Nat):(lx r*t).c (k+1)=t.c k-r*t.c (k+1):=by rw[FL,qI ⋯,Wb]
theorem GU{t:Sr κ}(h:Bl t n)(r:κ.F):Bl (lx r*t) (n+1):=by
 refine (?_,λk a=>?_)
 ·rw[TQ,h.1,h.2 (n+1) ⋯];grind
 ·obtain ⟨j,rfl⟩:∃j,k=j+1:=(k-1,⋯);rw[TQ,h.2 j ⋯,h.2 (j+1) ⋯];grind
theorem JN(r:κ.F):Bl (lx r) 1:=by
 have:=GU (n:=0) (t:=(1:Sr κ)) Bf.one.mn r;rw[show lx r*1=lx r by grind] at this;exact this
theorem Xg{t:Sr κ}{n:Nat}(h:Bl t (n+1))(m:κ.F):Bl (t-cn m) (n+1):=by
 refine (?_,λk a=>?_)
 ·rw[Rg.Ps.c_sub,CO,qI ⋯,h.1];grind
 ·rw[Rg.Ps.c_sub,CO,qI ⋯,h.2 k a];grind
theorem cJ{r m:κ.F}(two:nt (κ:=κ) 2≠0)(no:∀t:κ.F,t*t≠m):Bf (lx r*lx r-cn m) 2:=by
 have g:m≠0:=λz=>no 0 (by rw[z];grind);have n:=Fd.mul_inv m g;have l:=Fd.mul_inv _ two;refine (Xg (GU (JN r) r) m,(cn<|0-Fd.inv m,cn (Fd.inv m*Fd.inv (nt 2))*lx r,Fs.cn _,(Fs.cn _).mul<|Fs.lx r,?_),λd e=>?_)
 ·rw[TW,Mr,Gm,Sy];have i:=EK g;have f:cn (Fd.inv m*Fd.inv (nt 2))*cn (nt 2)=cn (Fd.inv m):=by
   rw[G0]
   congr 1
   generalize nt (κ:=κ) 2=w at *;grind
  have k:cn (nt (κ:=κ) 2)=1+1:=by
   show cn (0+1+1)=_;rw[Hn,Hn,CJ,Ef];grind
  rw[k] at f;rw[IY,Ef];generalize cn (Fd.inv m*Fd.inv (nt 2))=a at *;generalize cn (Fd.inv m)=b at *;generalize cn m=c at *;generalize lx r=x at *;have:(0-b)*(x*x-c)+a*x*(x+x*1-0)=b*c-b*(x*x)+a*(1+1)*(x*x):=by grind
  rw[this,i,f];grind
 ·have h:=((Ev.lx d r).mul<|Ev.lx d r).add<|Ev.cn d<|0-m;have j:Ev (lx r*lx r-cn m) d ((d-r)*(d-r)+(0-m)):=by
   rw[show lx r*lx r-cn m=lx r*lx r+cn (0-m) by rw[IY,Ef];grind];exact h
  have:=j.one e;exact no (d-r) (by grind)
theorem Yc{r m:κ.F}(f:nt (κ:=κ) 3≠0)(no:∀t:κ.F,t*(t*t)≠m):Bf (lx r*(lx r*lx r)-cn m) 3:=by
 have i:m≠0:=λz=>no 0 (by rw[z];grind);have n:=Fd.mul_inv _ f;refine (Xg (GU (GU (JN r) r) r) m,(cn<|0-Fd.inv m,cn (Fd.inv m*Fd.inv (nt 3))*lx r,Fs.cn _,(Fs.cn _).mul<|Fs.lx r,?_),λd e=>?_)
 ·rw[TW,Mr,Gm,Gm,Sy];have j:=EK i;have g:cn (Fd.inv m*Fd.inv (nt 3))*cn (nt 3)=cn (Fd.inv m):=by
   rw[G0]
   congr 1
   generalize nt (κ:=κ) 3=w at *;grind
  have l:cn (nt (κ:=κ) 3)=1+1+1:=by
   show cn (0+1+1+1)=_;rw[Hn,Hn,Hn,CJ,Ef];grind
  rw[l] at g;rw[IY,Ef];generalize cn (Fd.inv m*Fd.inv (nt 3))=a at *;generalize cn (Fd.inv m)=b at *;generalize cn m=c at *;generalize lx r=x at *;have:(0-b)*(x*(x*x)-c)+a*x*(x*x+x*(x+x*1)-0)=b*c-b*(x*x*x)+a*(1+1+1)*(x*x*x):=by grind
  rw[this,j,g];grind
 ·have h:=((Ev.lx d r).mul<|(Ev.lx d r).mul<|Ev.lx d r).add<|Ev.cn d<|0-m;have k:Ev (lx r*(lx r*lx r)-cn m) d ((d-r)*((d-r)*(d-r))+(0-m)):=by
   rw[show lx r*(lx r*lx r)-cn m=lx r*(lx r*lx r)+cn (0-m) by rw[IY,Ef];grind];exact h
  have:=k.one e;exact no (d-r) (by grind)
end
theorem UF{t:Rat}{N:Int}{e:Nat}(h:t.num^e=N*(t.den:Int)^e)(e1:1<=e):(t.den:Int)=1:=by
 have a:=Cn t;have d:(t.den:Int) ∣ 1*t.num^e:=by
  rw[Wa,h];obtain ⟨k,rfl⟩:∃k,e=k+1:=(e-1,⋯);rw[Qo];exact (N*(t.den:Int)^k,by grind)
 have:=Jg a.cop e d;exact Int.eq_one_of_dvd_one ⋯ this
theorem nA{t:KX.q.F}{n d:Int}(i:d≠0)(h:zi d*(t*t)=zi n):∃k:Int,k*k=n*d:=by
 obtain ⟨u,hu⟩:∃u:KX.q.F,u=zi d*t:=(_,rfl);have f:u*u=zi (n*d):=by
  rw[hu,Cj,<-h];generalize zi (κ:=.q) d=z;grind
 have b:=HP (show Rat from u);have g:zi (κ:=.q) ((show Rat from u).num*(show Rat from u).num)=zi (n*d*((show Rat from u).den*(show Rat from u).den)):=by
  rw[Cj,<-b,Cj,<-f,Cj];generalize zi (κ:=.q) ((show Rat from u).den:Int)=z;grind
 have a:=J5 g;have c:=UF (t:=show Rat from u) (N:=n*d) (e:=2) (by
  rw[Qo,Qo,Wx,Wa,Qo,Qo,Wx,Wa];exact a) ∅
 rw[c] at a;exact (_,by rw[a];grind)
theorem Zz{t:KX.q.F}{n d:Int}(l:d≠0)(h:zi d*(t*(t*t))=zi n):∃k:Int,k*(k*k)=n*(d*d):=by
 obtain ⟨u,hu⟩:∃u:KX.q.F,u=zi d*t:=(_,rfl);have g:u*(u*u)=zi (n*(d*d)):=by
  rw[hu,Cj,Cj,<-h];generalize zi (κ:=.q) d=z;grind
 have j:=HP (show Rat from u);have f:zi (κ:=.q) ((show Rat from u).num*((show Rat from u).num*(show Rat from u).num))=zi (n*(d*d)*((show Rat from u).den*((show Rat from u).den*(show Rat from u).den))):=by
  rw[Cj,Cj,<-j,Cj<|n*(d*d),<-g,Cj,Cj];generalize zi (κ:=.q) ((show Rat from u).den:Int)=z;show z*u*(z*u*(z*u))=u*(u*u)*(z*(z*z));grind
 have b:=J5 f;have i:=UF (t:=show Rat from u) (N:=n*(d*d)) (e:=3) (by
  have c:∀a:Int,a^3=a*(a*a):=λa=>by rw[Qo,Qo,Qo,Wx,Wa,Qy]
  rw[c,c];exact b) ∅
 rw[i] at b;exact (_,by rw[b];grind)
theorem cC{a N:Nat}(c:a*a<N)(b:N<(a+1)*(a+1))(k:Int):k*k≠N:=λe=>by
 have e:k.natAbs*k.natAbs=N:=by
  have:=qW Int.natAbs e;rw[Qj,Qa] at this;exact this
 by_cases y:k.natAbs<=a
 ·have:=Qk y y;omega
 ·have:=Qk (show a+1<=k.natAbs by omega) (show a+1<=k.natAbs by omega);omega
theorem pM{a N:Nat}(c:a*(a*a)<N)(b:N<(a+1)*((a+1)*(a+1)))(k:Int):(k*(k*k)).natAbs≠N:=λe=>by
 rw[Qj,Qj] at e
 by_cases y:k.natAbs<=a
 ·have:=Qk y<|Qk y y;omega
 ·have y:a+1<=k.natAbs:=⋯;have:=Qk y<|Qk y y;omega
def Fe(n d:Int):Prop:=d≠0/\∀k:Int,k*k≠n*d
def Ha(n d:Int):Prop:=d≠0/\∀k:Int,k*(k*k)≠n*(d*d)
theorem GS{a N:Nat}{n d:Int}(f:d≠0)(e:n*d=N)(b:a*a<N)(c:N<(a+1)*(a+1)):Fe n d:=(f,λk=>by rw[e];exact cC b c k)
theorem K9{a N:Nat}{n d:Int}(f:d≠0)(e:(n*(d*d)).natAbs=N)(b:a*(a*a)<N)(c:N<(a+1)*((a+1)*(a+1))):Ha n d:=(f,λk z=>pM b c k (by rw[z];exact e))
theorem bQ{q:Nat}(b:1<=q):Fe (-(q:Int)) 1/\Fe ((q:Int)*q+1) 1/\Fe 2 1/\Fe 1 2/\Fe 3 1/\Fe 2 3/\Fe 5 4/\Fe ((q:Int)*q+q) 1:=by
 have e:(q+1)*(q+1)=q*q+q+(q+1):=by rw[Ug,Wz,Ub,Qz]
 refine ((∅,λk z=>?_),GS (a:=q) (N:=q*q+1) ∅ (by rw[U2,Ua,W3];rfl) ⋯ ⋯,GS (a:=1) (N:=2) ∅ ∅ ∅ ∅,GS (a:=1) (N:=2) ∅ ∅ ∅ ∅,GS (a:=1) (N:=3) ∅ ∅ ∅ ∅,GS (a:=2) (N:=6) ∅ ∅ ∅ ∅,GS (a:=4) (N:=20) ∅ ∅ ∅ ∅,GS (a:=q) (N:=q*q+q) ∅ (by rw[U2,Ua,W3]) ⋯ ⋯);have:0<=k*k:=by
  rcases Int.le_total 0 k with h|h
  ·exact Int.mul_nonneg h h
  ·exact Int.mul_nonneg_of_nonpos_of_nonpos h h
 omega
theorem h9{q:Nat}(b:1<=q):Ha 2 1/\Ha (-3) 1/\Ha 1 2/\Ha ((q:Int)*q*q+1) 1:=by
 refine (K9 (a:=1) (N:=2) ∅ ∅ ∅ ∅,K9 (a:=1) (N:=3) ∅ ∅ ∅ ∅,K9 (a:=1) (N:=4) ∅ ∅ ∅ ∅,K9 (a:=q) (N:=q*(q*q)+1) ∅ ?_ ⋯ ?_)
 ·rw[show ((q:Int)*q*q+1)*(1*1)=((q*(q*q)+1:Nat):Int) by rw[Ua,W3,W3];grind,Qa]
 ·have c:q*q<=(q+1)*(q+1):=Qk ⋯ ⋯;have d:(q+1)*(q*q)<=(q+1)*((q+1)*(q+1)):=Qq _ c;rw[Ug,Qz] at d;have f:1<=q*q:=Qg b b;have g:(q+1)*(q+1)=q*q+q+(q+1):=by rw[Ug,Wz,Ub,Qz]
  have e:(q+1)*(q*q+1)<=(q+1)*((q+1)*(q+1)):=Qq _ ⋯;rw[Wz,Ub,Ug,Qz] at e;omega
theorem K6(n:Nat):nt (κ:=.q) (n+1)≠K0 .q:=λz=>by
 rw[<-Gq] at z;have:=Df.mp z;omega
theorem mW{r m:KX.q.F}(no:Fe n d)(b:zi d*m=zi n):Bf (lx r*lx r-cn m) 2:=cJ (K6 1) λt e=>by
 obtain ⟨k,a⟩:=nA (t:=t) no.1 (by rw[e];exact b);exact no.2 k a
theorem lW{r m:KX.q.F}(no:Ha n d)(b:zi d*m=zi n):Bf (lx r*(lx r*lx r)-cn m) 3:=Yc (K6 2) λt e=>by
 obtain ⟨k,a⟩:=Zz (t:=t) no.1 (by rw[e];exact b);exact no.2 k a
end Lake.My
namespace Lake.Zp
open My
open PySem L2 PyProof.Rows
variable{Z:Zc}{X:Cx}{P:Program}{w:World}{K:Ac}{mg:Ai}{base:Heap}{cN:Addr}
theorem Yf:Aa ["_law_prime_here","_law_one","_law_other"] ["_law_prime_here","_law_one","_law_other"] (Ao MB):=‹2›
theorem Lz{κ:KX}(y:κ.F):zi (-1)*y=0-y:=by
 rw[show (-1:Int)=0-1 from rfl,FM,Aq,Ce];grind
theorem z_lmin(h:Ae K mg "_law_minus" MB) (b:Fn P w K mg base Z "_law_make" 3 GL) (c:Fn P w K mg base Z "_law_plus" 3 (Bp λ_ x y=>x+y)) (a:Fn P w K mg base Z "_law_times" 3 (Bp λ_ x y=>x*y)):Fn P w K mg base Z "_law_minus" 4 (Bp λ_ x y=>x-y):=by
 refine Cg h Yf (λ_ _ _ _ _ _ _ g =>
  (AK<|Bk<|AD c<|BG (qv 0) (qv 1)<|AD a<|BG (qv 0) (AD b<|Aw (qv 0)<|D6 Ah)<|qv 2)) ?_
 rintro _ Q ⟨e,d,q⟩
 rename_i κ x y
 have f:BL κ (zi<|-1):=by
  have:=Ko<|QN.bL (D:=1) (M:=1) ∅ ‹4› ‹4›<|Bc (κ:=κ);rw[show zi (κ:=κ) (-1)=0-1 by rw[show (-1:Int)=0-1 from rfl,FM,Aq,Ce]];exact this
 refine (zi<|-1,HU ∅,(f,d,(e,?_,?_)))
 ·rw[Lz];exact Ko d
 ·rw[Lz,show x+(0-y)=x-y by grind];exact q
theorem nN{κ:KX}(z:κ.F):z-0=z:=by grind
structure Rl (hl:List KX.q.F):Prop where
 ex:∃n,n<=3/\Bf (sr hl) n/\hl.length=n+1
 t:Bj hl
 sz:∀x∈hl,QN .q ((24:Nat):Int) (10^12) x
structure Pk (No:Int->Int->Prop) (n d:Int):Prop where
 fc:Fc n d
 no:No n d
 dv:∃c:Nat,0<c/\c<=12/\d*c=12
 sz:n.natAbs<=2*10^9
theorem Pk.num{No:Int->Int->Prop}(h:Pk No n d):∃m:KX.q.F,PV.tup [.int n,.int d]=num .q m/\zi d*m=zi n/\QN .q ((12:Nat):Int) (24*10^9) m:=by
 obtain ⟨m,a,b⟩:=IA h.fc;have f:=HP m;rw[a,b] at f;refine (m,by rw[ES];show _=PV.tup [.int m.num,.int (m.den:Int)];rw[a,b],f,?_);obtain ⟨c,j,e,i⟩:=h.dv;have q:QN .q ((m.den:Nat):Int) n.natAbs m:=(n,by rw[<-a];exact (W4 m).symm,Q4 _);have g:=QN.upN (c:=c) (by have:=m.den_nz;omega) j q;have:m.den*c=12:=by
  have:((m.den*c:Nat):Int)=12:=by rw[W3,b];exact i
  omega
 rw[this] at g;refine g.mono ?_;have:=Qk h.sz e;omega
theorem YG{R:List KX.q.F}{m:KX.q.F}{n:Nat}(f:R.length=n+1)(n1:1<=n)(d:n<=3)(l:Bf (sr R-cn m) n)(o:Bj R)(b:∀x∈R,QN .q ((8:Nat):Int) (10^6) x)(i:QN .q ((12:Nat):Int) (24*10^9) m):Rl ((R.getD 0 (K0 .q)-m)::R.drop 1):=by
 have e:sr ((R.getD 0 (K0 .q)-m)::R.drop 1)=sr R-cn m:=Rg.Ps.ext λk=>by
  rw[Rg.Ps.c_sub,CO,AM,AM]
  cases k with
  |zero=>rfl
  |succ k =>
   rw[qI ⋯];show (R.drop 1).getD k _=_;rw[Q3,rP,Nat.add_comm 1 k,Q3];generalize R[k+1]?.getD _=z;exact (nN z).symm
 refine ((n,d,by rw[e];exact l,by show (R.drop 1).length+1=_;rw[W6];omega),.inr ?_,λx hx=>?_)
 ·have:=F7 o ⋯;rw[show ((R.getD 0 (K0 .q)-m)::R.drop 1).length-1=n by show (R.drop 1).length+1-1=n;rw[W6];omega];obtain ⟨j,rfl⟩:∃j,n=j+1:=(n-1,⋯);show (R.drop 1).getD j _≠_;rw[Q3,rP,Nat.add_comm 1 j,<-Q3];rw[f] at this;exact this
 ·have a:∀ {y:KX.q.F},QN .q ((8:Nat):Int) (10^6) y->QN .q ((24:Nat):Int) (10^6*3) y:=λh=>QN.upN (c:=3) ∅ ∅ h;rcases Qd.mp hx with rfl|hx
  ·have g:QN .q ((8:Nat):Int) (10^6) (R.getD 0<|K0 .q):=Dm b 0;exact ((a g).sub ∅<|QN.upN (c:=2) ∅ ∅ i).mono ∅
  ·exact (a<|b x<|List.mem_of_mem_drop hx).mono ∅
theorem Y1{κ:KX}(x:κ.F):0-(0-x)=x:=by grind
theorem Gw(n:Int):Fc n 1:=(∅,by simp)
theorem cS{a:Nat}(h:1<=a)(c:a<=1000)(i:Int)(i0:0<=i)(q:i<8):∃n d:Int,CC [PV.tup [.int<|-(a:Int),.int 1],.tup [.int<|(a:Int)*a+1,.int 1],.tup [.int 2,.int 1],.tup [.int 1,.int 2],.tup [.int 3,.int 1],.tup [.int 2,.int 3],.tup [.int 5,.int 4],.tup [.int<|(a:Int)*a+a,.int 1]] i=some (.tup [.int n,.int d])/\Pk Fe n d:=by
 obtain ⟨p,k,m,e,g,f,j,o⟩:=bQ h;have l:=Qk c c;have b:=(W3 a a).symm;rcases (by omega:i=0\/i=1\/i=2\/i=3\/i=4\/i=5\/i=6\/i=7) with rfl|rfl|rfl|rfl|rfl|rfl|rfl|rfl
 ·exact (_,_,rfl,Gw _,p,(12,∅,∅,∅),⋯)
 ·exact (_,_,rfl,Gw _,k,(12,∅,∅,∅),by rw[b];omega)
 ·exact (_,_,rfl,Gw _,m,(12,∅,∅,∅),∅)
 ·exact (_,_,rfl,(∅,∅),e,(6,∅,∅,∅),∅)
 ·exact (_,_,rfl,Gw _,g,(12,∅,∅,∅),∅)
 ·exact (_,_,rfl,(∅,∅),f,(4,∅,∅,∅),∅)
 ·exact (_,_,rfl,(∅,∅),j,(3,∅,∅,∅),∅)
 ·exact (_,_,rfl,Gw _,o,(12,∅,∅,∅),by rw[b];omega)
theorem oY{a:Nat}(f:1<=a)(b:a<=1000)(i:Int)(i0:0<=i)(k:i<4):∃n d:Int,CC [PV.tup [.int 2,.int 1],.tup [.int<|-3,.int 1],.tup [.int 1,.int 2],.tup [.int<|(a:Int)*a*a+1,.int 1]] i=some (.tup [.int n,.int d])/\Pk Ha n d:=by
 obtain ⟨j,g,h,e⟩:=h9 f;have l:=Qk (Qk b b) b;have c:((a:Int)*a*a)=((a*a*a:Nat):Int):=by rw[W3,W3]
 rcases (by omega:i=0\/i=1\/i=2\/i=3) with rfl|rfl|rfl|rfl
 ·exact (_,_,rfl,Gw _,j,(12,∅,∅,∅),∅)
 ·exact (_,_,rfl,Gw _,g,(12,∅,∅,∅),∅)
 ·exact (_,_,rfl,(∅,∅),h,(6,∅,∅,∅),∅)
 ·exact (_,_,rfl,Gw _,e,(12,∅,∅,∅),by rw[c];omega)
theorem Pn{κ:KX}{R:Ab κ}(t:Bj R)(h:Bl (sr R) n):R.length=n+1:=by
 have a:R.getD n 0=1:=by rw[<-AM];exact h.1
 have g:=Nat.lt_of_not_le λz=>by
  rw[BF z] at a;exact EZ a.symm
 have l:=Vx t (d:=n+1) λk b=>by rw[<-AM];exact h.2 k ⋯
 omega
inductive Em:ZF
 |mk {Q:AH} {c:Int} (q:∀hl,Rl hl->Q (nums .q hl)):Em [.int c,.int 1000] Q
theorem B6:Aa ["_law_cell","_law_most","_law_s","_law_q","_law_m","_law_f"] ["_law_cell","_law_most"] (Ao Mq):=‹2›
theorem z_lrl(h:Ae K mg "_law_rootless" Mq) (f:Fn P w K mg base Z "_law_fraction" 4 BP) (b:Fn P w K mg base Z "_law_poly_times" 4 Bu) (k:Fn P w K mg base Z "_law_minus" 4 (Bp λ_ x y=>x-y)):Fn P w K mg base Z "_law_rootless" 5 Em:=by
 have u:=B6.nd;refine Cg h B6 (λ_ _ _ _ _ _ _ hr =>
  (Ap (AE 2 u<|QL.toE<|Cs<|Aw (AD f<|Aw (AA Cu li Ah<|AA BU lc (qv 0) Ah)<|AA Bw li Ah<|AA BU lc (AA DS lc (qv 0) Ah) Ah)<|CH<|Aw Ah Ah)
  (Ap (AE 3 u<|AA Bw li Ah<|AA BU lc (AA DS lc (qv 0) Ah)<|qv 1)
  (Ap (AE 4 u<|A8 (QL.toE<|Cs<|DR (CH<|Aw (D6<|qv 3) Ah)<|DR (CH<|Aw (AA Bw li (AA Fj lc (qv 3)<|qv 3) Ah) Ah)<|DR (CH<|Aw Ah Ah)<|DR (CH<|Aw Ah Ah)<|DR (CH<|Aw Ah Ah)<|BG (CH<|Aw Ah Ah) (CH<|Aw Ah Ah)<|CH<|Aw (AA Bw li (AA Fj lc (qv 3)<|qv 3)<|qv 3) Ah)<|AA BU lc (AA DS lc (qv 0) Ah) Ah)
  (Ap (AE 5 u<|AD b<|BG Ah (qv 2)<|qv 2)
  (Ap (El (Ch BO D9 (AA BU lc (AA DS lc (qv 0) Ah) Ah) Ah) (Ap (AE 4 u<|A8 (QL.toE<|Cs<|IH (CH<|Aw Ah Ah) (CH<|Aw (D6 Ah) Ah) (CH<|Aw Ah Ah)<|CH<|Aw (AA Bw li (AA Fj lc (AA Fj lc (qv 3)<|qv 3)<|qv 3) Ah) Ah)<|AA BU lc (AA DS lc (qv 0) Ah) Ah)
   (AK<|AE 5 u<|AD b<|BG Ah (qv 2)<|qv 5)) DM)
  (AK<|Bk<|QL.toE<|GW (QL.toE<|Cs<|By<|AD k<|BG Ah (A8 (qv 5) Ah)<|qv 4)<|QL.toE<|GN (qv 5) (F6 Ah) GV))))))) ?_
 rintro _ Q ⟨q⟩
 rename_i c
 have z:PV.tup [.int 1,.int 1]=num .q (K1 .q):=by rw[ES]; rfl
 have h1:=Qv c (show (13:Int)≠0 by decide);have h2:=W0 c (show (0:Int)<13 by decide);have h3:=Qv (c/13) (show (2:Int)≠0 by decide);have h4:=W0 (c/13) (show (0:Int)<2 by decide);have h5:=Qv (c/208) (show (1000:Int)≠0 by decide);have h6:=W0 (c/208) (show (0:Int)<1000 by decide);refine (by show (0:Int)<13; decide,(∅,∅),by show (0:Int)<2; decide,?_);show BP [.int<|6-c%13,.int<|1+c/13%2] _;refine BP.mk ⋯ (Ak.of (n:=8000)<|Q5 (show (1+c/13%2).natAbs<=2^2 by omega)<|Wy ∅ ∅) (by show 2<=1000; decide,by show 2<=1000; decide,?_);have U:QN .q ((2:Nat):Int) 12 (show KX.q.F from Rat.divInt (6-c%13) (1+c/13%2)):=by
  rcases (by omega:c/13%2=0\/c/13%2=1) with e | e
  ·rw[e]
   exact (QN.upN (D:=1) (c:=2) ∅ ∅ (show QN .q ((1:Nat):Int) 6 _ from (6-c%13,rfl,⋯))).mono ∅
  ·rw[e]
   exact (6-c%13,rfl,⋯)
 generalize (show KX.q.F from Rat.divInt (6-c%13) (1+c/13%2))=r at *;rw[z];obtain ⟨a,ha⟩:∃a:Nat,(a:Int)=1+c/208%1000:=((1+c/208%1000).toNat,⋯);refine ((∅,∅),by show (0:Int)<1000; decide,?_);have a1:1<=a:=⋯;have k2:=cS (a:=a) a1 ⋯;have k3:=oY (a:=a) a1 ⋯;rw[ha] at k2 k3;have Y:FV (1+c/208%1000) (1+c/208%1000):=.inl (⋯,⋯);have l:∀ {x y:PV},[x,y].length<=1000:=by intros; show 2<=1000; decide
 have i8:=Qv (c/26) (show (8:Int)≠0 by decide);have j8:=W0 (c/26) (show (0:Int)<8 by decide);have i4:=Qv (c/26) (show (4:Int)≠0 by decide);have j4:=W0 (c/26) (show (0:Int)<4 by decide);obtain ⟨n2,d2,e2,p2⟩:=k2 _ i8 j8;obtain ⟨n3,d3,T,p3⟩:=k3 _ i4 j4;refine (l,Y,l,l,l,l,l,l,Y,l,by show 8<=1000; decide,(∅,∅),by show (0:Int)<8; decide,_,e2,?_);have t:∀x∈[r,K1 .q],QN .q ((2:Nat):Int) 12 x:=λx hx=>by
  rcases Qd.mp hx with rfl | hx
  ·exact U
  ·rw[Qf.mp hx]
   exact (QN.upN (D:=1) (c:=2) ∅ ∅<|Bc (κ:=.q)).mono ∅
 have es:sr [r,K1 .q]=lx (K0 .q-r):=by
  rw[GX,Y1]
 refine Bu.mk (κ:=.q) (F:=[r,K1 .q]) (G:=[r,K1 .q]) (D:=2) (E:=2) (M:=12) (N:=12) (by show 2<=100; decide) (by show 2<=100; decide) t t ∅ ∅ ‹4› ‹4› ‹4› ‹4› λR2 A I a0=>?_;have o:sr R2=lx (K0 .q-r)*lx (K0 .q-r):=by rw[I,es]
 have l2:=Pn A (by rw[o]; exact GU (JN _) _);have L:∀x∈R2,QN .q ((4:Nat):Int) 576 x:=λx hx=>by
  obtain ⟨j,_,rfl⟩:=mem_getD hx;have:=Kg (D:=((2:Nat):Int)) (E:=((2:Nat):Int)) ∅ t t j;rw[<-I,AM] at this;exact this
 have C:∀(R:List KX.q.F) (n d:Int) (e:Nat),(∃m:KX.q.F,PV.tup [.int n,.int d]=num .q m/\Bf (sr R-cn m) e/\QN .q ((12:Nat):Int) (24*10^9) m)->R.length=e+1->1<=e->e<=3->Bj R->(∀x∈R,QN .q ((8:Nat):Int) (10^6) x) →
  ∃w,CC (R.map<|num .q) 0=some w/\Bp (λ_ x y=>x-y) [.int 0,w,.tup [.int n,.int d]] λp=>[p].length<=1000/\[p].length+(Da (R.map<|num .q) (some 1) none).length<=1000/\Q (.lst<|[p]++Da (R.map<|num .q) (some 1) none):=λR n d e ⟨m,B,rl,v⟩ lR e1 T tR qR=>by
  refine (_,E4 (κ:=.q) (g:=R) (i:=0) ⋯,?_);rw[B];have cd:Da (R.map<|num .q) (some 1) none=(R.drop 1).map (num .q):=Il R 1;refine Bp.mk (κ:=.q) ((Dm qR 0).bL ∅ ‹4› ‹4›) (v.bL ∅ ‹4› ‹4›) (by show 1<=1000; decide,?_,?_)
  ·rw[cd,Q1,W6]; show 1+(R.length-1)<=1000; omega
  ·rw[cd]
   exact q _<|YG lR e1 T rl tR qR v
 refine ((∅,∅),by show (0:Int)<4; decide,Zp.br (λ_=>?_) λ_=>?_)
 ·refine (l,l,l,Y,.inr (by show -(2^64)<(1:Int)+c/208%1000; omega,by show (1:Int)+c/208%1000<2^64; omega),l,by show 4<=1000; decide,(∅,∅),by show (0:Int)<4; decide,_,T,?_)
  refine Bu.mk (κ:=.q) (F:=[r,K1 .q]) (G:=R2) (D:=2) (E:=4) (M:=12) (N:=576) (by show 2<=100; decide) ⋯ t L ∅ ∅ ‹4› ‹4› ‹4› ‹4› λR3 H J a2=>?_;have s:sr R3=lx (K0 .q-r)*(lx (K0 .q-r)*lx (K0 .q-r)):=by rw[J,es,o]
  have l3:=Pn H (by rw[s]; exact GU (GU (JN _) _) _);obtain ⟨m,B,W,v⟩:=p3.num;obtain ⟨w,S,O⟩:=C R3 n3 d3 3 (m,B,by rw[s]; exact lW p3.no W,v) l3 ∅ ∅ H λx hx=>by
   obtain ⟨j,_,rfl⟩:=mem_getD hx;have:=Kg (D:=((2:Nat):Int)) (E:=((4:Nat):Int)) ∅ t L j;rw[<-J,AM,l2] at this;exact this.mono (by show 2*((1+1+1)*(12*576))<=10^6; decide)
  exact (w,S,O)
 ·obtain ⟨m,B,W,v⟩:=p2.num
  obtain ⟨w,S,O⟩:=C R2 n2 d2 2 (m,B,by rw[o]; exact mW p2.no W,v) l2 ∅ ∅ A λx hx=>(QN.upN (c:=2) ∅ ∅<|L x hx).mono ∅;exact (w,S,O)
end Lake.Zp
namespace Lake.My
open PySem L2 PyProof.Rows
section
variable{κ:KX}
theorem Rc{x:κ.F}(h:zi v*x=zi u):∀A:List Int,zi (v^A.length)*Bb x (A.map zi)=zi v*zi (Cc u v A)
 | []=>by
  show zi (v^0)*(0:κ.F)=zi v*zi 0;rw[Aq];grind
 |a::g=>by
  have c:=Rc h g;show zi (v^(g.length+1))*(zi a+x*Bb x (g.map zi))=zi v*zi (a*v^g.length+u*Cc u v g);rw[Qo,Cj,IG,Cj,Cj,<-h];generalize zi (κ:=κ) (v^g.length)=z at *;generalize Bb x (g.map zi)=w at *;generalize zi (κ:=κ) (Cc u v g)=d at *;generalize zi (κ:=κ) v=y at *;generalize zi (κ:=κ) a=b at *;have:z*y*(b+x*w)=y*(b*z)+y*x*(z*w):=by grind
  rw[this,c];grind
theorem TY(x y:κ.F):x*0=y*0:=by grind
theorem M8(k d x:κ.F):k*d*x=k*(d*x):=by grind
theorem Na(s:Int):∀A:List Int,Bb (zi (κ:=κ) s) (A.map zi)=zi (vI s A)
 | []=>Aq.symm
 |a::g=>by
  show zi a+zi s*Bb (zi s) (g.map zi)=zi (a+s*vI s g);rw[Na s g,IG,Cj]
theorem oG(A:List Int):sr ((dl 1 A.tail).map<|zi (κ:=κ))=der (sr<|A.map zi):=Rg.Ps.ext λk=>by
 rw[D1,IP,IP];show zi ((dl 1 A.tail).getD k 0)=nt (k+1)*zi (A.getD (k+1) 0);rw[Q3,Ou,List.getElem?_tail,Q3,<-Gq]
 cases A[k+1]? with
 |none=>show zi 0=zi _*zi 0;rw[Aq];grind
 |some a =>
  show zi (((1+k:Nat):Int)*a)=zi ((k+1:Nat):Int)*zi a;rw[Cj,Nat.add_comm]
theorem cB{p:Nat}{hp:BB p}(b:κ = .r p hp){A:List Int}{s:Int}(e:Cp (sr<|A.map<|zi (κ:=κ)) (der<|sr<|A.map zi))(h:(p:Int) ∣ vI s A):¬(p:Int) ∣ vD s A:=λd=>by
 have c:=Es (zi (κ:=κ) s)<|A.map zi;have a:=Es (zi (κ:=κ) s)<|(dl 1 A.tail).map zi;rw[Na] at c a;rw[oG,KG] at a;exact e.nz c a ((EY b).mpr h)<|(EY b).mpr d
end
theorem dH{x:KX.q.F}{u v:Int}(a:v≠0)(h:zi v*x=zi u)(A:List Int):E2 x (A.map zi)↔Cc u v A=0:=by
 have e:=Rc h A;have c:zi (κ:=.q) (v^A.length)≠K0 .q:=λz=>by
  have:=Df.mp z;exact absurd this<|Int.pow_ne_zero a
 have b:zi (κ:=.q) v≠K0 .q:=λz=>a<|Df.mp z;unfold E2
 constructor
 ·intro y;rw[y] at e;have e:zi (κ:=.q) v*zi (Cc u v A)=zi v*K0 .q:=by rw[<-e];exact (TY _ _)
  exact Df.mp<|Hr b e
 ·intro y;rw[y,Aq] at e;exact Hr c<|e.trans<|TY _ _
theorem o4{A:List Int}{y l:Int}{G:Nat}(f:2<=A.length)(d:l=A.getD (A.length-1) 0)(j:l≠0)(c:∀a∈A,a.natAbs<=G)(h:Cc y l A=0):y.natAbs<=2*G:=Uf λe=>by
 have g:l∈A:=by
  rw[d,Q3,Q6 ⋯];exact W7 _
 have i:=c l g;have b:=WM (u:=y) (v:=l) (M:=G) ⋯ A f c (by
  rw[<-d,Qj,Wj l.natAbs];exact Nat.mul_lt_mul_of_lt_of_le e (Q4 _) ⋯)
 rw[h] at b;exact absurd b ⋯
theorem jF{A:List Int}{x:KX.q.F}{l:Int}(hp:BB p)(l1:1<=A.length)(C:l=A.getD (A.length-1) 0)(n:¬(p:Int) ∣ l)(h:E2 x (A.map zi)):∃(y s:Int),Cc y l A=0/\zi l*x=zi y/\0<=s/\s<p/\(p:Int) ∣ y-l*s/\(p:Int) ∣ vI s A:=by
 have d:=HP (show Rat from x);have o:((show Rat from x).den:Int)≠0:=by have:=(show Rat from x).den_nz;omega
 have z:=(dH (x:=x) o d A).mp h;obtain ⟨k,g,f⟩:=YX l1 z (Cn (show Rat from x)).cop o;rw[<-C] at g;rw[<-g] at f;obtain ⟨j,G⟩:=SD (hp:=hp) rfl n;have I:=hp.two;refine (k*(show Rat from x).num,k*(show Rat from x).num*j%p,f,?_,Qv _ ⋯,W0 _ ⋯,?_,?_)
 ·rw[g,Cj,Cj,<-d];exact M8 _ _ _
 all_goals generalize k*(show Rat from x).num=y at *
 all_goals
  have m:=Uq (y*j) p;obtain ⟨c,D⟩:=G;have i:(p:Int) ∣ y-l*(y*j%p):=(l*(y*j/p)-y*c,by
   generalize y*j/p=q at *;generalize y*j%p=t at *;have:t=y*j-p*q:=⋯;rw[this];have e:y-l*(y*j-p*q)=p*(l*q)-y*(l*j-1):=by grind
   rw[e,D];grind)
 ·exact i
 ·generalize y*j%p=s at *;obtain ⟨b,H⟩:=i;have F:=Mm l s (y-l*s) A;obtain ⟨w,B⟩:=F;rw[show l*s+(y-l*s)=y by omega,f,sZ,H] at B;have E:(p:Int) ∣ vI s A*l^A.length:=(0-b*(l^(A.length-1)*vD s A)-b*p*b*w,by grind);obtain ⟨u,v,a⟩:=PL hp n 1;rw[Qo,Wx,Wa] at a;have r:=gcd_one a;exact Jg (u:=l) (v:=p) r A.length E
end Lake.My
namespace Lake.Zp
open My
open PySem L2 PyProof.Rows
section
variable{X:Cx}{P:Program}{w:World}{H H':Hp}{h:Heap}{cs:Ay}
variable{k:Nat}{ps:List Str}{sp:Sp}{x:Str}{p pos:Pos}{e:Expr}{es:List Expr}{t:TA}{cl:List (Str×Addr)}
def Bm(mg:Ai)(base:Heap):Prop:=∃b a,mg "__builtins__"=some (.ref b)/\b≠builtinsNs/\base.get? b=some a/\a.cls = .type "module" /\ a.dict=some builtinsNs/\a.data = .plain
theorem o5{body:Expr}{c T:Addr}(J:closureFor g X.env=pure cl)(L:defaultsOf a X.env=([],[]))(r:X.env.code = .ref c)(C:PySem.W.CodeHd X.base c T)(B:Bm X.mg X.base) :
 PE X (.Lambda a body g pos) λ_ H Q=>H T=some (.tbl #[rawInt pos.line,rawInt pos.col,.str (X.env.qual ++ "<lambda>") 0])/\∀f d m vs t pm j H',Ad H H'->H f=none →
  H' f=some (.frz (PySem.W.kla_obj "<lambda>" (X.env.qual ++ "<lambda>") a body g cl pm d j)<|.own f)->H' d=some (.frz m<|.own d)->m.data = .fields vs->vs[1]?=some (.str (X.env.qual ++ "<lambda>") t)->Q (.ref f) H':=by
 intro a0 s σ H Q I ⟨E,h⟩;have ne:∀b o,X.base.get? b=some o->b≠T:=λb o e z=>by
  subst z;have:=(I.bs _ _ e).2;rw[E] at this; cases this
 have ns:=I.mod.glob.keeps I.bk;obtain ⟨og,_,_,eg,dg,_⟩:=id I.mod.glob;obtain ⟨bm,ob,b1,b2,M,b4,b5,S⟩:=B;have hb:s.heap.BuiltinsAt X.mg T:=(bm,ob,b1,b2,(λz=>by rw[z,eg] at M; cases M; rw[dg] at S; cases S),ne _ _ M,I.bk _ _ M,b4,b5,S);have Z:=C.keeps I.bk;refine PySem.W.kla_eval L ?_;rcases I.hok T _ E with e | ⟨l,c0,q,t,d,m,vs,t',e0,e,z,r1,r2⟩
 ·refine PySem.W.kla_makeFunction (mg:=X.mg) J I.ok.glob ns r Z e trivial rfl (ne _ _ eg) hb λd j h' tk hx D K F G=>?_
  obtain ⟨O,m,vs,t,e2,W,Y,hv⟩:=F
  cases e2
  have lt:∀b u,H b=some u->b<s.heap.objs.size:=λb u z=>I.hok.lt z;have A:s.heap.objs.size<=h'.objs.size:=Q0 D<|Wf K;generalize ho:PySem.W.kla_obj "<lambda>" (X.env.qual ++ "<lambda>") a body g cl ((X.mg "__name__").getD .none) d j=y
  let H2:Hp:=As (As H d<|.frz m<|.own d) h'.objs.size<|.frz y<|.own h'.objs.size
  have S2:Ad H H2:=λb u z=>by
   show As (As H d _) h'.objs.size _ b=_;rw[AL<|Qb<|Q9 (lt b u z) A,AL<|Qb<|Q9 (lt b u z) D]; exact z
  have N:∀b o,b≠T->s.heap.get? b=some o->(h'.push y).get? b=some o:=λb o n z=>qJ _<|hx b o n z;have nt:∀b,H b=none->b≠T:=λb n z=>by rw[z,E] at n; cases n
  have f2:H2 h'.objs.size=some (.frz y<|.own h'.objs.size):=A4;have O:H2 d=some (.frz m<|.own d):=by
   show As (As H d _) h'.objs.size _ d=_;rw[AL<|Qb K,A4]
  have gc:(h'.push y).get? d=some m:=qJ _ W;have gf:(h'.push y).get? h'.objs.size=some y:=qO _ (by rw[<-ho]; rfl);refine (.ref h'.objs.size,H2,I.un (h':=h'.push y) (t':=tk) (λb o z n _ _=>N b o (nt b n) z,λb o z n _ _=>(o.slots,N b o (nt b n) z),λb o z n _=>?_,λb o z _=>?_,λb xs z=>S2 _ _ z,λb o u z=>S2 _ _ z,λb ps z=>(#[],by rw[S2 _ _ z]; simp)) λb u z=>?_,rfl,
   h _ d m vs t _ j H2 S2 (I.hok.fresh A) (by rw[f2,ho]) O Y hv)
  ·show As (As H d _) h'.objs.size _ b=_
   rw[AL<|Qb<|Q9 (qN z) A,AL<|Qb<|Q9 (qN z) D]; exact n
  ·by_cases n:b=T
   ·exact (_,by rw[n]; exact qJ _ G)
   ·exact (o,N b o n z)
  ·by_cases n1:b=h'.objs.size
   ·subst n1; rw[f2] at z; cases z
    exact (gf,y,gf)
   ·by_cases n2:b=d
    ·subst n2; rw[O] at z; cases z
     exact (gc,m,gc)
    ·have R:H b=some u:=by
      have:As (As H d<|.frz m<|.own d) h'.objs.size (.frz y<|.own h'.objs.size) b=some u:=z
      rwa [AL n1,AL n2] at this
     by_cases n3:b=T
     ·subst n3; rw[E] at R; cases R
      exact .inr (_,_,_,_,d,m,vs,t,rfl,qJ _ G,O,Y,hv)
     ·refine (I.hok b u R).stay (λc v hc q=>N c v ?_ q) (λc q=>S2 _ _ q) λc i q=>S2 _ _ q
      rcases hc with rfl | hc
      ·exact n3
      ·intro e; rw[e,E] at hc; cases hc
 ·have U:[rawInt pos.line,rawInt pos.col,Value.str (X.env.qual ++ "<lambda>") 0]=[l,c0,.str q t]:=qW Array.toList e0
  injection U with a1 a2
  injection a2 with a2 a3
  injection a3 with a3 _
  injection a3 with a3 _
  subst a1 a2 a3;refine PySem.W.kla_makeFunctionHit (cv:=.ref d) (mg:=X.mg) J I.ok.glob ns r Z e (by simp[TriplesOk,rawInt]) (by simp[codeAmong,rawInt]) hb λj h' tk hk A=>?_;refine (.ref h'.objs.size,As H h'.objs.size<|.frz _<|.own h'.objs.size,I.laid (λb u q=>qJ _<|hk b u q) A (qO _ rfl,_,qO _ rfl),rfl,h _ d m vs t' _ j _ (λb u z=>?_) (I.hok.fresh A) A4 ?_ r1 r2)
  ·rw[AL<|Dj z<|I.hok.fresh A]; exact z
  ·rw[AL<|Dj z<|I.hok.fresh A]; exact z
end
section
def Lv(X:Cx)(N:List Str)(b:Str)(a:Scope)(f:Addr)(d:Value)(c:List (Str×Addr))(s:Shared)(H:Hp):Cx where
 prog:=X.prog
 w:=X.w
 K:=X.K
 mg:=X.mg
 base:=X.base
 A:=X.A.deeper<|PySem.W.envX b a s.heap.objs.size f d c
 N:=N
 s₀:=s
 H₀:=H
 env:=PySem.W.envX b a s.heap.objs.size f d c
 outer:=X.stack
 stack:=PySem.W.envX b a s.heap.objs.size f d c::X.stack
 ex:=[]
 calm:=true
 fn:=λ_=>false
 pn:=[]
 xe:=λ_ _=>False
variable{X:Cx}{pins:List (Addr×Obj)}{σ:L2.St}{H:Hp}{s:Shared}{Q:VK}{f c':Addr}{name qual:Str}{params:Arguments}{body:Expr}{scope:Scope}{cl:List (Str×Addr)}{pm ctv:Value}{oc:Obj}{vs:Array Value}{t:Tok}{N:List Str}{x:Str}{us:List Value}{v:V}{u:Value}{te:TE}{k:Nat}
end
end Lake.Zp
namespace Lake.Zp
open My
open PySem PySem.Spec L2 PyProof.Rows
def Ln(X:Cx):Cx:={ X with A:=X.A.in1.in1,xe:=λ_ _=>False }
theorem perm_map{α k:Type}{f:α->k}{l m:List k}(h:l.Perm m):∀c:List α,m=c.map f->∃i:List α,i.Perm c/\l=i.map f:=by
 induction h with
 |nil =>
  intro c e
  cases c with
  |nil=>exact ([],.nil,rfl)
  |cons a b=>cases e
 |cons x h q =>
  intro c e
  cases c with
  |nil=>cases e
  |cons t r =>
   injection e with g d
   obtain ⟨o,p,n⟩:=q r d;exact (t::o,p.cons t,by rw[n,g];rfl)
 |swap x y l =>
  intro c e
  match c,e with
  | [],e=>cases e
  | [_],e=>cases e
  |t1::j::r,e =>
   injection e with g d
   injection d with d e3
   exact (j::t1::r,.swap t1 j r,by rw[g,d,e3];rfl)
 |trans w z v s =>
  intro c e;obtain ⟨j,p2,d⟩:=s c e;obtain ⟨t1,u,g⟩:=v j d;exact (t1,u.trans p2,g)
def KsOut{α:Type}(kz:List Int)(xs ys:List α):Prop:=∃a:List (Int×α),a.Perm (kz.zip xs)/\ys=a.map Prod.snd/\a.Pairwise λp q=>p.1<=q.1
theorem TL{α g:Type}{R:α->g->Prop}{kz:List Int}{xs:List α}{vs f:List g}(l:xs.length=vs.length)(r:∀p∈xs.zip vs,R p.1 p.2)(h:KsOut kz vs f):∃d:List (Int×α×g),KsOut kz xs (d.map (·.2.1))/\f=d.map (·.2.2)/\(∀t∈d,R t.2.1 t.2.2)/\d.length=(kz.zip<|xs.zip vs).length:=by
 obtain ⟨q,k,e,s⟩:=h;have o:kz.zip vs=(kz.zip<|xs.zip vs).map λt=>(t.1,t.2.2):=by
  conv=>lhs;rw[<-List.map_snd_zip (l₁:=xs) (l₂:=vs) ⋯]
  rw[List.zip_map_right];exact rN λ_ _=>rfl
 have n:kz.zip xs=(kz.zip<|xs.zip vs).map λt=>(t.1,t.2.1):=by
  conv=>lhs;rw[<-List.map_fst_zip (l₁:=xs) (l₂:=vs) ⋯]
  rw[List.zip_map_right];exact rN λ_ _=>rfl
 obtain ⟨d,i,j⟩:=perm_map k _ o;refine (d,(d.map λt=>(t.1,t.2.1),by rw[n];exact i.map _,by rw[List.map_map];rfl,?_),by rw[e,j,List.map_map];rfl,λt m=>?_,i.length_eq)
 ·rw[j,List.pairwise_map] at s;rw[List.pairwise_map];exact s
 ·obtain ⟨a,b,c⟩:=t;exact r _ (List.of_mem_zip<|i.mem_iff.mp m).2
section
variable{X:Cx}{pins:List (Addr×Obj)}{σ:L2.St}{H:Hp}{s:Shared}
theorem ZM(I:Inv X pins σ H s):Inv (Ln X) pins σ H s :=
 ((I.ok.mod,I.ok.kind,I.ok.glob,I.ok.blt,I.ok.above,I.ok.inj,I.ok.has,I.ok.cab,I.ok.hd,I.ok.frames,I.ok.stk,I.ok.exf,I.ok.bs,I.ok.bsz,I.ok.noex,I.ok.exfs,I.ok.funs,I.ok.frf),I.os,I.bare,I.base,I.loc,I.cell,I.free,I.freeC,I.pin,I.hok,I.len)
theorem aW(I:Inv (Ln X) pins σ H s):Inv X pins σ H s :=
 ((I.ok.mod,I.ok.kind,I.ok.glob,I.ok.blt,I.ok.above,I.ok.inj,I.ok.has,I.ok.cab,I.ok.hd,I.ok.frames,I.ok.stk,I.ok.exf,I.ok.bs,I.ok.bsz,I.ok.noex,I.ok.exfs,I.ok.funs,I.ok.frf),I.os,I.bare,I.base,I.loc,I.cell,I.free,I.freeC,I.pin,I.hok,I.len)
theorem nW{h':Heap}{t' n:Nat}{its:List Value}{ys:List V}(I:Inv X pins σ H s)(A:Cv X pins H a)(k:∀b o,b≠a->s.heap.get? b=some o->h'.get? b=some o)(h:h'.get? a=some { cls:=.type "list", data:=.seq its.toArray n }) (C:Al ys its) (w:ys.length<=sizeLine):Inv X pins σ (As H a<|.lst ys) { s with heap:=h',toks:=t' }:=by
 obtain ⟨p,g,G,D,x,t⟩:=A;have f:∀b u,H b=some u->b≠a:=λb u e z=>by rw[z,p] at e;cases e
 refine I.step (g':=s.gens) (d':=s.drawn) (ch:=[a]) (λb E=>?_) (λb o _ _ d e _=>k b o (λz=>d (by simp[z])) e) (λb o _ _ d e _=>(o.slots,k b o (λz=>d (by simp[z])) e)) (λb o d e n=>by rw[AL<|λz=>d (by simp[z])];exact n)
  (λb o d e=>(o,k b o (λz=>d (by simp[z])) e)) (λb _ e=>by rw[AL<|f b _ e];exact e) (λb _ _ e=>by rw[AL<|f b _ e];exact e) (λb J e=>(#[],by rw[AL<|f b _ e,e];simp)) (λm l=>?_) (λb u e=>?_) I.bare
 ·have e:b=a:=by simpa using E
  subst e;exact (D,g,x,t)
 ·obtain ⟨o,F,j,B,r⟩:=l;exact (o,F,j,k _ o (rC g) B,r)
 ·by_cases z:b=a
  ·subst z;rw[A4] at e;cases e;exact (w,its,n,C,h)
  ·rw[AL z] at e;refine (I.hok b u e).stay (λc v d q=>k c v ?_ q) (λc q=>by rw[AL<|f c _ q];exact q) λc i q=>by rw[AL<|f c _ q];exact q
   rcases d with y|y
   ·rw[y];exact z
   ·exact f c _ y
theorem N2{h':Heap}{t':Nat}(I:Inv X pins σ H s)(c:Cv X pins H a)(k:∀b o,b≠a->s.heap.get? b=some o->h'.get? b=some o):Inv X pins σ H { s with heap:=h',toks:=t' } :=
 let ⟨hn,hL,_,h1,h2,h3⟩:=c;I.turned k hn hL h1 h2 h3
variable{A:Around}{E:Value->Shared->Prop}{a kS:Addr}{vs:List Value}{xs:List V}{kz:List Int}{keys:Array Value}{e e1:Nat}{P:PySem.Fin->Shared->Prop}
theorem RD{st:SortSt}(I:Inv X pins σ H s)(Q:Cv X pins H kS)(S:Cv X pins H a)(i:kS≠a)(N:s.heap.get? kS=some (seqObj "list" keys e)) (na:s.heap.get? a=some (seqObj "list" #[] e1))
 (G:IntsAre keys.toList kz) (C:kz.length=vs.length) (Y:vs.length<64) (D:Al xs vs) (hp:(arrOf st).Perm (keys.zip vs.toArray)) (K:SortedTo (arrOf st) (arrOf st).size) (j:failedOf st=none)
 (h:∀x ys,Inv X pins σ (As H a<|.lst ys) x->KsOut kz xs ys->P (.done<|.ret .none) x):wpAny (model X.prog X.w) A (ksk_tail a false e1 (.ref kS) st) P E s:=by
 have f:keys.size=vs.length:=by
  have W:=G.length;rw[rT] at W;omega
 have d:(arrOf st).size=vs.length:=by rw[hp.size_eq,Array.size_zip,f,Qh,Nat.min_self]
 have J:=Heap.SameBut.update s.heap kS<|Obj.mapSeq λ_=>(#[]:Array Value);have c:(s.heap.update kS<|Obj.mapSeq λ_=>(#[]:Array Value)).get? a=some (seqObj "list" #[] e1):=(J.2 a i.symm).trans na;have O:=Heap.SameBut.update (s.heap.update kS<|Obj.mapSeq λ_=>(#[]:Array Value)) a<|Obj.mapSeq λ_=>(arrOf st).map (·.2);obtain ⟨u,hc2⟩:∃u,((s.heap.update kS<|Obj.mapSeq λ_=>(#[]:Array Value)).update a<|Obj.mapSeq λ_=>(arrOf st).map (·.2)).get? a=some (seqObj "list" ((arrOf st).map (·.2)) u) :=
  (_,get?_update_seq c λ_=>(arrOf st).map (·.2))
 unfold ksk_tail
 try dsimp only
 refine qM<|listUpdate_at N rfl ?_ (by rw[f,rX]; omega)<|Qe _;refine qM<|wpAny_letGo ?_;refine qM<|seqEpoch_at c rfl ?_;refine qM<|listUpdate_at c rfl ?_ (Qe _)<|Q0 (Wt (by simp only[r9,s9,Array.size_map]; exact d)) (by rw[rX]; omega);rw[j]
 simp only[bne_self_eq_false,r9,s9]
 obtain ⟨U,Z,v,z⟩:=ksk_out (b:=false) (vs:=vs) G hp K
 simp only[r9,s9] at v z
 have T:=D.length;obtain ⟨g,w,B,y,F⟩:=TL (R:=RelV) (xs:=xs) T (λp hp=>by
  have m:∀ {xs:List V} {vs:List Value},Al xs vs->∀p∈xs.zip vs,RelV p.1 p.2:=fun {xs vs} r=>by
   induction r with
   | nil=>intro p hp; exact absurd hp (by simp)
   | cons a b k =>
    intro p hp;rw[List.zip_cons_cons] at hp;rcases Qd.mp hp with rfl | hp
    ·exact a
    ·exact k p hp
  exact m D p hp) (U,Z,v,z)
 have l:Al (g.map (·.2.1)) ((arrOf st).map (·.2)).toList:=by
  rw[B];clear B w F
  induction g with
  | nil=>exact .nil
  | cons t r k=>exact .cons (y t<|.head _)<|k λt M=>y t<|.tail _ M
 have L:(g.map (·.2.1)).length<=sizeLine:=by
  rw[Q1,F,List.length_zip,List.length_zip,rX]; omega
 have I1:=N2 (h':=s.heap.update kS<|Obj.mapSeq λ_=>(#[]:Array Value)) (t':=s.toks) I Q λb o n q=>(J.2 b n).trans q;have I2:=nW (h':=(s.heap.update kS<|Obj.mapSeq λ_=>(#[]:Array Value)).update a<|Obj.mapSeq λ_=>(arrOf st).map (·.2)) (t':=s.toks) (n:=u) (its:=((arrOf st).map (·.2)).toList) I1 S (λb o n q=>(O.2 b n).trans q) (by rw[Array.toArray_toList]; exact hc2) l L;exact qS<|h _ _ I2 w
theorem fQ(I:Inv X pins σ H s)(t:Cv X pins H kS)(u:Cv X pins H a)(g:kS≠a)(p:s.heap.get? kS=some (seqObj "list" keys e)) (r:s.heap.get? a=some (seqObj "list" #[] e1))
 (l:IntsAre keys.toList kz) (c:kz.length=vs.length) (d:vs.length<64) (o:Al xs vs)
 (h:∀n ys,Inv X pins σ (As H a<|.lst ys) n->KsOut kz xs ys->P (.done<|.ret .none) n):wpAny (model X.prog X.w) A (ksk_end a false vs.toArray e1 (.ref kS) keys) P E s:=by
 have k:keys.size=vs.length:=by
  have B:=l.length;rw[rT] at B;omega
 have f:(keys.zip vs.toArray).size=vs.length:=by rw[Array.size_zip,k,Qh,Nat.min_self]
 unfold ksk_end
 try dsimp only
 simp only[r9,s9]
 by_cases h2:vs.toArray.size<2
 ·rw[qK h2,qK h2]
  refine qM<|qS ?_;rw[StateT.run_pure];refine qM<|qS ?_
  try dsimp only
  refine RD (st:=SortSt.mk' general' (keys.zip vs.toArray) #[] 7 none) I t u g p r l c d o (Array.Perm.refl _) ?_ rfl h;intro i j x C;have m:=C;rw[f] at m;rw[Qh] at h2;have:i=j:=⋯;subst this;exact Int.le_refl _
 ·rw[qI h2,qI h2]
  rw[Qh] at h2;rw[ksk_kind l (by rw[k]; omega)];refine qM<|qS ?_;refine qM<|rE (wpS_sortRuns (a₀:=keys.zip vs.toArray) (st:=SortSt.mk' oneType' (keys.zip vs.toArray) #[] 7 none)
   (Q:=λ_ b=>(arrOf b).Perm (keys.zip vs.toArray)/\failedOf b=none/\SortedTo (arrOf b) (keys.zip vs.toArray).size)
   (ksk_intKeys l) (Array.Perm.refl _,rfl,rfl,rfl) (by rw[f]; omega) (by rw[f]; exact d) λb D y w=>(D,y,w)) ?_ λ_ _ e=>e
  rintro ⟨⟨⟩,b⟩ n ⟨rfl,q,z,v⟩
  try dsimp only
  exact RD I t u g p r l c d o q (by rw[q.size_eq]; exact v) z h
abbrev Pr(X:Cx)(A:Around)(σ:L2.St)(H:Hp)(f:Value)(xs:List V)(kz:List Int):Prop:=∀ (i:Nat) (x:V) (v:Value) (k:Int),xs[i]? = some x → RelV x v → kz[i]? = some k → ∀ (b:List (Addr × Obj)) (d:Hp) (g:Shared),Ad H d → Inv X b σ d g →
 wpAny (model X.prog X.w) A (call f [v]) (EP X b σ λr c=>r = .int k/\Ad d c) (λ_ _=>False) g
theorem Zv(I:Inv X pins σ H s)(fk:Cv X pins H kS)(fa:Cv X pins H a)(C:kS≠a)(nk:s.heap.get? kS=some (seqObj "list" #[] 0)) (na:s.heap.get? a=some (seqObj "list" #[] e1))
 (G:kz.length=vs.length) (N:vs.length<64) (S:Al xs vs) (F:Pr X A σ H f xs kz)
 (h:∀m g ys,Ad H g->Cv X pins g a->Inv X pins σ (As g a<|.lst ys) m->KsOut kz xs ys->P (.done<|.ret .none) m):wpAny (model X.prog X.w) A (ksk_rest a f false vs.toArray e1<|.ref kS) P E s:=by
 unfold ksk_rest;refine qM<|wpAny_rule ?_
 first
  | rw[List.forIn_toArray]
  | (rw[<-Array.forIn_toList]; simp only[List.toList_toArray])
  | rw[<-Array.forIn_toList]
 refine qM<|ksk_fold (λi m=>∃g l e,Inv X pins σ g m/\Ad H g/\Cv X pins g kS/\Cv X pins g a/\m.heap.get? kS=some (seqObj "list" l e)/\m.heap.get? a=some (seqObj "list" #[] e1)/\IntsAre l.toList (kz.take i)) vs 0 s
  (H,#[],0,I,λ_ _ z=>z,fk,fa,nk,na,by simpa using IntsAre.nil) ?step ?done
 case step =>
  rintro j x m U ⟨g,l,e,L,J,d,c,t,y,B⟩
  simp only[Nat.zero_add] at B ⊢
  have hj:j<vs.length:=(Qr.mp U).1;obtain ⟨k,hkj⟩:∃k,kz[j]?=some k:=(_,Q6 ⋯);have hz:l.size<=vs.length:=by
   have h1:=B.length;rw[rT,Qn] at h1;omega
  have lv:=S.length;obtain ⟨K,hx',rx⟩:∃K,xs[j]?=some K/\RelV K x:=by
   obtain ⟨u,Z,ru⟩:=S.get<|Q6 (show j<xs.length by omega);rw[U] at Z; cases Z;exact (_,Q6 ⋯,ru)
  have I2:Inv X (pins++[(kS,seqObj "list" l e),(a,seqObj "list" #[] e1)]) σ g m:=L.pins_of λp hp=>by
   rcases Qp.mp hp with hp | hp
   ·exact L.pin p (Qm _ hp)
   ·rcases Qd.mp hp with rfl | hp
    ·exact (t,d.1,d.2.1,d.2.2.1,λv z=>by cases z)
    ·rw[Qf.mp hp]
     exact (y,c.1,c.2.1,c.2.2.1,λv z=>by cases z)
  refine qM<|wpAny_attempt<|rE (F j K x k hx' rx hkj _ g m J I2) (λv r he=>?_) λ_ _ hF=>hF.elim;obtain ⟨v',O,Q,rv,rfl,S2⟩:=he;obtain ⟨w,rfl⟩:=rv
  try dsimp only
  have M:=Q.pin (kS,seqObj "list" l e)<|Qm _<|Qm _<|.head _;have W:=Q.pin (a,seqObj "list" #[] e1)<|Qm _<|Qm _<|.tail _<|.head _;have I4:Inv X pins σ O r:=Q.unpinned;have Y:=Heap.SameBut.update r.heap kS<|Obj.mapSeq (·.push (.int k w));obtain ⟨R,hc2⟩:∃R,(r.heap.update kS<|Obj.mapSeq (·.push (.int k w))).get? kS=some (seqObj "list" (l.push<|.int k w) R):=(_,get?_update_seq M.1 (·.push (.int k w)));have ek:kz.take (j+1)=kz.take j++[k]:=by rw[Ul,hkj]; simp
  have ea:(l.push<|Value.int k w).toList=l.toList++[Value.int k w]:=by simp
  refine qM<|listUpdate_at M.1 rfl ?_ (by rw[rX]; omega)<|Q0 (Wt<|Array.size_push ..) (by rw[rX]; omega);have D:Cv X pins O kS:=(M.2.1,d.2);exact qS (rfl,O,l.push<|.int k w,R,N2 (t':=r.toks) I4 D<|λb o n q=>(Y.2 b n).trans q,λb o q=>S2 _ _<|J _ _ q,D,(W.2.1,c.2),hc2,(Y.2 a C.symm).trans W.1,by rw[ea,ek]; exact ksk_snoc B)
 case done =>
  rintro m ⟨g,l,e,L,J,d,c,t,y,B⟩;have T:IntsAre l.toList kz:=by
   have e3:kz.take (0+vs.length)=kz:=Ux ⋯;rw[e3] at B;exact B
  try dsimp only
  refine qM<|listItems_at t rfl ?_;exact fQ L d c C t y T G N S λs2 ys i2 ko=>h s2 g ys J c i2 ko
theorem pH(I:Inv X pins σ H s)(p:Cv X pins H a)(i:s.heap.get? a=some (seqObj "list" vs.toArray n)) (d:kz.length=vs.length) (j:vs.length<64) (u:Al xs vs) (g:Pr X A σ H f xs kz)
 (h:∀m k ys,Ad H k->Cv X pins k a->Inv X pins σ (As k a<|.lst ys) m->KsOut kz xs ys->P (.done<|.ret .none) m):wpAny (model X.prog X.w) A (ksk_tree a f false) P E s:=by
 have r:a<s.heap.objs.size:=qN i;have w:=Heap.SameBut.update s.heap a<|Obj.mapSeq λ_=>(#[]:Array Value);obtain ⟨e1,ho1⟩:∃e1,(s.heap.update a<|Obj.mapSeq λ_=>(#[]:Array Value)).get? a=some (seqObj "list" #[] e1):=(_,get?_update_seq i λ_=>#[]);have t:=N2 (t':=s.toks) I p λb o n q=>(w.2 b n).trans q;have c:((s.heap.update a<|Obj.mapSeq λ_=>(#[]:Array Value)).push<|seqObj "tuple" vs.toArray 0).objs.size=s.heap.objs.size+1:=by rw[size_push',Heap.size_update]
 unfold ksk_tree;refine qM<|listItems_at i rfl ?_;refine qM<|listUpdate_at i rfl ?_ (by rw[Qh,rX]; omega)<|Qe _;refine qM<|seqEpoch_at ho1 rfl ?_;refine qM<|wpAny_newTuple ?_ (by show vs.length<=_; rw[rX]; omega);refine qM<|wpAny_newList ?_<|Qe _;refine rY ?_;have l:∀b o,(s.heap.update a<|Obj.mapSeq λ_=>(#[]:Array Value)).get? b=some o->(((s.heap.update a<|Obj.mapSeq λ_=>(#[]:Array Value)).push<|seqObj "tuple" vs.toArray 0).push<|seqObj "list" #[] 0).get? b=some o:=λb o q=>qJ _<|qJ _ q;have v:=t.kept (t':=s.toks) l;refine Zv (s:={ s with heap:=((s.heap.update a<|Obj.mapSeq λ_=>(#[]:Array Value)).push<|seqObj "tuple" vs.toArray 0).push (seqObj "list" #[] 0) }) (kS:=((s.heap.update a<|Obj.mapSeq λ_=>(#[]:Array Value)).push<|seqObj "tuple" vs.toArray 0).objs.size) v ?_ p (by rw[c]; exact Nat.ne_of_gt<|Nat.lt_succ_of_lt r) (qO _ rfl) (l _ _ ho1) d j u g h;exact I.fpOk (by rw[c]; exact Ud _)<|I.hok.fresh (by rw[c]; exact Ud _)
theorem pV{f l:Addr}{Q:VK}(I:Inv X pins σ H s)(C:H l=some (.lst xs))(t:kz.length=xs.length)(B:xs.length<64)(k:Pr X X.A.in1.in1 σ H (.ref f) xs kz)
 (h:∀D j ys,Ad H j->H D=none->j D=none->KsOut kz xs ys->Q (.ref D) (As j D<|.lst ys)):wpAny (model X.prog X.w) X.A (call (.builtin "sorted") [.ref l] [(Str.ofString "key", .ref f)]) (EP X pins σ Q) X.xe s:=by
 obtain ⟨z,vs,n,u,v⟩:=I.hok l _ C;have F:=u.length;refine call_function_entry_kw kind_sorted plain_sorted entry_sorted (ksk_s1 _ _) ?_;unfold Builtin.«sorted»;refine qM (m:=checkCount "sorted" 1 1 _)<|qS ?_;refine qM<|collect_list (_,v,rfl,n,rfl) ?_ (by rw[rX]; omega);refine qM<|wpAny_newList ?_ (by rw[rX]; omega);have c:((s.heap.push<|seqObj "list" #[] 0).update s.heap.objs.size<|Obj.mapSeq (· ++ vs.toArray)).objs.size=s.heap.objs.size+1:=by
  rw[Heap.size_update,size_push']
 have g:(((s.heap.push<|seqObj "list" #[] 0).update s.heap.objs.size<|Obj.mapSeq (· ++ vs.toArray)).push<|seqObj "list" vs.toArray 0).get? (s.heap.objs.size+1)=some (seqObj "list" vs.toArray 0):=by
  rw[<-c]; exact qO _ rfl
 have i:∀b o,s.heap.get? b=some o->(((s.heap.push<|seqObj "list" #[] 0).update s.heap.objs.size<|Obj.mapSeq (· ++ vs.toArray)).push<|seqObj "list" vs.toArray 0).get? b=some o:=λb o q=>by
  have d:=qN q;rw[Heap.get?_push_ne _ _ _ (by rw[c]; exact Qb<|Nat.lt_succ_of_lt d),Heap.get?_update_ne _ _ _ _<|Qb d,Heap.get?_push_ne _ _ _<|Qb d];exact q
 rw[c];have r:=I.hok.fresh<|Ud _;refine qM<|rY<|wpAny_call_entry_kw slot_list_sort (_,g,rfl) entry_list_sort ?body<|ksk_l1 _ _
 case body =>
  rw[ksk_t1];exact pH (s:={ s with heap:=((s.heap.push<|seqObj "list" #[] 0).update s.heap.objs.size<|Obj.mapSeq (· ++ vs.toArray)).push (seqObj "list" vs.toArray 0) }) (I.kept (t':=s.toks) i) (I.fpOk (Ud _) r) g ⋯ ⋯ u k λG j ys x p w y=>(_,rfl,qS (_,rfl,.ref<|s.heap.objs.size+1,_,w,rfl,h _ j ys x r p.1 y))
end
end Lake.Zp
namespace Lake.Zp
open My
open PySem PySem.Spec L2 PyProof.Rows
section
variable{X:Cx}{pins:List (Addr×Obj)}{σ:L2.St}{H:Hp}{s:Shared}{Q:VK}{f c' c:Addr}{name qual:Str}{params:Arguments}{body:Expr}{scope:Scope}{pm ctv:Value}{oc:Obj}{vs:Array Value}{t:Tok}{x y:Str}{v wv:V}{u:Value}{te:TE}{k i:Nat}
theorem Yg(I:Inv X pins σ H s)(S:Av (k+1) X.A)(hf:H f=some (.frz (PySem.W.kla_obj name qual params body scope [(y,c)] pm c' ctv)<|.own f))(hc:H c'=some (.frz oc<|.own c'))(K:oc.data = .fields vs)(hv:vs[1]?=some (.str qual t))
 (U:scope.kind = .function) (sg:scope.isGenerator=false) (so:scope.isCoroutine=false) (sc:∀z∈scope.names,z.2 ≠ .cell) (W:scope.names.lookup x=some .local) (sf:∀z,(scope.names.lookup z=some .cell\/scope.names.lookup z=some .free)->z=y) (vf:scope.names.lookup y=some .free)
 (C:X.env.cells.lookup y=some c) (T:X.env.scope.names.lookup y=some .cell) (hN:X.N[i]?=some y) (hw:σ[i]?=some (some wv)) (hb:bindArgs (PySem.W.kla_fn name qual params body scope [(y,c)] pm (.ref c') ctv) ([u],[])=pure [(x,u)]) (ru:RelV v u)
 (Z:PE (Lv X [x,y] qual scope f (.ref c') [(y,c)] s H) body te) (h:te [some v,some wv] H Q) :
 wpAny (model X.prog X.w) X.A (call (.ref f) [u]) (EP X pins σ Q) X.xe s:=by
 have L:=(I.hok c' _ hc).1;have O:=(I.hok f _ hf).1;obtain ⟨v0,o0,G,P⟩:=I.cell y c C;obtain ⟨D,rw',hcw⟩:∃D,RelV wv D/\s.heap.IsCell c (some D):=by
  obtain ⟨m,hn,hl⟩:=I.loc;obtain ⟨D,r,l⟩:=hl i y wv hN hw<|.inr<|.inl T;rcases l with ⟨kk,_⟩ | ⟨_,g,ec,z⟩
  ·have:=T.symm.trans kk; cases this
  ·have:=C.symm.trans ec; cases this
   exact (D,r,z)
 refine wpAny_call (codeAny_mono (R:=λr Y=>∃u,r = .ok (.ret u)/\EP X pins σ Q u Y) ?_ λr Y ⟨u,e,q⟩=>by subst e; exact q);refine PySem.W.kla_callFunE (by have:=S.dp; omega) O rfl so sg rfl (c',oc,vs,t,rfl,L,K,hv) ?_;show wpAny _ _ (bindArgs (PySem.W.kla_fn name qual params body scope [(y,c)] pm (.ref c') ctv) ([u],[])) _ _ _;rw[hb];refine qS<|wpAny_newFunctionEnv sc (λz M=>by rw[Qf.mp M]; exact W) (λn F N=>?_) U;have a:∀b o,s.heap.get? b=some o->n.get? b=some o:=λb o e=>N.extBut b o (Qb<|qN e)<|qJ _ e;refine (I.nolimit.keeps a,?_);show codeAny _ _ (.expr body<|PySem.W.envX qual scope s.heap.objs.size f (.ref c') [(y,c)]) _ _;have d:∀z g,List.lookup z [(y,c)]=some g->z=y/\g=c:=λz g e=>by
  have:=qY e;rw[Qf] at this
  cases this; exact (rfl,rfl)
 have J:Inv (Lv X [x,y] qual scope f (.ref c') [(y,c)] s H) [] [some v,some wv] H { s with heap:=n,toks:=s.toks+1 }:=by
  have A:∀b:Addr,b∉(Lv X [x,y] qual scope f (.ref c') [(y,c)] s H).ex:=λb z=>absurd (show b∈([]:Ay) from z) (by simp);refine ((I.mod,U,rfl,rfl,Q4 _,λy1 z c j B=>(d _ _ j).1.trans (d _ _ B).1.symm,λz M=>(c,by rw[sf z M]; show List.lookup y [(y,c)]=_; simp),λy c z _=>(nomatch z),λ_=>S.hd,Around.frames_deeper I.ok.frames,.inr (rfl,rfl),λb z=>absurd z<|A b,λb o e=>I.bs b o e,Q0 I.ok.bsz I.sz,λb _ _=>A b,λb z=>absurd z<|A b,I.stack,λb z=>I.stkFree b z),
   rfl,I.bare,Un.kept a,(_,F,λi z w j B h3=>?_),λz g e=>?_,I.hok.fresh<|Q4 _,λz g e=>?_,λp hp=>absurd (show p∈([]:List (Addr×Obj)) from hp) (by simp),I.hok.kept a,rfl)
  ·match i,j,B with
   | 0,j,B =>
    cases j; cases B
    refine (u,ru,.inl (W,?_));show List.lookup x [(x,u)]=some u
    simp
   | 1,j,B =>
    cases j; cases B
    obtain ⟨o,ho,K⟩:=hcw;exact (D,rw',.inr (.inr vf,c,by show List.lookup y [(y,c)]=_; simp,o,a _ _ ho,K))
   | i+2,j,_=>exact absurd (show ([]:List Str)[i]?=some z from j) (by simp)
  ·obtain ⟨rfl,rfl⟩:=d z g e
   exact (v0,o0,a _ _ G,P)
  ·obtain ⟨rfl,rfl⟩:=d z g e
   exact I.freeC z g C
 refine PySem.W.kla_codeExpr<|rE (Z [] _ _ _ _ J h) (λu2 s3 ⟨v3,H3,E,r3,q3⟩=>?_) λ_ _ z=>z.elim;exact (u2,rfl,I.after (v3,H3,E.os,E.bare,E.base,E.hok,r3,q3))
end
end Lake.Zp
namespace Lake.My
open PySem L2 PyProof.Rows
section
variable{κ:KX}
theorem P1(h:Sr κ){us vs:Ab κ}(p:us.Perm vs):prL h us=prL h vs:=by
 induction p with
 |nil=>rfl
 |cons x _ c=>show lx x*_=lx x*_;rw[c]
 |swap x y l=>show lx y*(lx x*_)=lx x*(lx y*_);grind
 |trans _ _ a b=>exact a.trans b
theorem Yu(c:κ.F)(h:Sr κ)(us:Ab κ):cn c*prL h us=prL (cn c*h) us:=by
 rw[Fp h,Fp<|cn c*h];grind
theorem Ge{h:Sr κ}(m:Bl h n):∀us:Ab κ,Bl (prL h us)<|n+us.length
 | []=>m
 |r::us=>(Ge m us).lx r
theorem Te{h:Sr κ}{c r:κ.F}(b:Bf h n)(k:c≠0){us:Ab κ}(e:Ev (cn c*prL h us) r 0):r∈us:=rJ λg=>by
 obtain ⟨w,i,d⟩:=Ms (r:=r) us λu j z=>g<|z ▸ j;obtain ⟨v,a⟩:=Ev.ex b.mn.fs r;have f:v≠0:=λz=>b.nr r<|z ▸ a;have:=(Ev.cn r c).mul<|i.mul a;rw[<-Fp] at this;exact F0 k (F0 d f)<|this.one e
theorem WK{h:Sr κ}(e:Fs h){c r:κ.F}{us:Ab κ}(d:r∈us):Ev (cn c*prL h us) r 0:=by
 obtain ⟨a,b,rfl⟩:=List.append_of_mem d;rw[P1 h<|List.perm_middle (a:=r) (l₁:=a) (l₂:=b)];exact (cn c*prL h (a++b),(Fs.cn c).mul<|e.prL _,by show cn c*(lx r*prL h (a++b))=_;rw[Ef];grind)
theorem Pw{h:Sr κ}{c:κ.F}(d:Bf h n)(f:c≠0):∀(ws us:Ab κ) (t:Sr κ),Fs t->cn c*prL h us=prL t ws->∃vs:Ab κ,us.Perm (ws++vs)/\t=cn c*prL h vs
 | [],us,t,_,e=>(us,.refl _,e.symm)
 |w::ws,us,t,ft,e=>by
  have e:cn c*prL h us=lx w*prL t ws:=e;have j:w∈us:=Te d f (prL t ws,ft.prL ws,by rw[e,Ef];grind);obtain ⟨a,b,rfl⟩:=List.append_of_mem j;have p:(a++w::b).Perm (w::(a++b)):=List.perm_middle;rw[P1 h p] at e;have g:lx w*(cn c*prL h (a++b))=lx w*prL t ws:=by rw[<-e];show _=cn c*(lx w*prL h (a++b));grind
  obtain ⟨vs,pv,i⟩:=Pw d f ws (a++b) t ft<|S5 ((Fs.cn c).mul<|d.mn.fs.prL _) (ft.prL ws) g;exact (vs,p.trans<|pv.cons w,i)
theorem Mx{f:Ab κ}{s:Sr κ}{c:κ.F}(t:Bj f)(b:c≠0)(a:Bl s m)(e:sr f=cn c*s):f.length=m+1:=by
 have k:∀j,f.getD j 0=c*s.c j:=λj=>by rw[<-AM,e,DA]
 have g:=Nat.lt_of_not_le λl=>by
  have:=k m;rw[a.1,Q3,U1 l] at this;have:(0:κ.F)=c*1:=this;exact b (by grind)
 have d:¬m+1<f.length:=λl=>by
  have:=F7 t ⋯;rw[k,a.2 _ ⋯] at this;exact this (by grind)
 omega
theorem iD{E:Sr κ}{k:κ.F}(k0:k≠0)(h:Cp E (der E)):Cp (cn k*E) (der<|cn k*E):=by
 obtain ⟨u,v,a,b,e⟩:=h;have i:=EK k0;refine (cn (Fd.inv k)*u,cn (Fd.inv k)*v,(Fs.cn _).mul a,(Fs.cn _).mul b,?_);rw[Tf];have:cn (Fd.inv k)*u*(cn k*E)+cn (Fd.inv k)*v*(cn k*der E)=cn (Fd.inv k)*cn k*(u*E+v*der E):=by grind
 rw[this,e,i];grind
theorem i9{κ:KX}{x:κ.F}(a:x≠0):Cp (sr [x]) (der<|sr [x]) :=
 (cn<|Fd.inv x,0,Fs.cn _,Fs.zero,by have i:=EK a;show cn (Fd.inv x)*cn x+_=1;rw[i];grind)
end
theorem oF{f G:List KX.q.F}(b:Bj f)(l1:1<=f.length)(e:sr G=der (sr f))(l:G.length<=f.length-1):G.length+1=f.length:=by
 by_cases z:f.length=1
 ·omega
 ·have:¬G.length<=f.length-2:=λy=>by
   have k:(sr G).c (f.length-2)=0:=by rw[AM,Q3,U1 y]; rfl
   rw[e,D1,AM,show f.length-2+1=f.length-1 by omega] at k;have a:=K6<|f.length-2;rw[show f.length-2+1=f.length-1 by omega] at a;exact F0 a (F7 b ⋯) k
  omega
def pd:List KX.q.F->Nat
 | []=>1
 |r::us=>Rat.den r*pd us
def pm:List KX.q.F->Nat
 | []=>1
 |r::us=>(Rat.den r+(Rat.num r).natAbs)*pm us
theorem EU:∀us,0<pd us
 | []=>Nat.one_pos
 |r::us=>Qg (Uc r)<|EU us
theorem FA:∀us,pd us<=pm us
 | []=>Q4 _
 |r::us=>Qk (Uw _ _)<|FA us
theorem Tv(vs:List KX.q.F):∀us,pd (us++vs)=pd us*pd vs
 | []=>(Qz _).symm
 |r::us=>by show _*pd (us++vs)=_*pd us*pd vs;rw[Tv vs us,W8]
theorem OB(vs:List KX.q.F):∀us,pm (us++vs)=pm us*pm vs
 | []=>(Qz _).symm
 |r::us=>by show _*pm (us++vs)=_*pm us*pm vs;rw[OB vs us,W8]
theorem kO{us vs:List KX.q.F}(p:us.Perm vs):pd us=pd vs:=by
 induction p with
 |nil=>rfl
 |cons x _ c=>show _*pd _=_*pd _;rw[c]
 |swap x y l=>exact Nat.mul_left_comm ..
 |trans _ _ a b=>exact a.trans b
theorem Vr{us vs:List KX.q.F}(p:us.Perm vs):pm us=pm vs:=by
 induction p with
 |nil=>rfl
 |cons x _ c=>show _*pm _=_*pm _;rw[c]
 |swap x y l=>exact Nat.mul_left_comm ..
 |trans _ _ a b=>exact a.trans b
theorem Ju(r:KX.q.F):QN .q ((Rat.den r:Nat):Int) (Rat.num r).natAbs r:=(Rat.num r,(W4 r).symm,Q4 _)
theorem HI{D E M N:Nat}{x:KX.q.F}(h:QN .q (D:Int) M x)(e:D=E)(l:M<=N):QN .q (E:Int) N x:=by subst e;exact h.mono l
theorem PP{h:Sr .q}{D M:Nat}(e:0<D)(q:∀k,QN .q (D:Int) M<|h.c k):∀(us:List KX.q.F) (k:Nat),QN .q ((D*pd us:Nat):Int) (M*pm us)<|(prL h us).c k
 | [],k=>HI (q k) (Ub _).symm<|Wt (Ub _).symm
 |r::us,k=>by
  have c:=PP e q us;show QN .q ((D*(Rat.den r*pd us):Nat):Int) (M*((Rat.den r+(Rat.num r).natAbs)*pm us)) ((lx r*prL h us).c k);rw[FL];have d:=Qg e<|EU us;have g:QN .q ((D*pd us*Rat.den r:Nat):Int) (M*pm us*Rat.den r) (if k=0 then 0 else (prL h us).c (k-1)):=by
   split
   ·exact QN.zero
   ·exact QN.upN d (Uc r) (c<|k-1)
  have i:=HI (QN.mulN (Ju r)<|c k) (Wj _ _)<|Q4 _;have f:=QN.sub (by have:=Qg d<|Uc r;omega) g i;generalize Rat.den r=a at *;generalize (Rat.num r).natAbs=b at *;exact HI f (by rw[W8,Wj<|pd us])<|Wt (by grind)
theorem SZ:∀ {us:List KX.q.F} {r:KX.q.F},r∈us->QN .q (pd us:Int) (pm us) r
 |u::us,r,h=>by
  rcases Qd.mp h with e|h
  ·subst e;exact (QN.upN (Uc r) (EU us)<|Ju r).mono<|Qk (Nat.le_add_left _ _)<|FA us
  ·have:=QN.upN (EU us) (Uc u)<|SZ h;exact HI this (Wj _ _) (by rw[Wj];exact W2 _<|Uw _ _)
structure Fz (f:List KX.q.F) (h:Sr .q) (n:Nat) (us:List KX.q.F) (c:KX.q.F) (D M:Nat):Prop where
 e:sr f=cn c*prL h us
 c0:c≠0
 rl:Bf h n
 tf:Bj f
 l8:f.length<=8
 qh:∀k,QN .q (D:Int) M ((cn c*h).c k)
 d0:0<D
 d1:D<=2^30
 m0:0<M
 sz:M*pm us<=2^220
variable{f:List KX.q.F}{h:Sr .q}{us:List KX.q.F}{n D M:Nat}{c:KX.q.F}
theorem Fz.pm(z:Fz f h n us c D M):My.pm us<=2^220:=Q0 (Wi _ z.m0) z.sz
theorem Fz.len(z:Fz f h n us c D M):f.length=n+us.length+1:=Mx z.tf z.c0 (Ge z.rl.mn us) z.e
theorem Fz.hb(z:Fz f h n us c D M){ws g:List KX.q.F}(j:sr f=prL (sr g) ws):∀x∈g,QN .q ((D*pd us:Nat):Int) (M*My.pm us) x:=λx d=>by
 obtain ⟨a,p,e⟩:=Pw z.rl z.c0 ws us (sr g) (Fs.sr g)<|z.e.symm.trans j;obtain ⟨i,k⟩:=rM d;have b:x=(sr g).c i:=by rw[AM,Q3,k];rfl
 rw[b,e,Yu];have q:=QN.upN (Qg z.d0<|EU a) (EU ws)<|PP z.d0 z.qh a i;refine HI q ?_ ?_
 ·rw[kO p,Tv,W8,Wj<|pd a]
 ·rw[Vr p,OB,W8,Wj<|My.pm a];exact Qq _<|W2 _<|FA ws
theorem Fz.dp(z:Fz f h n us c D M):0<D*pd us/\D*pd us<=2^250:=(Qg z.d0<|EU us,by
 have:=Qk z.d1<|Q0 (FA us) z.pm
 rwa [<-Wd] at this)
theorem pA{A:List Int}{k:KX.q.F}{E:Sr .q}{m:Nat}(k0:k≠0)(t:A.length=m+1)(m7:m<=7)(w:sr (A.map<|zi (κ:=.q))=cn k*E)(u:Bl E m)(v:Cp E (der E))(b:∀a∈A,a.natAbs<=2^225):∃n,n<3000/\Zp.Fits A n:=by
 have i:=w;rw[IP] at i;have j:∀d,zi (κ:=.q) (A.getD d 0)=k*E.c d:=λd=>by
  have:=qW (λs:Sr .q=>s.c d) i;rw[DA] at this;exact this
 have B:∀d,(A.getD d 0).natAbs<=2^225:=λd=>by
  rw[Q3]
  cases q:A[d]? with
  |none=>exact Qe _
  |some a=>exact b a<|Ql q
 have r:A.getD m 0≠0:=λz=>by
  have:=j m;rw[z,Aq,u.1] at this;exact k0 (by grind)
 by_cases m1:1<=m
 ·have o:=iD k0 v;rw[<-i] at o;obtain ⟨p,e,l,g,c⟩:=jV (A:=λd=>A.getD d 0) m1 m7 r (λd C=>by rw[Q3,U1 ⋯];rfl) B (by
   have:(14*(7*2^225))<=2^232:=∅;have:=sM this 13;rw[<-Uo] at this;refine Q0 (Qq _ this) ?_;rw[<-Wd];exact Q8 ∅ ∅) o
  exact (p,l,e,by rw[t,Wb];exact g,by rw[IP];exact c _ rfl)
 ·have y:m=0:=⋯;subst y;obtain ⟨a,rfl⟩:∃a,A=[a]:=rW.mp t;obtain ⟨p,e,l,g⟩:=R7 (N:=a) r<|Q0 (b a<|.head _)<|Q8 ∅ ∅;refine (p,l,e,g,?_);exact i9 (x:=zi (κ:=.r p e) a) λz=>g<|(EY rfl).mp z
end Lake.My
namespace Lake.Zp
open My
open PySem PySem.Spec L2 PyProof.Rows
variable{Z:Zc}{X:Cx}{P:Program}{w:World}{K:Ac}{mg:Ai}{base:Heap}
section
variable{x y:Str}{pos p2:Pos}{elt it cnd:Expr}{te:ZE}{tc:ZT}{ti:ZA}{scope:Scope}
theorem jM(i:Nat)(x:Str)(caps:List (Nat×Str)){h L:Pos}(Q:X.N.Nodup)(p:QI Z X (.Name x p2) it ti)(F:∀e b c C,QE Z (A9 X scope (x::caps.map (·.2)) b c C e) elt te)(hy:X.N[i]?=some y:=by rfl)(v:X.env.scope.names.lookup y=some .local:=by rfl)(r:AV X scope caps:=by repeat (first | exact trivial | refine And.intro (rfl,rfl,by first | exact .inl rfl | exact .inr rfl) ?_))(T:X.calm=true:=by rfl)
 (u:(x::caps.map (·.2)).Nodup:=by decide +kernel)
 (E:(scope.names.all λy=>!(y.2==NameKind.free)||(X.env.cells.lookup y.1).isSome)=true:=by rfl)
 (z:swapsWith (.ListComp elt [(.Name x p2,it,[],0)] scope pos) (some<|.Name y L) h.line X.env=pure true:=by rfl)
 (m:scope.kind = .function:=by rfl) (j:∀y∈scope.names,y.2 ≠ .cell:=by decide +kernel)
 (d:∀y∈scope.names,y.2 = .local->scope.names.lookup y.1=some .local:=by decide +kernel) (M:∀x,foldedSetIterable it X.env x=pure x:=by intro _; rfl)
 (I:∀e b c C,Loc (A9 X scope (x::caps.map (·.2)) b c C e).env.scope x/\(A9 X scope (x::caps.map (·.2)) b c C e).env.scope.names.lookup x=some .local:=by exact λ_ _ _ _=>(.inl rfl,rfl)) :
 QS Z X (.Assign [.Name y L] (.ListComp elt [(.Name x p2,it,[],0)] scope pos) h) (Iw i<|JH<|KQ caps ti te):=by
 have me:=(F [] X.s₀ X.H₀ 0).mo;refine MO (t:=KQ caps ti te) (λo A B f q=>p.mo o _ _ (λl k=>k.mo f) q) (λD D' o l q=>p.mo o _ _ (λR k=>k.mo λ_=>l.nx _) q,λJ G=>Du (KM [x] caps Q hy v T (p.ok J G) (λe b c C=>CA (i:=0) u rfl (I e b c C).1<|.inr (I e b c C).2) (λe b c C=>(F e b c C).ok J G) r E z m j d M) λD Y H ⟨O,o,s,q⟩=>Ta p.mo me Y H _ (O,o,s,p.mo o _ _ (λR k=>k.mo λl k a us H1 U n g W=>?_) q));obtain ⟨N,S⟩:=s.own U (i:=i) n g W;exact k _ _ H1 N S
theorem pC(i:Nat)(x:Str)(caps:List (Nat×Str)){h M:Pos}(R:X.N.Nodup)(p:QI Z X (.Name x p2) it ti)(J:∀d b c C,QT Z (A9 X scope (x::caps.map (·.2)) b c C d) cnd tc)(I:∀d b c C,QE Z (A9 X scope (x::caps.map (·.2)) b c C d) elt te)(hy:X.N[i]?=some y:=by rfl)(v:X.env.scope.names.lookup y=some .local:=by rfl)(r:AV X scope caps:=by repeat (first | exact trivial | refine And.intro (rfl,rfl,by first | exact .inl rfl | exact .inr rfl) ?_))(U:X.calm=true:=by rfl)
 (u:(x::caps.map (·.2)).Nodup:=by decide +kernel)
 (G:(scope.names.all λy=>!(y.2==NameKind.free)||(X.env.cells.lookup y.1).isSome)=true:=by rfl)
 (z:swapsWith (.ListComp elt [(.Name x p2,it,[cnd],0)] scope pos) (some<|.Name y M) h.line X.env=pure true:=by rfl)
 (m:scope.kind = .function:=by rfl) (j:∀y∈scope.names,y.2 ≠ .cell:=by decide +kernel)
 (e:∀y∈scope.names,y.2 = .local->scope.names.lookup y.1=some .local:=by decide +kernel) (N:∀x,foldedSetIterable it X.env x=pure x:=by intro _; rfl)
 (L:∀d b c C,Loc (A9 X scope (x::caps.map (·.2)) b c C d).env.scope x/\(A9 X scope (x::caps.map (·.2)) b c C d).env.scope.names.lookup x=some .local:=by exact λ_ _ _ _=>(.inl rfl,rfl)) :
 QS Z X (.Assign [.Name y M] (.ListComp elt [(.Name x p2,it,[cnd],0)] scope pos) h) (Iw i<|JH<|Ki caps ti tc te):=by
 have me:=(I [] X.s₀ X.H₀ 0).mo;have mc:=(J [] X.s₀ X.H₀ 0).mo;refine MO (t:=Ki caps ti tc te) (λo A B f q=>p.mo o _ _ (λl k=>k.mo f) q) (λD D' o l q=>p.mo o _ _ (λS k=>k.mo λ_=>l.nx _) q,λF E=>Du (Yp [x] caps R hy v U (p.ok F E) (λd b c C=>CA (i:=0) u rfl (L d b c C).1<|.inr (L d b c C).2) (λd b c C=>(J d b c C).ok F E) (λd b c C=>(I d b c C).ok F E) r G z m j e N) λD σ H ⟨O,o,s,q⟩=>Tt p.mo mc me σ H _ (O,o,s,p.mo o _ _ (λS k=>k.mo λl k a us H1 W n g Y=>?_) q));obtain ⟨Q,T⟩:=s.own W (i:=i) n g Y;exact k _ _ H1 Q T
end
section
variable{e:Expr}{te:ZE}{p pos:Pos}{k:Nat}
theorem nG(D:B5 X.prog X.w X.K X.mg X.base Z.r k ["self","prime"] (Hf Z.r)) (y:X.mg "Rests"=some (.ref Z.r)) (h:QE Z X e te) (A:Av (k+1) X.A:=by assumption) (t:Gl X "Rests":= by rfl) (j:starEach [e] X.env=(false,eval e X.env)::starEach [] X.env:=by rfl):QE Z X (.Call (.Name "Rests" p) [e] [] pos) (λρ Q=>∃κ,A0 ρ 0=some (.val<|.kd κ)/\TC te ρ Q) :=
 (λρ _ _ f ⟨κ,g,q⟩=>(κ,g,h.mo ρ _ _ (λp ⟨n,h,e,k⟩=>(n,h,e,f _ k)) q),λB u=>BZ (Ka D A t y (Ag (h.ok B u) An j) ∅ j rfl) λG H Q ⟨O,ρ,s,κ,g,q⟩=>(O,ρ,s,h.mo ρ _ _ (λp ⟨n,l,e,k⟩ v E d C=>by
  obtain ⟨F,_,i⟩:=s.rel 0 _ g
  cases i with|val i=>?_
  subst e;have z:=A3 C;subst z;intro x a m c r;have S2:=Bg c<|.own x;have b:As E a (.own x) x=none:=by rw[AL<|rC r];exact m
  refine (x,a,n,rfl,A4,l.pr,by have:=l.lt;omega,?_);rw[Mz];have o:=AW S2<|Bg b<|.ins Z.r a<|En n;refine (rfl,k _ _ (AW d o) ?_);unfold Rep;exact (x,rfl,(a,by rw[hide_out<|(s.ls.same d).new m];exact A4),(Kz i).same<|Ct<|AW d o)) q))
end
abbrev Zb(F R C:Addr):Zc:=(F,R,C,λ_=>False,λ_ _=>False,λ_ _ _ _ _ _=>False,λ_ _ _ _ _ _ _ _ h=>h)
theorem gd_b:Gd (Zb F R C) H:=(λ_ z=>z.elim,λ_ _ z=>z.elim)
theorem dU{Z g:Zc}(h:Rep Z H (zns A) v):Rep g H (zns A) v:=by
 obtain ⟨a,f,e,d,r⟩:=Db h;unfold zns Rep;refine (a,f,e,d,.of r.len λi p u c k=>?_);obtain ⟨l,b,j⟩:=r.get c;rw[k] at b;cases b;obtain ⟨n,m,rfl⟩:=mget c;rw[A3 j];exact rep_i
theorem fp_any{k:Nat}(h:Fn P w K mg base Y "fitting_prime" k D4):Fn P w K mg base Z "fitting_prime" k D4:=by
 obtain ⟨o,m⟩:=h.has;refine EA m h.mo λO p t H Q E l r s=>?_;obtain ⟨j,e,b,f,q⟩:=s;obtain ⟨v,rfl,c⟩:=r.one;exact (O,_,l,.cons (dU c) .nil,D4.mk j e b f λn a b v i g d=>q n a b v i g (by rw[A3 d];exact rep_i))
noncomputable def jB:List Stmt->Expr
 | [_,_,_,_,_,_,_,.Return (some<|.Call _ _ [(_,e,_)] _) _]=>e
 |_=>default
def TU:Expr->Arguments
 | .Lambda a _ _ _=>a
 |_=>default
def PJ:Expr->Expr
 | .Lambda _ b _ _=>b
 |_=>default
def JL:Expr->Scope
 | .Lambda _ _ s _=>s
 |_=>Ao HY
def LN:Expr->Pos
 | .Lambda _ _ _ p=>p
 |_=>(0,0,0,0)
abbrev Ey:Expr:=jB<|CL HY
abbrev K2:Str:=("fraction_roots" ++".<locals>.":Str) ++"<lambda>"
abbrev laT:Array Value:=#[rawInt (LN Ey).line,rawInt (LN Ey).col,.str K2 0]
theorem jA{Z:Zc}{N:List Str}{ps:List PV}{vs:List V}(l:Ls O H)(h:ps.length=N.length)(r:Af Z (hide O H) ps vs):SR Z H O O H (vs.map some) (DT N ps):=by
 refine (BI,λ_ m=>m,λ_ m => .inl m,l,?_,λi k e=>?_,λi j f m n d _=>?_,λi f a e _=>?_)
 ·rw[Q1,Io,r.len];exact h
 ·obtain ⟨p,rfl,b⟩:=Ft e;obtain ⟨u,g,c⟩:=r.get b;exact (u,by rw[Q7,g];rfl,.val c)
 ·obtain ⟨p,z,_⟩:=Ft d;cases z
 ·obtain ⟨p,z,_⟩:=Ft e;cases z
abbrev keyq(b:Int)(r:KX.q.F):Int:=Rat.num r*b.fdiv ((Rat.den r:Nat):Int)
theorem Hk{c:Addr}:QE Z (Lv (Ln X) ["root","bottom"] K2 (JL Ey) f a [("bottom", c)] s H) (PJ Ey) (ER (zI IntMulOk λi j => .int<|i*j) (ER G8 (zV 0)<|zC<|.int 0)<|ER (zI (λ_ j=>j≠0/\j.natAbs<=10^150) λi j => .int<|i.fdiv j) (zV 1)<|ER G8 (zV 0)<|zC<|.int 1) :=
 AA BM lc (A8 (qv 0) Ah) (AA Jn lc (qv 1)<|A8 (qv 0) Ah)
end Lake.Zp
namespace Lake.Zp
open My
open PySem PySem.Spec L2 PyProof.Rows
variable{Z:Zc}{X:Cx}
theorem cL:bootBuiltins "sorted"=some (.builtin "sorted"):=by rfl
abbrev oH:ZE:=λd Q=>∃(c:List KX.q.F) (b:Int),A0 d 0=some (.val<|.kd .q)/\A0 d 7=some (.val<|nums .q c)/\A0 d 8=some (.val<|.int b)/\c.length<64/\(∀r∈c,IntMulOk (Rat.num r) (b.fdiv ((Rat.den r:Nat):Int))/\Rat.den r<=10^150)/\∀a,KsOut (c.map<|keyq b) c a->Q (nums .q a)
theorem gF{p p1 pos kp pl:Pos}{c T cb:Addr}(hm:X.mg "sorted" = none) (hr:Av 4 X.A) (B:Bm X.mg X.base) (Cd:PySem.W.CodeHd X.base c T) (hT:Z.t T laT) (m:X.env.code = .ref c) (C:X.env.qual=("fraction_roots" ++ ".<locals>." : Str)) (hN:X.N=(["kind", "f", "numbers", "prime", "under", "starts", "candidates", "found", "bottom"]:List Str))
 (hp:pl=LN Ey) (W:X.env.scope=Ao HY) (a8:X.env.cells.lookup ("bottom" : Str)=some cb) (a6:closureFor (JL Ey) X.env=pure ([("bottom", cb)]:List (Str×Addr))) :
 QE Z X (.Call (.Name "sorted" p) [.Name "found" p1] [(some "key", .Lambda (TU Ey) (PJ Ey) (JL Ey) pl,kp)] pos) oH:=by
 have kc:X.env.scope.names.lookup ("bottom" : Str)=some .cell:=by rw[W]; rfl
 have gl:Gl X "sorted" := by unfold Gl; show X.env.scope.names.lookup ("sorted" : Str)=_; rw[W]; rfl
 refine (λρ A B f ⟨F,b,e0,e7,e8,l,sz,q⟩=>(F,b,e0,e7,e8,l,sz,λa5 k=>f _<|q a5 k),λH0 O0 g s σ H Q I ⟨O,ρ,sr,F,b,e0,e7,e8,l,sz,k⟩=>?_);obtain ⟨v0,b0,r0⟩:=sr.rel 0 _ e0;obtain ⟨v7,a0,r7⟩:=sr.rel 7 _ e7;obtain ⟨v8,a3,r8⟩:=sr.rel 8 _ e8
 cases r0 with | val r0=>?_
 cases r7 with | val r7=>?_
 cases r8 with | val r8=>?_
 have a2:=A3 r8;subst a2;obtain ⟨a,us,a1,ha,ru⟩:=Db r7;subst a1;have lu:=ru.len;rw[Q1] at lu;refine q8<|EH I gl hm cL ?_;refine callWith_kw<|Ax ((Ag (FH (i:=7) (by rw[hN]; rfl)<|.inl (by rw[W]; rfl)) An) pos g s σ H (λvs P=>vs=[.ref a]/\P=H) I (_,a0,rfl,rfl)) λws s1 ⟨vs,P,I1,r1,ez⟩=>?_;obtain ⟨rfl,rfl⟩:=ez;obtain ⟨u,rfl,ru1⟩:∃u,ws=[u]/\RelV (.ref a) u:=by
  cases r1 with | cons a b=>cases b; exact (_,rfl,a)
 obtain rfl:u=Value.ref a:=ru1;have a9:=hide_le _ _<|(Kz r0).2 T laT hT;refine kws_cons<|Ax (o5 a6 rfl m Cd B g s1 σ P (λv S=>∃(f o:Addr) (K:Obj) (vs:Array Value) (t:Tok) (pm e:Value),v = .ref f/\Ad P S/\S f=some (.frz (PySem.W.kla_obj "<lambda>" K2 (TU Ey) (PJ Ey) (JL Ey) [("bottom", cb)] pm o e)<|.own f)/\S o=some (.frz K<|.own o)/\K.data = .fields vs/\vs[1]?=some (.str K2 t)) I1 (by rw[hp,C]; exact a9,λf o K vs t pm e j h nf M hc Y U=>(f,o,K,vs,t,pm,e,rfl,h,by rw[C] at M; exact M,hc,Y,by rw[C] at U; exact U))) λu2 s2 ⟨v2,S,I2,r2,f,o,K,vs,t,pm,e,ef,S2,M,hc,Y,U⟩=>?_;subst ef;obtain rfl:u2=Value.ref f:=r2;refine kws_nil ?_;have a7:=S2 _ _<|hide_le _ _ ha;refine pV (kz:=F.map<|keyq b) I2 a7 (by rw[Q1,lu]) ⋯ (λi x v b1 hx rx L a4 j s' h I'=>?_) λD j N h nD J ko=>?_
 ·rw[Q7] at L
  cases hri:F[i]? with
  | none=>rw[hri] at L; cases L
  | some r =>
  rw[hri] at L; cases L;obtain ⟨x',d,rr⟩:=ru.get (i:=i) (p:=num .q r) (by rw[Q7,hri]; rfl);rw[hx] at d; cases d;have n:=AW S2 h;obtain ⟨z1,z2⟩:=sz r<|Ql hri;have d0:=Uc r;refine rE (Yg (X:=Ln X) (k:=1) (i:=8) (x := "root") (y := "bottom") (wv:=.int b) (v:=x) (te:=E1 Z j O _) (Q:=λv E=>v = .int (keyq b r)/\Ad j E) (ZM I') (Av.in1<|Av.in1 hr) (h _ _ M) (h _ _ hc) Y U rfl rfl rfl ‹4› rfl (λz hz=>?_) rfl a8 kc (by show X.N[8]?=_; rw[hN]; rfl) a3 rfl rx (Hk.ok j O) (O,DT ["root", "bottom"] [num .q r,.int b],jA (vs:=[x,.int b]) (sr.ls.same n) rfl<|.cons (rr.same<|Ct n)<|.cons rep_i .nil,?_)) (λu s ⟨v,E,I3,r3,q3⟩=>(v,E,aW I3,r3,q3)) λ_ _ z=>z
  ·have f1:∀q∈(JL Ey).names,q.2 ≠ .cell/\(q.2 = .free->q.1 = "bottom"):=by decide +kernel
   rcases hz with hz | hz
   ·exact absurd rfl (f1 _<|qY hz).1
   ·exact (f1 _<|qY hz).2 rfl
  ·have en:num .q r = .tup [.int<|Rat.num r,.int ((Rat.den r:Nat):Int)]:=by unfold num; rfl
   rw[en];refine (_,rfl,?_);refine (_,rfl,(⋯,by rw[Qa]; exact z2),z1,λv E G r3=>(A3 r3,G))
 ·have n:=AW S2 h
  have G:=Bg J<|.lst N;obtain ⟨ts,w,ey,rt,lt⟩:=TL (R:=λr x=>Rep Z (hide O<|As j D<|.lst N) (num .q r) x) (xs:=F) ⋯ (λq C=>by
   obtain ⟨i,hi⟩:=rM C;obtain ⟨h1,h2⟩:=List.getElem?_zip_eq_some.mp hi;obtain ⟨x',d,rr⟩:=ru.get (i:=i) (p:=num .q q.1) (by rw[Q7,h1]; rfl);rw[h2] at d; cases d;exact rr.same<|Ct<|AW n G) ko
  refine k _ w _ _ (AW n G) ?_;unfold nums Rep;refine (D,N,rfl,by rw[hide_out<|(sr.ls.same n).new J]; exact A4,?_);clear ko w lt G;generalize As j D (.lst N)=E at rt;rw[ey];clear ey
  induction ts with
  | nil=>exact .nil
  | cons t r ih=>exact .cons (rt t<|.head _)<|ih λt ht=>rt t<|.tail _ ht
end Lake.Zp
namespace Lake.My
open PySem L2 PyProof.Rows
section
variable{f:List KX.q.F}{h:Sr .q}{us:List KX.q.F}{n D M:Nat}{c:KX.q.F}
theorem Fz.common{R G:List KX.q.F}(z:Fz f h n us c D M)(B:sr G=der (sr f))(j:J4 (sr f) (sr G) R):∃ds vs:List KX.q.F,sr R=prL 1 ds/\us.Perm (ds++vs)/\Cp (prL h vs) (der<|prL h vs)/\(∀r,Ev (prL h vs) r 0↔r∈us)/\R.length=ds.length+1/\R.getD ds.length 0=1:=by
 obtain ⟨C,E,W,g⟩:=Sq.all (κ:=.q) K6 z.rl.mn z.rl.cp z.rl.nr us;have o:=z.len;rcases j.o with ⟨-,e,-⟩|⟨mo,a,b,fa,fb,ea,eb⟩
 ·rw[KA z.tf e] at o;exact absurd (show 0=_ from o) ⋯
 obtain ⟨x,y,u,s,d⟩:=j.b;rw[B] at d eb;rw[z.e] at d ea eb;have H:=mo.1;have w:Bl (sr R) (R.length-1):=(by rw[AM];exact mo.2,λk F=>by rw[AM,Q3,U1 ⋯];rfl);have e:=g.gcd z.c0 w (x,y,u,s,d) (a,b,fa,fb,ea,eb);obtain ⟨ds,i⟩:=g.dl;obtain ⟨I,t⟩:=g.dE;have A:=EK z.c0;obtain ⟨vs,p,v⟩:=Pw z.rl z.c0 ds us (cn c*E) ((Fs.cn c).mul t.fs) (by rw[g.e1,i,Fp<|cn c*E];grind);have l:E=prL h vs:=by
  have:=qW (cn (Fd.inv c) * ·) v;have:cn (Fd.inv c)*(cn c*E)=cn (Fd.inv c)*(cn c*prL h vs):=this;rw[show cn (Fd.inv c)*(cn c*E)=cn (Fd.inv c)*cn c*E by grind,show cn (Fd.inv c)*(cn c*prL h vs)=cn (Fd.inv c)*cn c*prL h vs by grind,A] at this;grind
 have m:=e.trans i;have q:R.length=ds.length+1:=by
  have:=Mx (c:=1) j.t EZ (Ge Bl.one ds) (by rw[m,CJ];grind);omega
 refine (ds,vs,m,p,l ▸ g.cE,λr=>l ▸ g.rt r,q,?_);have:=mo.2
 rwa [q,Wb] at this
theorem Fz.split(z:Fz f h n us c D M){ds vs:List KX.q.F}(p:us.Perm (ds++vs)):sr f=cn c*(prL 1 ds*prL h vs):=by
 rw[z.e,P1 h p,IS,Fp<|prL h vs]
theorem Fz.quo(z:Fz f h n us c D M){ds vs:List KX.q.F}(p:us.Perm (ds++vs)){Qt S:Sr .q}(b:Fs Qt)(a:∀k,ds.length<=k->S.c k=0)(e:sr f=Qt*prL 1 ds+S):Qt=cn c*prL h vs :=
 jJ (Ge Bl.one ds) (z.rl.mn.fs.prL vs) b (λk d=>a k ⋯) ((z.split p).symm.trans e)
theorem Fz.back(z:Fz f h n us c D M){ds vs:List KX.q.F}(p:us.Perm (ds++vs)){Qt:Sr .q}(e:Qt=cn c*prL h vs):sr f=prL Qt ds:=by
 rw[z.split p,Fp Qt,e];grind
end
theorem Iy(us:List KX.q.F):0<pm us:=Q9 (EU us)<|FA us
theorem IK:∀ {us:List KX.q.F} {r:KX.q.F},r∈us->Rat.den r+(Rat.num r).natAbs<=pm us/\Rat.den r ∣ pd us
 |u::us,r,h=>by
  have d:=Uc u;rcases Qd.mp h with e|h
  ·subst e;exact (Uu _<|Iy us,Nat.dvd_mul_right _ _)
  ·obtain ⟨a,b⟩:=IK h;exact (Q0 a<|Wi _ ⋯,Nat.dvd_mul_left_of_dvd b _)
theorem Py{D M:Nat}{x:KX.q.F}(h:QN .q (D:Int) M x)(c:0<D):(Rat.num x).natAbs<=M:=by
 obtain ⟨X,rfl,b⟩:=h;obtain ⟨d,a⟩:=FZ X (show (0:Int)<D by omega)
 by_cases z:X=0
 ·rw[Lk X ⋯ z];exact Qe _
 ·exact Q0 (Wm ⋯<|Wo.mpr a) b
theorem K7{α:Type}:∀ {l m:List α},l.Nodup->(∀x∈l,x∈m)->l.length<=m.length
 | [],_,_,_=>Qe _
 |x::l,m,nd,h=>by
  obtain ⟨a,b,rfl⟩:=List.append_of_mem<|h x<|.head _;obtain ⟨e,d⟩:=List.nodup_cons.mp nd;have:=K7 (m:=a++b) d λy c=>by
   rcases Qp.mp (h y<|.tail _ c) with z|z
   ·exact Qp.mpr (.inl z)
   ·rcases Qd.mp z with z|z
    ·exact absurd (z ▸ c) e
    ·exact Qp.mpr (.inr z)
  rw[Qi] at this;rw[Qi,Ws,Ws];omega
theorem hJ(hp:BB p){l d:Int}(h:(p:Int) ∣ l*d)(e:¬(p:Int) ∣ l):(p:Int) ∣ d:=by
 have b:∀c:KX,c = .r p hp->(p:Int) ∣ d:=λc a=>(EY a).mp<|Lc (x:=zi l) (by rw[<-Cj];exact (EY a).mpr h) λz=>e<|(EY a).mp z;exact b _ rfl
def E5(A:List Int)(l:Int)(p:Nat)(s:Int)(x:KX.q.F):Prop:=∃(top:Int) (G:Nat),(∀a∈A,a.natAbs<=G)/\Rat.num x*l=top*((Rat.den x:Nat):Int)/\(p:Int) ∣ top-l*s/\top.natAbs<=2^460/\∀y,Cc y l A=0->(p:Int) ∣ y-l*s->y.natAbs<=2*G->y=top
section
variable{A:List Int}{l s s':Int}{p:Nat}{x:KX.q.F}
theorem E5.sz(h:E5 A l p s x)(f:l≠0)(c:l.natAbs<=2^225):Rat.den x<=2^225/\(Rat.num x).natAbs<=2^460:=by
 obtain ⟨top,G,-,e,-,b,-⟩:=h;have d:((Rat.den x:Nat):Int) ∣ l:=Jg (Cn x).cop 1 (top,by rw[Qo,Wx,Wa,Qx l,e,Qx]);have dl:Rat.den x<=l.natAbs:=by
  have:=Wm ⋯<|Wo.mpr d
  rwa [Qa] at this
 refine (Q0 dl c,Q0 ?_ b);have a:=qW Int.natAbs e;rw[Qj,Qj,Qa] at a;exact Nat.le_of_mul_le_mul_right (by rw[a];exact Qq _ dl) (show 0<l.natAbs by omega)
theorem E5.inj(hp:BB p)(c:¬(p:Int) ∣ l)(m:0<=s)(o:s<p)(q:0<=s')(n:s'<p)(h:E5 A l p s x)(g:E5 A l p s' x):s=s':=by
 obtain ⟨t,G,-,e,d,-,-⟩:=h;obtain ⟨u,r,-,b,i,-,-⟩:=g;have a:=J5<|(Kc e).symm.trans<|Kc b;subst a;have:=hJ hp (l:=l) (d:=s'-s) (by
  have:=Int.dvd_sub d i
  rwa [show t-l*s-(t-l*s')=l*(s'-s) by grind] at this) c
 obtain ⟨k,f⟩:=this;have j:k=0:=by
  rcases Int.lt_trichotomy k 0 with z|z|z
  ·have:(p:Int)*k<=(p:Int)*(-1):=rF ⋯ ⋯;omega
  ·exact z
  ·have:(p:Int)*1<=(p:Int)*k:=rF ⋯ ⋯;omega
 rw[j] at f;omega
theorem E5.root(hp:BB p)(l1:1<=A.length)(b:l=A.getD (A.length-1) 0)(f:¬(p:Int) ∣ l){r:KX.q.F}(h:E2 r (A.map zi)):∃s:Nat,s<p/\(p:Int) ∣ vI s A/\∀x,E5 A l p s x->x=r:=by
 obtain ⟨y,s,c,i,q,t,j,o⟩:=jF hp l1 b f h;obtain ⟨s,rfl⟩:=Int.eq_ofNat_of_zero_le q;have g:l≠0:=λz=>f (by rw[z];exact Int.dvd_zero _);refine (s,⋯,o,λx ⟨top,G,m,e,d,_,u⟩=>?_);have k:2<=A.length:=Nat.lt_of_not_le λz=>by
  obtain ⟨a,rfl⟩:∃a,A=[a]:=rW.mp ⋯;have b:l=a:=b;have:a*l^0+y*0=0:=c;rw[Wx] at this;omega
 have n:=u y c j<|o4 k b g m c;subst n;exact Hr (d:=zi l) (λz=>g<|Df.mp z)<|(Kc e).trans i.symm
end
theorem iB{f:List KX.q.F}{us:List KX.q.F}{c:KX.q.F}(z:Fz f h n us c D M){A:List Int}{vs:List KX.q.F}{k:KX.q.F}{l:Int}{p:Nat}(hp:BB p)(l1:1<=A.length)(K:l=A.getD (A.length-1) 0)(y:¬(p:Int) ∣ l)(P:sr (A.map<|zi (κ:=.q))=cn k*prL h vs)(G:∀r,Ev (prL h vs) r 0↔r∈us){d:Nat->Bool}(L:∀i,d i=true↔(p:Int) ∣ vI i A)
 {xs:List KX.q.F} (lx:xs.length=((List.range p).filter d).length) (q:∀(j:Nat) x,xs[j]?=some x->∃s,((List.range p).filter d)[j]?=some s/\E5 A l p (s:Nat) x) {t:KX.q.F->Bool} (F:∀x,t x=true↔Bb x f=0):(xs.filter t).Nodup/\∀r,r∈xs.filter t↔r∈us:=by
 have w:∀s,s∈(List.range p).filter d↔s<p/\d s=true:=λs=>by rw[Wn,Wq]
 have o:((List.range p).filter d).Nodup:=List.Pairwise.filter _ List.nodup_range;refine (List.Pairwise.filter _ ?_,λr=>?_)
 ·rw[List.pairwise_iff_getElem]
  intro i j H g R e;obtain ⟨s,E,C⟩:=q i _<|Q6 H;obtain ⟨m,a,b⟩:=q j _<|Q6 g;rw[e] at C;obtain ⟨S,_⟩:=(w s).mp<|Ql E;obtain ⟨Q,_⟩:=(w m).mp<|Ql a;have:=E5.inj hp y ⋯ ⋯ ⋯ ⋯ C b;have:s=m:=⋯;subst this;have:=(List.getElem?_inj ⋯ o).mp<|E.trans a.symm;omega
 ·rw[Wn,F]
  constructor
  ·rintro ⟨-,v⟩
   have e:=Es r f;rw[v,z.e] at e;exact Te z.rl z.c0 e
  ·intro B
   have v:Bb r f=0:=by
    have e:=Es r f;rw[z.e] at e;exact e.one<|WK z.rl.mn.fs B
   refine (?_,v);have I:E2 r (A.map zi):=by
    have e:=Es r<|A.map<|zi (κ:=.q);rw[P] at e;have:=e.one<|(Ev.cn r k).mul<|(G r).mpr B;unfold E2;rw[this]; grind
   obtain ⟨s,J,N,u⟩:=E5.root hp l1 K y I;obtain ⟨j,g⟩:=rM<|(w s).mpr (J,(L s).mpr N);have O:j<xs.length:=by rw[lx]; exact (Qr.mp g).1
   obtain ⟨m,a,b⟩:=q j _<|Q6 O;rw[g] at a; cases a;rw[<-u _ b];exact W7 _
theorem YB{a b:KX.q.F}{B:Int}(j:0<B)(i:((Rat.den a:Nat):Int) ∣ B)(g:((Rat.den b:Nat):Int) ∣ B)(f:a≠b)(h:Zp.keyq B a<=Zp.keyq B b):(show Rat from a)<(show Rat from b):=by
 have l:=(Cn a).pos;have o:=(Cn b).pos;obtain ⟨u,d⟩:=i;obtain ⟨v,c⟩:=g;have r:B.fdiv ((Rat.den a:Nat):Int)=u:=by rw[d];exact sH _ ⋯
 have m:B.fdiv ((Rat.den b:Nat):Int)=v:=by rw[c];exact sH _ ⋯
 unfold Zp.keyq at h;rw[r,m] at h;have s:Rat.num a*((Rat.den b:Nat):Int)<=Rat.num b*((Rat.den a:Nat):Int):=by
  have n:Rat.num a*((Rat.den b:Nat):Int)*B=Rat.num a*u*(((Rat.den a:Nat):Int)*((Rat.den b:Nat):Int)):=by rw[d];grind
  have k:Rat.num b*((Rat.den a:Nat):Int)*B=Rat.num b*v*(((Rat.den a:Nat):Int)*((Rat.den b:Nat):Int)):=by rw[c];grind
  refine Int.le_of_mul_le_mul_right (a:=B) ?_ j;rw[n,k];exact Int.mul_le_mul_of_nonneg_right h<|Int.le_of_lt<|Wk l o
 rw[Rat.lt_iff];refine Int.lt_iff_le_and_ne.mpr (s,λe=>f ?_);exact (Rat.eq_iff_mul_eq_mul (p:=a) (q:=b)).mpr e
theorem ZI{c h:List KX.q.F}{B:Int}(n:c.Nodup)(m:0<B)(i:∀r∈c,((Rat.den r:Nat):Int) ∣ B)(s:Zp.KsOut (c.map<|Zp.keyq B) c h):Eb h/\∀r,r∈h↔r∈c:=by
 obtain ⟨t,p,rfl,j⟩:=s;have e:(c.map<|Zp.keyq B).zip c=c.map λr=>(Zp.keyq B r,r):=by
  have:∀l:List KX.q.F,(l.map<|Zp.keyq B).zip l=l.map λr=>(Zp.keyq B r,r):=λl=>by
   induction l with
   |nil=>rfl
   |cons x l o=>exact qW ((Zp.keyq B x,x) :: ·) o
  exact this c
 obtain ⟨g,f,rfl⟩:=Zp.perm_map p c e;rw[List.map_map];have q:g.map (Prod.snd∘λr=>(Zp.keyq B r,r))=g:=by
  conv=>rhs;rw[<-List.map_id g]
  exact rN λ_ _=>rfl
 rw[q];have d:=f.nodup_iff.mpr n;refine (?_,λr=>f.mem_iff);rw[List.pairwise_map] at j;rw[List.nodup_iff_pairwise_ne] at d;unfold Eb;refine (j.and d).imp_of_mem fun {a b} ha hb (k,ne)=>YB m (i a<|f.mem_iff.mp ha) (i b<|f.mem_iff.mp hb) ne k
end Lake.My
namespace Lake.Zp
open My
open PySem L2 PyProof.Rows
variable{Z:Zc}{X:Cx}{P:Program}{w:World}{K:Ac}{mg:Ai}{base:Heap}
inductive S_fr:ZF
 |mk {Q:AH} {f:List KX.q.F} {h:Sr .q} {n:Nat} {us:List KX.q.F} {c:KX.q.F} {D M:Nat} (z:Fz f h n us c D M) (q:∀rs,Eb rs->(∀r,r∈rs↔r∈us)->Q (nums .q rs)):S_fr [.kd .q,nums .q f] Q
def CdK(K:Ac)(mg:Ai)(x:Str)(c:Addr):Prop:=∃f e b a d,mg x=some (.ref f)/\K.lookup f=some (e,b,.func a,d)/\a.code = .ref c
theorem Bq:Aa ["kind","f","numbers","prime","under","starts","candidates","found","bottom"] ["kind","f"] (Ao HY):=‹2›
theorem p2{a b:Nat}(h:a<=b){x:Nat}(l:x<=2^a):x<=2^b:=Q0 l<|Q8 ∅ h
theorem BY{a b:Nat}(h:a<b){x:Nat}(l:x<=2^a):x<2^b:=Q5 l<|Wy ∅ h
theorem CI{a b x y:Nat}(h:x<=2^a)(g:y<=2^b):x*y<=2^(a+b):=by rw[Wd];exact Qk h g
theorem GF{a x k n:Nat}(h:x<=2^a)(b:k<=n):x^k<=2^(a*n):=by
 refine Q0 (sM h k) ?_;rw[<-Uo];exact Q8 ∅<|Qq _ b
theorem J3{D M:Nat}{x:KX.q.F}(h:QN .q (D:Int) M x)(a:0<D)(d1:D<=2^8000)(m1:M<=2^8000):B1 .q x:=QN.b1 ⋯ (by rw[Qa];exact BY ∅ d1) (BY ∅ m1) h
theorem ZX{f:List KX.q.F}{D M:Nat}{x:KX.q.F}(l8:f.length<=8)(e:0<D)(d1:D<=2^250)(m1:M<=2^220)(l:∀a∈f,QN .q (D:Int) M a)(c:Rat.den x<=2^225)(h:(Rat.num x).natAbs<=2^460)(k:Nat):B1 .q (Bb x<|f.drop k)/\B1 .q (Bb x (f.drop k)*x):=by
 have b:=Uc x;have j:(f.drop k).length<=8:=by rw[W6];omega
 have q:=LX (κ:=.q) (W:=2^460) (Ju x) e b h (p2 ∅ c) (f.drop k) λa m=>l a<|List.mem_of_mem_drop m;have i:D*Rat.den x^(f.drop k).length<=2^(250+225*8):=CI d1<|GF c j;have d:(f.drop k).length*(M*(2^460)^(f.drop k).length)<=2^(3+(220+460*8)):=CI (show _<=2^3 by omega)<|CI m1<|GF (Q4 _) j;have g:0<D*Rat.den x^(f.drop k).length:=Qg e<|Qw b;exact (J3 q g (p2 ∅ i)<|p2 ∅ d,J3 (QN.mulN q<|Ju x) (Qg g b) (p2 ∅<|CI i c)<|p2 ∅<|CI d h)
theorem z_fr(h:Ae K mg "fraction_roots" HY) (Tn:Nm mg) (Ts:mg "sorted" = none) (kd:Kd K mg Z.f Z.r) (hI:B5 P w K mg base Z.r 2 ["self", "prime"] (Hf Z.r)) (L:Mt P w K mg base Z zKd "is_nought" 13 Snz) (a9:Mt P w K mg base Z zKd "common_bottom" 13 Sbot)
 (J:Fn P w K mg base Z "plain_tops" 13 S_tops) (Y:Fn P w K mg base Z "divided" 13 S_divided) (I:Fn P w K mg base Z "common_part" 13 S_cp) (a0:Fn P w K mg base Z "slopes" 13 S_slopes) (o:Fn P w K mg base Z "fitting_prime" 13 D4) (C:Fn P w K mg base Z "tried_roots" 13 S_tri) (U:Fn P w K mg base Z "rests_of" 13 S_res) (g:Fn P w K mg base Z "only_candidate" 13 S_cand) (S:Fn P w K mg base Z "value_at" 13 S_val)
 (B:Bm mg base) (Cd:PySem.W.CodeHd base c0 T) (hT:Z.t T laT) (hc:CdK K mg "fraction_roots" c0):Fn P w K mg base Z "fraction_roots" 14 S_fr:=by
 have nd:=Bq.nd;have b4:∀vs Q,S_fr vs Q->vs.length=2:=λ_ _ ⟨_,_⟩=>rfl;obtain ⟨f,fd,FF,fm⟩:=h.ex;refine (λps A B f ⟨z,q⟩=>(z,λrs a b=>f _<|q rs a b),["kind", "f"],f,fd,?_,fm,FF.kp,FF.binds λ_ _ _ _ _ _ us hl=>by obtain ⟨_,_,rfl⟩:=Kp hl; exact rfl);obtain ⟨oc,od,kV,c7,c8,an,c3,ct,d0,rfl,lk,b9⟩:=FF.ex;obtain ⟨f',_,_,_,_,e1,e2,e3⟩:=hc;rw[fm] at e1; cases e1;rw[lk] at e2; cases e2;obtain rfl:c3 = .ref c0:=e3;refine L2.fn_of lk b9 Bq (λvs H Q E hl=>?_) λA c2 s H vs Q E hr hl=>?_
 ·obtain ⟨O,pv,l,r,q⟩:=hl
  rw[r.len]; exact b4 _ _ q
 have c6:=hr.mono (show 3<=13 by decide);have c1:=hr.mono (show 4<=13 by decide);refine IZ (N:=["kind", "f", "numbers", "prime", "under", "starts", "candidates", "found", "bottom"]) (ps:=["kind", "f"]) b4 (Ap (AE 2 nd<|AD J<|Aw (qv 0)<|A8 (AD Y<|BG (qv 0) (qv 1)<|AD I<|BG (qv 0) (qv 1)<|AD a0<|Aw (qv 0)<|qv 1) Ah)
  (Ap (AE 3 nd<|AD o<|By<|qv 2)
  (Ap (AE 4 nd<|nG hI kd.mgR<|qv 3)
  (Ap (AE 5 nd<|AD C<|Aw (qv 4)<|AD U<|Aw (qv 4)<|qv 2)
  (Ap (jM 6 "start" [(0, "kind"),(2, "numbers"),(3, "prime")] nd (ED<|qv 5) (by exact λ_ _ _ _=>(AD g<|IH (qv 1) (qv 2) (qv 0)<|qv 3)))
  (Ap (pC 7 "each" [(0, "kind"),(1, "f")] nd (ED<|qv 6) (by exact λ_ _ _ _=>(Fv<|Bh L (qv 1)<|By<|AD S<|BG (qv 1) (qv 2)<|qv 0)) (by exact λ_ _ _ _=>(qv 0)))
  (Ap (AE 8 nd<|Bh a9 (qv 0)<|By<|qv 7)
  (AK<|Bk<|gF (cb:=s.heap.objs.size+5) Ts c1 B Cd hT rfl rfl rfl rfl rfl (by rfl) (by rfl))))))))) ∅ ?_ hl
 rintro _ Q ⟨z,q⟩
 rename_i f h n us c D M
 obtain ⟨dp,dl⟩:=z.dp;have lf:=z.len;have l8:=z.l8;have zz:=z.sz;have qf:∀x∈f,QN .q ((D*pd us:Nat):Int) (M*pm us) x:=z.hb (ws:=[]) rfl;have bf:∀x∈f,B1 .q x:=λx W=>J3 (qf x W) dp (p2 ∅ dl)<|p2 ∅ zz;have m0:0<M*pm us:=Qg z.m0<|Iy us;refine S_slopes.mk l8 bf λG tG eG lG=>?_;have b6:=oF z.tf ⋯ eG lG;refine S_cp.mk (D:=D*pd us) z.tf tG ⋯ l8 (λ_=>b6) dp (Q0 dl ∅) (λx W=>(qf x W).mono<|p2 ∅ zz) (λx W=>(oN eG l8 qf x W).mono<|p2 ∅<|CI (show 7<=2^3 by decide) zz) λR co=>?_;obtain ⟨ds,vs,eR,p,cE,rt,lR,c5⟩:=z.common eG co;have lp:=p.length_eq;rw[Qi] at lp;have a3:pm ds<=2^220:=by
  have:=z.pm;rw[Vr p,OB] at this;exact Q0 (Uu _<|Iy vs) this
 have a6:pd ds<=2^220:=Q0 (FA ds) a3;have qR:∀x∈R,QN .q (pd ds:Int) (pm ds) x:=λx W=>by
  obtain ⟨i,hi⟩:=rM W;have ex:x=(sr R).c i:=by rw[AM,Q3,hi]; rfl
  rw[ex,eR];exact HI (PP (h:=1) (D:=1) (M:=1) ∅ (λk=>by
   rw[<-CJ,CO]
   split
   ·exact Bc
   ·exact QN.zero) ds i) (Qz _)<|Wt<|Qz _
 have ek:f.length+1-R.length<=8:=⋯;refine S_divided.mk (F:=f) (G:=R) (D:=D*pd us) (E:=pd ds) (M:=M*pm us) (N:=pm ds) (⋯,⋯,co.t,qf,qR,dp,EU ds,m0,Iy ds,FA ds,BY ∅<|CI dl<|GF (CI a3 a6) ek,BY ∅<|CI zz<|GF (CI (show 2<=2^1 by decide)<|CI a6 a3) ek,BY ∅ a6,BY ∅ a3) ⋯ λa qs Rr t a4=>?_;have eq:sr f=sr qs.reverse*prL 1 ds+sr ((Rr.take<|R.length-1).take t):=by
  rw[<-eR];refine Rg.Ps.ext λk=>?_;rw[Rg.Ps.c_add,G7,AM,AM,Hv a4.r0];have:=ME lR rfl a4.dv k;rw[lR,Wb];exact this
 have eQ:=z.quo p (Fs.sr _) (λk hk=>by
  rw[AM,Q3,U1]
  ·rfl
  ·rw[Qn,Qn]; omega) eq
 have lQ:qs.reverse.length=n+vs.length+1:=by rw[We,a4.dv.lq]; omega
 refine (_,rfl,?_);clear a4 eq;generalize qs.reverse=Qt at eQ lQ;have qQ:=z.hb<|z.back p eQ;have tc:Qt.getD (n+vs.length) 0=c:=by
  rw[<-AM,eQ,DA,(Ge z.rl.mn vs).1]; grind
 refine S_tops.mk ⋯ (c,by
  rw[<-tc,Q3,Q6 ⋯];exact W7 _,λy=>z.c0<|Rat.num_eq_zero.mp y) dp (BY ∅ dl) (BY ∅ zz) (λx W=>Q0 (Py (qQ x W) dp)<|Q0 zz ∅) qQ λk A pl=>?_
 have k0:k*c≠0:=F0 pl.c0 z.c0;have eA:sr (A.map<|zi (κ:=.q))=cn (k*c)*prL h vs:=by
  rw[IP];refine Rg.Ps.ext λi=>?_;show zi (A.getD i 0)=_;rw[<-pl.ev i,<-AM,eQ,DA,DA]; grind
 have lA:=pl.len;have bA:∀a∈A,a.natAbs<=2^225:=λa ha=>Q0 (pl.sz a ha)<|p2 ∅ zz;have a5:∀a∈A,a.natAbs<=10^140:=λa ha=>Q0 (bA a ha) ∅;refine D4.mk ⋯ ⋯ a5 (pA (m:=n+vs.length) k0 ⋯ ⋯ eA (Ge z.rl.mn vs) cE bA) λp0 p3 ft=>?_;obtain ⟨hp,a7,cp⟩:=ft;refine (.q,rfl,p0,hp,rfl,?_);refine S_res.mk ⋯ a5<|S_tri.mk ⋯ (by rw[Q1]; omega) λcc b5=>?_;have b2:∀i:Nat,cc i=true↔(p0:Int) ∣ vI i A:=λi=>by
  rw[b5];unfold E2;rw[Na];exact EY rfl
 have ls:((List.range p0).filter cc).length<=p0:=by
  have:=List.length_filter_le cc<|List.range p0
  rwa [Qu] at this
 refine (λi r=>∃xs:List KX.q.F,r=xs.map (num .q)/\xs.length=i/\∀(j:Nat) x,xs[j]?=some x->∃s,((List.range p0).filter cc)[j]?=some s/\E5 A (A.getD (A.length-1) 0) p0 (s:Nat) x,by rw[Q1]; omega,([],rfl,rfl,λj x W=>by simp at W),?_,?_)
 ·rintro i pp r b1 lr ⟨xs,rfl,lx,W⟩
  obtain ⟨s,hs,rfl⟩:=mget b1;obtain ⟨s1,s2⟩:=Wn.mp<|Ql hs;have s1:=Wq.mp s1;have v0:=(b2 s).mp s2;refine S_cand.mk hp p3 ⋯ ⋯ bA ⋯ ⋯ v0 (cB rfl cp v0) rfl a7 λx top G hG e d bt u=>(xs++[x],by rw[Wp]; rfl,by rw[Qi,lx]; rfl,λj y hy=>?_)
  by_cases jl:j<xs.length
  ·rw[U3 jl] at hy
   exact W j y hy
  ·rw[Ue ⋯] at hy
   have j0:j-xs.length=0:=by
    have:=(Qr.mp hy).1
    simp only[List.length_singleton] at this
    omega
   rw[j0] at hy
   cases hy
   have:j=i:=⋯;subst this;exact (s,hs,top,G,hG,e,d,bt,u)
 ·rintro r lr ⟨xs,rfl,lx,W⟩
  rw[Q1] at lx;have an:∃a∈A,a=A.getD (A.length-1) 0:=(_,by
   rw[Q3,Q6 ⋯];exact W7 _,rfl)
  obtain ⟨al,b8,b7⟩:=an;have l0:A.getD (A.length-1) 0≠0:=λy=>a7 (by rw[y]; exact Int.dvd_zero _);have bl:(A.getD (A.length-1) 0).natAbs<=2^225:=b7 ▸ bA al b8;obtain ⟨t,ht⟩:∃t:KX.q.F->Bool,∀x,t x=true↔Bb x f=0:=by
   classical
   exact (λx=>decide<|Bb x f=0,λx=>qT)
  refine (λi r=>r=((xs.take i).filter t).map (num .q),by rw[Q1]; omega,rfl,?_,?_)
  ·rintro i pp r b1 rfl
   obtain ⟨x,b3,rfl⟩:=mget b1;obtain ⟨s,-,cs⟩:=W i x b3;obtain ⟨dx,nx⟩:=cs.sz l0 bl;refine S_val.mk ⋯ bf (J3 (Ju x) (Uc x) (p2 ∅ dx)<|p2 ∅ nx) (λk _=>ZX l8 dp dl zz qf dx nx k) ⟨λb hb=>?_⟩;have eb:b=t x:=Ur.mpr<|Iff.trans hb (ht x).symm;have et:xs.take (i+1)=xs.take i++[x]:=by rw[Ul,b3]; rfl
   rw[et,List.filter_append,List.filter_cons]
   cases b with
   | true =>
    show _=_;rw[qK eb.symm,Wp]; rfl
   | false =>
    show _=_;rw[qI (by rw[<-eb]; decide)];show _=((xs.take i).filter t++[]).map _;rw[Wu]
  ·rintro r rfl
   rw[Q1,Uk];obtain ⟨a8,mf⟩:=iB z hp ⋯ rfl a7 eA rt b2 lx W ht;generalize xs.filter t=fs at a8 mf;have c9:=K7 a8 λr hr=>(mf r).mp hr;have pz:=z.pm;refine Sbot.mk ((pd us:Nat):Int) (by have:=EU us; omega) ((Ak.of (n:=250) (by rw[Qa]; exact BY ∅<|Q0 (FA us) pz)).up ∅) (λr hr=>rS.mpr (IK<|(mf r).mp hr).2) λb bv=>?_;obtain ⟨b0,bd,bm⟩:=bv;have c4:b.natAbs<=2^220:=by
    have:=Wo.mpr<|bm ((pd us:Nat):Int) λr hr=>rS.mpr (IK<|(mf r).mp hr).2;rw[Qa] at this;exact Q0 (Wm (EU us) this)<|Q0 (FA us) pz
   refine (fs,b,rfl,rfl,rfl,⋯,λr hr=>?_,λrs ko=>?_)
   ·obtain ⟨y1,-⟩:=IK<|(mf r).mp hr
    refine (E6 (BY (a:=220) ∅ ⋯)<|Q5 (m:=b.natAbs) ?_<|BY ∅ c4,Q0 (show _<=2^220 by omega) ∅);obtain ⟨v,hv⟩:=bd r hr;have dr:=(Cn r).pos;rw[hv,sH _ ⋯,Qj];exact Wi _ ⋯
   ·obtain ⟨a1,a2⟩:=ZI a8 b0 bd ko
    exact q rs a1 λr=>(a2 r).trans<|mf r
end Lake.Zp
namespace Lake.My
open PySem L2 PyProof.Rows
section
variable{κ:KX}
theorem QK:∀us:Ab κ,(∀u∈us,F2 κ u)->∃D M:Nat,0<D/\D<=2^(10*us.length)/\M<=2^(40*us.length)/\∀k,QN κ (D:Int) M<|(prL 1 us).c k
 | [],_=>(1,1,∅,Q4 _,Q4 _,λk=>by
  show QN κ _ _ ((1:Sr κ).c k);rw[<-CJ,CO]
  split
  ·exact Bc
  ·exact QN.zero)
 |r::us,h=>by
  obtain ⟨D,M,b,j,i,q⟩:=QK us λu g=>h u<|.tail _ g;obtain ⟨d,a,l,f⟩:=h r<|.head _;refine (D*d,M*(d+10^12),Qg b a,?_,?_,λk=>?_)
  ·rw[Ws,Wz,Wd];exact Qk j ⋯
  ·rw[Ws,Wz 40,Wd];exact Qk i ⋯
  ·show QN κ _ _ ((lx r*prL 1 us).c k);rw[FL];have e:QN κ ((D*d:Nat):Int) (M*d) (if k=0 then 0 else (prL 1 us).c (k-1)):=by
    split
    ·exact QN.zero
    ·exact QN.upN b a (q<|k-1)
   have c:=QN.mulN f<|q k;rw[Wj d D] at c;exact (QN.sub (by have:=Qg b a;omega) e c).mono<|Wt (by rw[Wz,Wj (10^12) M])
theorem NO{f:Ab κ}{s:Sr κ}(e:sr f=s){x:κ.F}(h:x∈f):∃k,x=s.c k:=by
 obtain ⟨i,a⟩:=rM h;exact (i,by rw[<-e,AM,Q3,a];rfl)
theorem cZ{a:κ.F}{g:Ab κ}(h:Bl (sr g) n):Bl (sr (a::g)) (n+1):=by
 have k:∀j,(sr (a::g)).c (j+1)=(sr g).c j:=λj=>by rw[AM,AM];rfl
 refine (by rw[k];exact h.1,λj b=>?_);obtain ⟨j,rfl⟩:∃i,j=i+1:=(j-1,⋯);rw[k];exact h.2 j ⋯
theorem LQ:Bl (sr [(1:κ.F)]) 0:=by
 show Bl (cn 1) 0;rw[CJ];exact Bl.one
end
theorem bV{r:KX.q.F}(h:F2 .q r):Rat.den r+(Rat.num r).natAbs<=2^40:=by
 obtain ⟨d,b,e,q⟩:=h;have n:=Py q b;obtain ⟨X,rfl,c⟩:=q;obtain ⟨a,_⟩:=FZ X (show (0:Int)<d by omega);have a:=Wo.mpr a;rw[Qa,Qa] at a;have:=Wm b a;exact Q0 (Nat.add_le_add this n) ⋯
theorem SF:∀us:List KX.q.F,(∀u∈us,F2 .q u)->pm us<=2^(40*us.length)
 | [],_=>Q4 _
 |r::us,h=>by
  rw[Ws,Wz,Wd,Wj];exact Qk (bV<|h r<|.head _)<|SF us λu a=>h u<|.tail _ a
def Ir:(κ:KX)->Sr κ->Nat->Prop
 | .q,s,n=>Bf s n
 | .r _ _,_,_=>True
def OV:(κ:KX)->Ab κ->Nat->Prop
 | .q,us,N=>pm us<=N
 | .r _ _,_,_=>True
def jK:(κ:KX)->Ab κ->Ab κ->Prop
 | .q,f,us=>∃h n c D M,Fz f h n us c D M
 | .r _ _,_,_=>True
structure Gx (κ:KX) (f us:Ab κ):Prop where
 tf:Bj f
 l1:1<=f.length
 l8:f.length<=8
 u4:us.length<=4
 z:jK κ f us
theorem oJ{κ:KX}{us:Ab κ}(h:∀u∈us,F2 κ u)(l:us.length<=4):OV κ us (2^160):=by
 cases κ with
 |r p a=>exact trivial
 |q=>exact Q0 (SF us h)<|Q8 ∅ ⋯
theorem Rh{κ:KX}:Ir κ (sr [(1:κ.F)]) 0:=by
 cases κ with
 |r p a=>exact trivial
 |q =>
  show Bf (cn 1) 0;rw[CJ];exact Bf.one
theorem Xq{κ:KX}{R us a:Ab κ}{c:κ.F}{n N L:Nat}(b:Bj R)(e:sr R=prL 1 us*sr a*cn c)(d:c≠0)(o:Bl (sr a) n)(s:n<=3)(m:us.length<=4)(j:Ir κ (sr a) n)(g:∀x∈a,QN κ ((24:Nat):Int) N x)(t:0<N)(qc:QN κ 12 108 c)(h:OV κ us L)(i:108*N*L<=2^220):Gx κ R us:=by
 have f:sr R=cn c*prL (sr a) us:=by rw[e,Fp<|sr a];grind
 have l:=Mx b d (Ge o us) f;refine (b,⋯,⋯,m,?_)
 cases κ with
 |r p u=>exact trivial
 |q =>
  refine (sr a,n,c,12*24,108*N,f,d,j,b,⋯,λk=>?_,∅,∅,⋯,Q0 (Qq _ h) i);rw[DA,AM];exact QN.mulN (D:=12) (E:=24) qc<|Dm g k
inductive KI (K:Ac) (vs:List V) (H:Hp) (Q:VK) (zE:XK):Prop
 |mk (a:Addr) (cs:List Int) (i:Int) (_:vs=[.ref a,.int i]) (_:AR K H a (cs.map V.int)) (_:0<=i) (_:∀c:Int,Q (.int c) H):KI K vs H Q zE
section
variable{P:Program}{w:World}{K:Ac}{mg:Ai}{base:Heap}
theorem jZ:Aa ["_law_cells","_law_k"] ["_law_cells","_law_k"] (Ao OQ):=‹2›
theorem kR(h:Ae K mg "_law_cell_at" OQ) (T:Nm mg):AF P w K mg base "_law_cell_at" 1 ["_law_cells","_law_k"] (KI K):=by
 refine Zp.has_okA h jZ (λ_ _ _ _ h=>by obtain ⟨_,_,_,rfl,_⟩:=h;rfl)<|λf d A b s H m Q E l h=>?_;obtain ⟨a,j,i,rfl,c,g,k⟩:=h;refine (_,(AQ (BX (BK EW (pv 1) (Cf E7 (by rfl) T.len boot_len<|Ag (pv 0) An)<|Bn _) (Az<|A7<|AY FN (pv 0) (pv 1)<|λ_ _=>rfl) BW)
  (Az<|A7 Aj)),?_)
 refine (_,rfl,_,rfl,a,_,rfl,.inl c,_,_,rfl,rfl,_,rfl,?_);rw[Q1];refine Ex (λz=>?_)<|λz=>k 0;have z:=z;have e:i=((i.toNat:Nat):Int):=⋯;exact (_,rfl,_,rfl,a,_,_,_,rfl,rfl,c,(by rw[e];exact gS (i:=i.toNat) ⋯),k _)
end
end Lake.My
namespace Lake.Zp
open My
open PySem L2 PyProof.Rows
variable{Z:Zc}{X:Cx}{P:Program}{w:World}{K:Ac}{mg:Ai}{base:Heap}{cN:Addr}
abbrev cG(c:ZT)(u e:ZS):ZS:=λD d=>∃J:Bx->Prop,(∀a,J a->D.nx a)/\c d λb=>Br b (u (J,D.rt,D.bk,D.ct) d)<|e (J,D.rt,D.bk,D.ct) d
theorem JI{pos:Pos}(f:QT Z X c tc)(h:DH Z X n u)(g:DH Z X m e):QS Z X (.If c n m pos) (cG tc u e):=by
 refine (λD q d l ⟨J,a,b⟩=>(J,λi j=>l.nx _<|a i j,f.mo d _ _ (λb k=>?_) b),λo p=>Du ((El (pos:=pos) f h g).ok o p) λD r H ⟨O,d,s,J,a,b⟩=>(O,d,s,f.mo d _ _ (λb k=>?_) b))
 ·cases b with
  |true=>exact h.m (show u _ _ from k) (λ_ z=>z,l.rt,l.bk,l.ct)
  |false=>exact g.m (show e _ _ from k) (λ_ z=>z,l.rt,l.bk,l.ct)
 ·cases b with
  |true=>exact h.m (show u _ _ from k) (a,λ_ z=>z,λ_ z=>z,λ_ z=>z)
  |false=>exact g.m (show e _ _ from k) (a,λ_ z=>z,λ_ z=>z,λ_ z=>z)
theorem VP:∀ {a:List Int} {us:List V},Af Z H (a.map PV.int) us->us=a.map V.int
 | [],_,h=>by
  have:=h.len;exact rH.mp this
 |c::a,us,h=>by
  have h:=h;unfold Af at h;obtain ⟨u,r,rfl,b,d⟩:=h;rw[A3 b,VP d];rfl
inductive BR:ZF
 |mk {Q:AH} {cs:List Int} {k:Nat} (q:∀v:Int,Q (.int v)):BR [zns cs,.int (k:Int)] Q
theorem z_lca{k:Nat}(h:AF P w K mg base "_law_cell_at" k ps (KI K)):Fn P w K mg base Z "_law_cell_at" k BR :=
 EA h.toX (λps A B f ⟨q⟩=>⟨λv=>f _<|q v⟩) λO pv j H Q E L r s=>by
  obtain ⟨q⟩:=s;obtain ⟨u,v,rfl,d,e⟩:=r.two;obtain ⟨a,i,rfl,b,g⟩:=Db d;exact (a,_,_,by rw[A3 e],AR.of<|(VP g) ▸ hide_le _ _ b,⋯,λc=>q c _ H BI rep_i)
inductive S_lmd:ZF
 |mk {Q:AH} {κ:KX} {cs:List Int} {at':Nat} (q:∀f us,Gx κ f us->Q (.tup [nums κ f,nums κ us])):S_lmd [.int κ.P,zns cs,.int (at':Int)] Q
theorem Dl:Aa ["_law_prime_here","_law_cells","_law_at","_law_cell","_law_f","_law_used","_law_k","_law_number","_law_other","_law_h","_law_by"] ["_law_prime_here","_law_cells","_law_at"] (Ao NF):=‹2›
inductive KY (κ:KX) (cs:List Int) (at':Nat) (cell other:Int) (c:κ.F):Bx->Prop
 |mk (us f hl:Ab κ) (D M n N L:Nat) (ef:sr f=prL 1 us) (lf:f.length<=50) (d0:0<D) (d1:D<=2^240) (m1:M<=2^240) (qf:∀x∈f,QN κ (D:Int) M x) (mn:Bl (sr hl) n) (n3:n<=3) (lh:hl.length<=50) (u4:us.length<=4) (rl:Ir κ (sr hl) n) (qh:∀x∈hl,QN κ ((24:Nat):Int) N x) (n0:0<N) (n1:N<=10^12) (pz:OV κ us L) (sz:108*N*L<=2^220) :
  KY κ cs at' cell other c [some (.val (.int κ.P)),some (.val (zns cs)),some (.val (.int (at':Int))),some (.val (.int cell)),some (.val (nums κ f)),some (.own (us.map (num κ))),none,none,some (.val (.int other)),some (.val (nums κ hl)),some (.val (num κ c))]
theorem jX{κ:KX}{x:κ.F}(h:F2 κ x):BL κ x:=by
 obtain ⟨d,a,b,q⟩:=h;exact Ie q a (Q5 (show d<=2^10 by omega)<|Wy ∅ ∅) ‹4›
theorem T8{κ:KX}:BL κ (zi<|-1):=by
 have:=Ko<|QN.bL (D:=1) (M:=1) ∅ ‹4› ‹4›<|Bc (κ:=κ);rw[show zi (κ:=κ) (-1)=0-1 by rw[show (-1:Int)=0-1 from rfl,FM,Aq,Ce]];exact this
theorem Ig{κ:KX}{d N:Nat}(a:0<d)(l:d<=N):QN κ (d:Int) N (1:κ.F):=by
 have:=QN.upN (D:=1) (c:=d) ∅ a<|Bc (κ:=κ);rw[Qz] at this;exact this.mono l
theorem z_lmd(h:Ae K mg "_law_made" NF) (T:Nm mg) (j:Fn P w K mg base Z "_law_cell_at" 5 BR) (s:Fn P w K mg base Z "_law_make" 5 GL) (Y:Fn P w K mg base Z "_law_root" 5 CG) (l:Fn P w K mg base Z "_law_poly_times" 5 Bu) (I:Fn P w K mg base Z "_law_times" 5 (Bp λ_ x y=>x*y)) (H:Fn P w K mg base Z "_law_drawn" 5 CS) (W:Fn P w K mg base Z "_law_mixed" 5 Dt) (O:Fn P w K mg base Z "_law_rootless" 5 Em) (J:Fn P w K mg base Z "_law_fraction" 5 BP):Fn P w K mg base Z "_law_made" 6 S_lmd:=by
 have S:=Dl.nd;refine Cg h Dl (λ_ _ _ _ _ _ _ hr =>
  (Ap (AE 3 S<|AD j<|Aw (qv 1)<|qv 2)
  (Ap (AE 4 S<|QL.toE<|Cs<|By<|AD s<|Aw (qv 0) Ah)
  (Ap (Hi 5 S<|Cs EM)
  (Ap (D3 [6,7] (GD T.range<|AA BU lc (qv 3) Ah) (Eg 6 S)<|Ap (AE 7 S<|AD Y<|Aw (qv 0)<|AD j<|Aw (qv 1)<|AA Bw li (AA Bw li (qv 2) Ah)<|qv 6)
   (Ap (JI (QW.t<|Hc (Ch Eu lb (UW 5 T.len) Ah)<|HX<|Ch BO D9 (AA BU lc (AA DS lc (AD j<|Aw (qv 1)<|AA Bw li (AA Bw li (qv 2) Ah)<|qv 6) Ah) Ah) Ah) (AK<|AE 7 S<|La 5<|D6 Ah) DM)
   (Ap (Iv 5<|qv 7)
   (AK<|AE 4 S<|AD l<|BG (qv 0) (qv 4)<|QL.toE<|Cs<|Aw (AD I<|BG (qv 0) (AD s<|Aw (qv 0)<|D6 Ah)<|qv 7)<|AD s<|Aw (qv 0) Ah))))
  (Ap (AE 8 S<|AD j<|Aw (qv 1)<|AA Bw li (qv 2) Ah)
  (Ap (AE 9 S<|QL.toE<|Cs<|By<|AD s<|Aw (qv 0) Ah)
  (Ap (JI (Ch Eu lb (qv 0) Ah) (AK<|D3 [6] (GD T.range<|AA BU lc (AA DS lc (qv 3) Ah) Ah) (Eg 6 S)<|AK<|AE 9 S<|QL.toE<|GW (QL.toE<|Cs<|By<|AD H<|Aw (qv 0)<|AD W<|Aw (qv 8)<|qv 6)<|qv 9)<|AK<|El (Ch BO D9 (AA BU lc (AA DS lc (qv 3) Ah) Ah) Ah) (AK<|AE 9 S<|AD O<|Aw (qv 8) Ah) DM)
  (Ap (AE 10 S<|AD H<|Aw (qv 0)<|AD j<|Aw (qv 1)<|AA Bw li (qv 2) Ah)
  (Ap (JI (Ch (OA hr) UB (qv 10)<|AD s<|Aw (qv 0) Ah) (AK<|AE 10 S<|AD s<|Aw (qv 0) Ah) DM)
  (Ap (JI (QW.t<|Hc (Ch BO D9 (qv 0) Ah)<|Hc (Ch BO D9 (UW 5 T.len) Ah)<|HX<|Ch BO D9 (AA BU lc (qv 8) Ah) Ah) (Ap (Hi 5 S<|Cs<|By<|AD J<|Aw (AA Bw li (AA Cu li (AA BU lc (qv 8)<|AA Cu li (AA BM lc Ah<|AA Jp lc Ah Ah) Ah)<|AA Jp lc Ah Ah) Ah)<|AA Bw li Ah<|AA BU lc (qv 3)<|AA Jp lc Ah Ah)
   (Ap (AE 4 S<|QL.toE<|Cs<|Aw (AD I<|BG (qv 0) (CH<|Aw (D6 Ah) Ah)<|La 5 Ah)<|CH<|Aw Ah Ah)
   (AK<|AE 9 S<|QL.toE<|Cs<|By<|CH<|Aw Ah Ah))) DM)
  (AK<|Jr 5<|Bk<|CH<|Aw (AD l<|BG (qv 0) (AD l<|BG (qv 0) (qv 4)<|qv 9)<|QL.toE<|Cs<|By<|qv 10)<|qv 5)))))))))))) ?_
 rintro _ Q ⟨q⟩
 rename_i κ U A
 refine ⟨λe=>?_⟩;have h1:=Qv e (show (5:Int)≠0 by decide);have h2:=W0 e (show (0:Int)<5 by decide);have i1:∀i:Nat,((A:Int)+1+(0+(i:Int)))=((A+1+i:Nat):Int):=λi=>⋯;refine (1,FC,by show 1<=1000; decide,by show 0<=1000; decide,by show (0:Int)<5; decide,⋯,⋯,(λi ρ=>∃B f:Ab κ,B.length=i/\(∀u∈B,F2 κ u)/\Bj f/\sr f=prL 1 B/\f.length<=20/\ρ=[some<|.val<|.int κ.P,some<|.val<|zns U,some<|.val<|.int (A:Int),some<|.val<|.int e,some<|.val<|nums κ f,some<|.own<|B.map<|num κ,none,none,none,none,none],([],[1],rfl,(λu hu=>nomatch hu),.inr EZ,CJ,by show 1<=20; decide,rfl),?_,?_))
 ·rintro i p _ hp ⟨B,f,lu,hu,tf,ef,lf,rfl⟩
  obtain ⟨hi,rfl⟩:=EQ hp;show BR [zns U,.int<|(A:Int)+1+(0+(i:Int))] _;rw[i1];refine BR.mk λv=>CG.mk λx hx=>?_;have u4:B.length<4:=⋯;refine (λρ=>∃y:κ.F,F2 κ y/\ρ=[some<|.val<|.int κ.P,some<|.val<|zns U,some<|.val<|.int (A:Int),some<|.val<|.int e,some<|.val<|nums κ f,some<|.own<|B.map<|num κ,some<|.val<|.int<|0+(i:Int),some<|.val<|num κ y,none,none,none],?_,?_)
  ·rintro _ ⟨y,hy,rfl⟩
   have a7:=jX hy;obtain ⟨D,M,d0,d1,m1,qc⟩:=QK B hu;obtain ⟨d,e0,e1,qy⟩:=hy;refine (by rw[Q1]; omega,zi<|-1,HU ∅,(T8,a7,1,FC,by show 2<=1000; decide,?_));rw[Lz];show Bu [.int κ.P,nums κ f,nums κ [0-y,1]] _;refine Bu.mk (D:=D) (E:=d) (M:=M) (N:=10^12) ⋯ (by show 2<=100; decide) (λx hx=>by
    obtain ⟨k,rfl⟩:=NO ef hx;exact qc k) (λx hx=>?_) d0 e0 (BY (a:=10*B.length) ⋯ d1) (Q5 e1 ‹4›) (BY (a:=40*B.length) ⋯ m1) ‹4› λR tR eR lR=>?_
   ·rcases Qd.mp hx with rfl | hx
    ·exact qy.neg
    ·rw[Qf.mp hx]; exact Ig e0 ⋯
   ·have a3:sr R=prL 1 (B++[y]):=by
        rw[eR,ef,<-GX,IS,Fp<|prL 1 [y]];show _=prL 1 B*(lx y*1);grind
    have a0:=Pn tR (by rw[a3]; exact Ge Bl.one _);rw[Qi] at a0;have a0:R.length=0+(B.length+1)+1:=a0;exact (B++[y],R,by rw[Qi,lu]; rfl,λu a5=>(Qp.mp a5).elim (hu u) λz=>by rw[Qf.mp z]; exact (d,e0,e1,qy),tR,a3,⋯,by rw[Wp]; rfl)
  ·have base:∃y:κ.F,F2 κ y/\[some<|Sl.val<|PV.int κ.P,some<|.val<|zns U,some<|.val<|.int (A:Int),some<|.val<|.int e,some<|.val<|nums κ f,some<|.own<|B.map<|num κ,some<|.val<|.int<|0+(i:Int),some<|.val<|num κ x,none,none,none]=[some<|.val<|.int κ.P,some<|.val<|zns U,some<|.val<|.int (A:Int),some<|.val<|.int e,some<|.val<|nums κ f,some<|.own<|B.map<|num κ,some<|.val<|.int<|0+(i:Int),some<|.val<|num κ y,none,none,none]:=(x,hx,rfl)
   refine br (λz=>?_) λ_=>base;rw[Q1] at z;show BR [zns U,.int<|(A:Int)+1+(0+(i:Int))] _;rw[i1];refine BR.mk λv2=>((∅,∅),by show (0:Int)<3; decide,br (λ_=>?_) λ_=>base);have z:0<B.length:=⋯;refine (_,Jy (d:=B.length-1) ⋯,B.getD (B.length-1) 0,hu _ ?_,rfl);rw[Q3,Q6 ⋯];exact W7 _
 ·rintro _ ⟨B,f,lu,hu,tf,ef,lf,rfl⟩
  rw[DF] at lu;have u4:B.length<=4:=⋯;show BR [zns U,.int<|(A:Int)+6] _;rw[show ((A:Int)+6)=((A+6:Nat):Int) by omega];refine BR.mk λo=>(1,FC,by show 1<=1000; decide,?_);refine (λρ=>∃(C:Ab κ) (n:Nat),Bl (sr C) n/\n<=3/\C.length<=50/\Ir κ (sr C) n/\(∀x∈C,QN κ ((24:Nat):Int) (10^12) x)/\ρ=[some<|.val<|.int κ.P,some<|.val<|zns U,some<|.val<|.int (A:Int),some<|.val<|.int e,some<|.val<|nums κ f,some<|.own<|B.map<|num κ,none,none,some<|.val<|.int o,some<|.val<|nums κ C,none],?_,?_)
  ·rintro _ ⟨C,n,mn,n3,lh,rl,qh,rfl⟩
   show BR [zns U,.int<|(A:Int)+7] _;rw[show ((A:Int)+7)=((A+7:Nat):Int) by omega];refine BR.mk λv7=>CS.mk λc qc=>?_;refine (λρ=>∃c:κ.F,c≠0/\QN κ 12 108 c/\ρ=[some<|.val<|.int κ.P,some<|.val<|zns U,some<|.val<|.int (A:Int),some<|.val<|.int e,some<|.val<|nums κ f,some<|.own<|B.map<|num κ,none,none,some<|.val<|.int o,some<|.val<|nums κ C,some<|.val<|num κ c],?_,?_)
   ·rintro _ ⟨c,c0,qc,rfl⟩
    refine (KY κ U A e o c,?_,?_)
    ·rintro _ ⟨B,f,C,D,M,n,N,L,ef,lf,d0,d1,m1,qf,mn,n3,lh,u4,rl,qh,n0,n1,pz,sz⟩
     have a2:N<=2^40:=⋯;refine Bu.mk (D:=D) (E:=24) (M:=M) (N:=N) ⋯ ⋯ qf qh d0 ∅ (BY ∅ d1) ‹4› (BY ∅ m1) (BY ∅ a2) λR1 t1 e1 l1=>(by show 1<=1000; decide,?_);refine Bu.mk (F:=R1) (G:=[c]) (D:=D*24) (E:=12) (M:=f.length*(C.length*(M*N))) (N:=108) ⋯ (by show 1<=100; decide) (λx hx=>?_) (λx hx=>by rw[Qf.mp hx]; exact qc) ⋯ ∅ (BY (a:=240+5) ∅<|CI d1 ∅) ‹4› (BY (a:=6+(6+(240+40))) ∅<|CI ⋯<|CI ⋯<|CI m1 a2) ‹4› λR tR eR lR=>(by show 2<=1000; decide,q R B<|Xq tR ?_ c0 mn n3 u4 rl qh n0 qc pz sz)
     ·obtain ⟨k,rfl⟩:=NO e1 hx
      have:=Kg (D:=(D:Int)) (E:=((24:Nat):Int)) ⋯ qf qh k
      rwa [<-W3] at this
     ·rw[eR,e1,ef]; rfl
    ·obtain ⟨D,M,d0,d1,m1,a4⟩:=QK B hu
     have base:KY κ U A e o c [some<|.val<|.int κ.P,some<|.val<|zns U,some<|.val<|.int (A:Int),some<|.val<|.int e,some<|.val<|nums κ f,some<|.own<|B.map<|num κ,none,none,some<|.val<|.int o,some<|.val<|nums κ C,some<|.val<|num κ c] :=
         .mk B f C D M n (10^12) (2^160) ef ⋯ d0 (p2 (a:=10*B.length) ⋯ d1) (p2 (a:=40*B.length) ⋯ m1) (λx hx=>by
             obtain ⟨k,rfl⟩:=NO ef hx;exact a4 k) mn n3 lh u4 rl qh ∅ (Q4 _) (oJ hu u4) ∅
     refine br (λz=>?_) λ_=>base;have z:κ.P=0:=z;refine br (λ_=>?_) λ_=>base;refine (by show (0:Int)<4; decide,br (λ_=>?_) λ_=>base);clear base a4 qh rl mn ef hu
     cases κ with
     | r p hp=>exact absurd z (by show ¬(p:Int)=0; have:=hp.two; omega)
     | q =>
     have a1:PV.tup [.int 1,.int 1]=num .q (K1 .q):=by rw[ES]; rfl
     have a6:PV.tup [.int<|-1,.int 1]=num .q (zi<|-1):=by
         rw[ES];show _=PV.tup [.int<|Rat.num<|zi (κ:=.q)<|-1,.int (Rat.den (zi (κ:=.q)<|-1):Int)];rw[HQ]; rfl
     have g1:=Qv o (show (2*10^59-1:Int)≠0 by decide);have g2:=W0 o (show (0:Int)<2*10^59-1 by decide);have g3:=Qv e (show (10^59:Int)≠0 by decide);have g4:=W0 e (show (0:Int)<10^59 by decide);refine ((∅,∅,∅),E6 ‹4› ‹4›,by show (0:Int)<2*10^59-1; decide,(∅,∅,∅),(∅,∅,∅),by show (0:Int)<10^59; decide,?_);show BP [.int<|o%(2*10^59-1)-10^59+1,.int<|1+e%10^59] _;generalize o%(2*10^59-1)=t at *;generalize e%10^59=b at *;refine BP.mk ⋯ (Ak.of (n:=8000)<|BY (a:=200) ∅ ⋯) (by show 1<=1000; decide,?_);have qr:QN .q (((1+b).toNat:Nat):Int) (10^59) (show KX.q.F from Rat.divInt (t-10^59+1) (1+b)):=(t-10^59+1,by rw[Uz ⋯],⋯);have dr:Rat.den (Rat.divInt (t-10^59+1)<|1+b)<=10^59:=by
         obtain ⟨e1,_⟩:=FZ (t-10^59+1) (show (0:Int)<1+b by omega);have e1:=Wo.mpr e1;rw[Qa] at e1;have:=Wm ⋯ e1;omega
     generalize hrr:(show KX.q.F from Rat.divInt (t-10^59+1) (1+b))=r at *;have dr:Rat.den r<=10^59:=by rw[<-hrr]; exact dr
     have b0:0<(1+b).toNat:=⋯;have nr:=Py qr b0;refine (by show 2<=1000; decide,_,E4 (κ:=.q) (g:=[r]) (i:=0) (by show 0<1; decide),?_);rw[a6];refine Bp.mk (κ:=.q) T8 (Ie qr b0 (BY (a:=200) ∅ ⋯) ‹4›) (by show 2<=1000; decide,by show 2<=1000; decide,by show 2<=1000; decide,by show 1<=1000; decide,?_);have em:zi (-1)*[r].getD 0 0=0-r:=Lz r;rw[a1,em];refine KY.mk [r] [0-r,1] [1] (1+b).toNat (10^59) 0 24 (2^198) ?_ (by show 2<=50; decide) b0 ⋯ ∅ (λx hx=>?_) LQ ∅ (by show 1<=50; decide) (by show 1<=4; decide) Rh (λx hx=>by rw[Qf.mp hx]; exact Ig ∅ ∅) ∅ ∅ ?_ ∅
     ·rw[<-GX]
      show _=lx r*1;grind
     ·rcases Qd.mp hx with rfl | hx
      ·exact qr.neg
      ·rw[Qf.mp hx]; exact Ig b0 ⋯
     ·show (Rat.den r+(Rat.num r).natAbs)*1<=2^198
      omega
   ·refine (0,FP,⟨λb hb=>?_⟩)
    cases b with
    | true=>exact (1,FC,1,EZ,(Ig (d:=12) (N:=108) ∅ ∅),rfl)
    | false=>exact (c,(λz=>nomatch hb.mpr z),qc,rfl)
  ·refine br (λz=>?_) λz=>?_
   ·have z:0<κ.P:=z
    refine ((∅,∅),by show (0:Int)<4; decide,?_);have g1:=Qv (e/5) (show (4:Int)≠0 by decide);have g2:=W0 (e/5) (show (0:Int)<4 by decide);refine (⋯,⋯,(λi ρ=>∃C:Ab κ,C.length=i+1/\Bl (sr C) i/\(∀x∈C,QN κ ((24:Nat):Int) (10^12) x)/\ρ=[some<|.val<|.int κ.P,some<|.val<|zns U,some<|.val<|.int (A:Int),some<|.val<|.int e,some<|.val<|nums κ f,some<|.own<|B.map<|num κ,none,none,some<|.val<|.int o,some<|.val<|nums κ C,none],([1],rfl,LQ,λx hx=>by rw[Qf.mp hx]; exact Ig ∅ ∅,rfl),?_,?_))
    ·rintro i p _ hp ⟨C,lh,mn,qh,rfl⟩
     obtain ⟨hi,rfl⟩:=EQ hp;refine Dt.mk ⋯ λm=>CS.mk λx qx=>(by show 1<=1000; decide,?_,x::C,by rw[Ws,lh],cZ mn,λy hy=>?_,rfl)
     ·rw[Cb]; show 1+C.length<=1000; omega
     ·rcases Qd.mp hy with rfl | hy
      ·exact (QN.upN (D:=12) (c:=2) ∅ ∅ qx).mono ∅
      ·exact qh y hy
    ·rintro _ ⟨C,lh,mn,qh,rfl⟩
     rw[DF] at lh mn;refine (C,_,mn,⋯,⋯,?_,qh,rfl)
     cases κ with
     | r p hp=>exact trivial
     | q=>exact absurd z (by show ¬(0:Int)<0; decide)
   ·have one:∃(C:Ab κ) (n:Nat),Bl (sr C) n/\n<=3/\C.length<=50/\Ir κ (sr C) n/\(∀x∈C,QN κ ((24:Nat):Int) (10^12) x)/\[some<|Sl.val<|PV.int κ.P,some<|.val<|zns U,some<|.val<|.int (A:Int),some<|.val<|.int e,some<|.val<|nums κ f,some<|.own<|B.map<|num κ,none,none,some<|.val<|.int o,some<|.val<|nums κ [1],none]=[some<|.val<|.int κ.P,some<|.val<|zns U,some<|.val<|.int (A:Int),some<|.val<|.int e,some<|.val<|nums κ f,some<|.own<|B.map<|num κ,none,none,some<|.val<|.int o,some<|.val<|nums κ C,none] :=
        ([1],0,LQ,∅,by show 1<=50; decide,Rh,λx hx=>by rw[Qf.mp hx]; exact Ig ∅ ∅,rfl)
    refine ((∅,∅),by show (0:Int)<2; decide,br (λ_=>?_) λ_=>one);clear one
    cases κ with
    | r p hp=>exact absurd (show (0:Int)<(p:Int) by have:=hp.two; omega) z
    | q =>
    refine Em.mk λC rl=>?_;obtain ⟨n,n3,rn,ln⟩:=rl.ex;exact (C,n,rn.mn,n3,⋯,rn,rl.sz,rfl)
end Lake.Zp
namespace Lake.My
open PySem L2 PyProof.Rows
def Ea(c:Sp):Sp:=λd H Q _=>∃v,d=[v]/\((∃i:Int,v = .int i/\Q .non H)\/(∃(t:Addr) (a:List V),v = .ref t/\H t=some (.tup a)/\(∀x∈a,∀b:VK,(∀u,b u H)->c [x] H b E0)/\Q .non H) ∨
 (∃(t:Addr) (a:List V),v = .ref t/\H t=some (.lst a)/\a.length<=999/\(∀x∈a,∀b:VK,(∀u,b u H)->c [x] H b E0)/\Q .non (As H t<|.lst<|a++[.non])))
theorem lD{κ:KX}{x:κ.F}{Q:VK}(n:NR κ H v x)(k:Q .non H):Ea (Ea FU) [v] H Q E:=by
 cases κ with
 |r p e=>exact (v,rfl,.inl (_,n,k))
 |q =>
  obtain ⟨a,rfl,h⟩:=n;refine (_,rfl,.inr<|.inl (a,_,rfl,h,λx b d c=>?_,k))
  simp only[Qd,Uh,or_false] at b
  rcases b with rfl|rfl <;> exact (_,rfl,.inl (_,rfl,c _))
theorem bI{κ:KX}{H:Hp}{us:List V}{Q:VK}(h:H a=some (.lst us))(l:us.length<=999)(g:∀u∈us,∃(t:Addr) (v:V) (x:κ.F) (m:Int),u = .ref t/\H t=some (.tup [v,.int m])/\NR κ H v x)(k:Q .non (As H a<|.lst<|us++[.non])):Ea (Ea<|Ea<|Ea FU) [.ref a] H Q E:=by
 refine (_,rfl,.inr<|.inr (a,us,rfl,h,l,λu f i e=>?_,k));obtain ⟨t,v,x,m,rfl,d,n⟩:=g u f;refine (_,rfl,.inr<|.inl (t,_,rfl,d,λy b j c=>?_,e _))
 simp only[Qd,Uh,or_false] at b
 rcases b with rfl|rfl
 ·exact lD n (c _)
 ·exact (_,rfl,.inl (_,rfl,c _))
section
variable{P:Program}{w:World}{K:Ac}{mg:Ai}{base:Heap}
theorem C2:Aa ["_law_thing","_law_one"] ["_law_thing"] (Ao LG):=‹2›
theorem Yr(h:Ae K mg "_law_spoil" LG):AF P w K mg base "_law_spoil" 0 ["_law_thing"] FU :=
 h.has (λ_ _ F=>F.b1 λ_ _ _ _ _ _ _=>rfl) λf a F=>(λ_ _ _ _ z=>z.elim,λ_ _ _ _ _ _ _ _ _ _ _ _ _ z=>z.elim)
theorem JY{j:Nat}(h:Ae K mg "_law_spoil" LG) (T:Nm mg) (a:AF P w K mg base "_law_spoil" j ["_law_thing"] l):AF P w K mg base "_law_spoil" (j+1) ["_law_thing"] (Ea l):=by
 refine Zp.has_okA h C2 (λ_ _ _ _ h=>by obtain ⟨_,rfl,_⟩:=h; rfl)<|λf r A m s H u Q E n h=>?_;have p:=C2.nd;obtain ⟨v,rfl,⟨i,rfl,k⟩ | ⟨t,xs,rfl,b,g,k⟩ | ⟨t,xs,rfl,b,lx,g,k⟩⟩:=h
 ·refine (_,(AQ (BX (FS (DQ<|Cf Fb (by rfl) T.isinstance qZ<|Ag (pv 0)<|Ag (DU (by rfl) T.tuple boot_tuple) An)<|Hl<|DQ<|Cf Fb (by rfl) T.isinstance qZ<|Ag (pv 0)<|Ag (DU (by rfl) T.list boot_list) An).pt (Az<|Gz q5 rfl (LB<|pv 0) (CA (i:=1) p rfl<|Or.inl rfl)<|Az<|Gb<|BJ a n (by rfl)<|Ag (pv 1) An) BW)
   (Az<|BX (DQ<|Cf Fb (by rfl) T.isinstance qZ<|Ag (pv 0)<|Ag (DU (by rfl) T.list boot_list) An) (Az<|Gb<|Lr sS sI sJ JT (pv 0)<|Ag OR An) BW)),?_)
  refine (_,rfl,_,_,_,_,rfl,.of<|.int i,.ty<|Xv K,_,rfl,Ek ?_);refine (_,rfl,_,_,_,_,rfl,.of<|.int i,.ty<|SE K,_,rfl,Ek ?_);refine (_,rfl,_,_,_,_,rfl,.of<|.int i,.ty<|SE K,_,rfl,Ek ?_);exact k
 ·refine (_,(AQ (BX (FS (DQ<|Cf Fb (by rfl) T.isinstance qZ<|Ag (pv 0)<|Ag (DU (by rfl) T.tuple boot_tuple) An)<|Hl<|DQ<|Cf Fb (by rfl) T.isinstance qZ<|Ag (pv 0)<|Ag (DU (by rfl) T.list boot_list) An).pt (Az<|Gz q5 rfl (ZZ<|pv 0) (CA (i:=1) p rfl<|Or.inl rfl)<|Az<|Gb<|BJ a n (by rfl)<|Ag (pv 1) An) BW)
   (Az<|BX (DQ<|Cf Fb (by rfl) T.isinstance qZ<|Ag (pv 0)<|Ag (DU (by rfl) T.list boot_list) An) (Az<|Gb<|Lr sS sI sJ JT (pv 0)<|Ag OR An) BW)),?_)
  refine (_,rfl,_,_,_,_,rfl,.of<|.tup b,.ty<|Gg K _,_,rfl,FE ?_);refine (_,rfl,t,rfl,(_,AI.of b),?_);refine fI (xs:=xs) (λi e c=>∃d:Option V,e=[some<|.ref t,d]/\c=H) (_,rfl,rfl) ?_ ?_ ?_
  ·rintro i e c q ⟨d,rfl,rfl⟩
   exact AI.of b
  ·rintro i x e c o ⟨d,rfl,rfl⟩
   exact (_,rfl,g x (Ql o) _ λ_=>(_,rfl,rfl))
  ·rintro e c ⟨d,rfl,rfl⟩
   refine (_,rfl,_,_,_,_,rfl,.of<|.tup b,.ty<|aY K,_,rfl,Ek ?_);exact k
 ·refine (_,(AQ (BX (FS (DQ<|Cf Fb (by rfl) T.isinstance qZ<|Ag (pv 0)<|Ag (DU (by rfl) T.tuple boot_tuple) An)<|Hl<|DQ<|Cf Fb (by rfl) T.isinstance qZ<|Ag (pv 0)<|Ag (DU (by rfl) T.list boot_list) An).pt (Az<|Gz q5 rfl (LB<|pv 0) (CA (i:=1) p rfl<|Or.inl rfl)<|Az<|Gb<|BJ a n (by rfl)<|Ag (pv 1) An) BW)
   (Az<|BX (DQ<|Cf Fb (by rfl) T.isinstance qZ<|Ag (pv 0)<|Ag (DU (by rfl) T.list boot_list) An) (Az<|Gb<|Lr sS sI sJ JT (pv 0)<|Ag OR An) BW)),?_)
  refine (_,rfl,_,_,_,_,rfl,.of<|.lst b,.ty<|aB K,_,rfl,Ek ?_);refine (_,rfl,_,_,_,_,rfl,.of<|.lst b,.ty<|Gg K _,_,rfl,FE ?_);refine (_,rfl,t,rfl,(_,AR.of b),?_);refine VQ (xs:=xs) (λi e c=>∃d:Option V,e=[some<|.ref t,d]/\c=H) (_,rfl,rfl) ?_ ?_ ?_
  ·rintro i e c q ⟨d,rfl,rfl⟩
   exact AR.of b
  ·rintro i x e c o ⟨d,rfl,rfl⟩
   exact (_,rfl,g x (Ql o) _ λ_=>(_,rfl,rfl))
  ·rintro e c ⟨d,rfl,rfl⟩
   refine (_,rfl,_,_,_,_,rfl,.of<|.lst b,.ty<|Gg K _,_,rfl,FE ?_);refine (_,rfl,.inl (rfl,_,AR.of b),t,xs,.non,rfl,rfl,b,Q9 (show xs.length<1000 by omega) ∅,?_);exact k
end
section
variable{κ:KX}
theorem Ti{f:Ab κ}{r:κ.F}:∀(n k:Nat) (g:Ab κ),g.length<=n->Tk f r k g->∃k,Mu (sr f) r k
 |0,k,g,l,t=>absurd t.l1 ⋯
 |n+1,k,g,l,t=>by
  by_cases z:Bb r g=0
  ·obtain ⟨a,b⟩:=t.qlx z;exact Ti n (k+1) _ ⋯ a
  ·exact (k,sr g,_,Fs.sr g,t.e,Es r g,z)
theorem Z5{f:Ab κ}(t:Bj f)(l1:1<=f.length)(r:κ.F):0<DX (sr f) r↔E2 r f:=by
 obtain ⟨k,m⟩:=Ti f.length 0 f (Q4 _) (by show _=1*_;grind,rfl,t,l1) (r:=r);rw[Oe m]
 constructor
 ·intro d;obtain ⟨k,rfl⟩:∃j,k=j+1:=(k-1,⋯);obtain ⟨q,v,c,e,b,a⟩:=m;have z:Ev (sr f) r 0:=(Rg.pwS (lx r) k*q,((Fs.lx r).pw k).mul c,by
   rw[e,Ef];show Rg.pwS (lx r) k*lx r*q=_;grind)
  exact (Es r f).one z
 ·intro z;refine Uv λd=>?_;subst d;obtain ⟨q,v,c,e,b,a⟩:=m;have e:sr f=q:=by rw[e];show 1*q=q;grind
  have:=Es r f;rw[z,e] at this;exact a<|b.one this
end
def GP:(κ:KX)->Ab κ->Ab κ->Ab κ->Prop
 | .q,_,us,rs=>Eb rs/\∀r,r∈rs↔r∈us
 | .r p hp,f,_,rs=>∃c:Nat->Bool,(∀i,c i=true↔E2 (zi (κ:=.r p hp) (i:Int)) f)/\rs=((List.range p).filter c).map λi:Nat=>zi (i:Int)
def MJ:(κ:KX)->Ab κ->Ab κ->Prop
 | .q,us,ss=>Eb ss/\∀r,r∈ss↔r∈us
 | .r p hp,_,ss=>ss=(List.range p).map λi:Nat=>zi (κ:=.r p hp) (i:Int)
theorem Mn{l:List KX.q.F}(h:Eb l):l.Nodup:=List.Pairwise.imp (fun {a b} h e=>by subst e;exact absurd h Rat.lt_irrefl) h
theorem eE{κ:KX}{f us j d:Ab κ}(m:Gx κ f us)(b:GP κ f us j)(a:MJ κ us d):j=d.filter λr=>decide (0<DX (sr f) r):=by
 have g:=λr=>Z5 m.tf m.l1 (r:=r)
 cases κ with
 |q =>
  have e:=VU b.1 a.1 λx=>(b.2 x).trans (a.2 x).symm;rw[e]
  symm
  rw[List.filter_eq_self];intro r h;obtain ⟨o,n,c,D,M,z⟩:=m.z;refine rG<|(g r).mpr ?_;have e:=Es r f;rw[z.e] at e;exact e.one<|WK z.rl.mn.fs<|(a.2 r).mp h
 |r p l =>
  obtain ⟨c,k,rfl⟩:=b;have a:d=(List.range p).map λi:Nat=>zi (κ:=.r p l) (i:Int):=a;rw[a,List.filter_map]
  congr 2
  funext i
  rw[Ur,k];show _↔decide (0<DX (sr f) (zi (i:Int)))=true;rw[qT];exact (g _).symm
structure iO (κ:KX) (f:Ab κ) (D E M N:Nat) (C:κ.F->Prop):Prop where
 d0:0<D
 e0:0<E
 m0:0<M
 eN:E<=N
 d1:D<=2^250
 m1:M<=2^220
 n1:N<=2^220
 hb:∀ws g,sr f=prL (sr g) ws->∀x∈g,QN κ (D:Int) M x
 hr:∀r,C r->QN κ (E:Int) N r
def Pe:(κ:KX)->Ab κ->κ.F->Prop
 | .q,us,r=>r∈us
 | .r _ _,_,_=>True
theorem WB{κ:KX}{f us:Ab κ}(m:Gx κ f us):∃D E M N,iO κ f D E M N (Pe κ us):=by
 cases κ with
 |r p b=>exact (1,1,1,1,∅,∅,∅,∅,∅,∅,∅,λ_ _ _ _ _=>trivial,λ_ _=>trivial)
 |q =>
  obtain ⟨a,n,c,D,M,z⟩:=m.z;exact (D*pd us,pd us,M*pm us,pm us,z.dp.1,EU us,Qg z.m0<|Iy us,FA us,z.dp.2,z.sz,z.pm,λd g e=>z.hb e,λr h=>SZ h)
theorem gK{κ:KX}{f us a:Ab κ}(b:GP κ f us a){r:κ.F}(h:r∈a):Pe κ us r:=by
 cases κ with
 |r p c=>exact trivial
 |q=>exact (b.2 r).mp h
theorem oA{κ:KX}{us a:Ab κ}(b:MJ κ us a){r:κ.F}(h:r∈a):Pe κ us r:=by
 cases κ with
 |r p c=>exact trivial
 |q=>exact (b.2 r).mp h
theorem aH{p:Nat}{hp:BB p}{i j:Nat}(b:i<p)(a:j<p)(h:zi (κ:=.r p hp) (i:Int)=zi (j:Int)):i=j:=by
 have e:=(Zp.num_zi (hp:=hp) b).symm.trans ((qW (Zp.num<|.r p hp) h).trans<|Zp.num_zi a)
 injection e with e
 omega
theorem LM{κ:KX}{f us g:Ab κ}(k:us.length<=4)(h:κ.P<=997)(d:GP κ f us g):g.length<=997/\g.Nodup:=by
 cases κ with
 |q=>exact (by have:=K7 (Mn d.1) λx i=>(d.2 x).mp i;omega,Mn d.1)
 |r p l =>
  obtain ⟨c,j,rfl⟩:=d;have h:(p:Int)<=997:=h;refine (?_,?_)
  ·rw[Q1];have:=List.length_filter_le c<|List.range p;rw[Qu] at this;omega
  ·refine List.pairwise_map.mpr ((List.Pairwise.filter c<|List.nodup_range (n:=p)).imp_of_mem fun {a b} ha hb ne e=>ne<|aH (Wq.mp (Wn.mp ha).1) (Wq.mp (Wn.mp hb).1) e)
end Lake.My
namespace Lake.L2
open PySem PySem.Spec PyProof.Rows
theorem Ss:∀ {xs:List V} {us:List Value},xs.length=us.length->(∀(i:Nat) x u,xs[i]?=some x->us[i]?=some u->RelV x u)->Al xs us
 | [],[],_,_ => .nil
 | [],_::_,h,_=>by simp at h
 |_::_,[],h,_=>by simp at h
 |x::xs,u::us,h,k => .cons (k 0 x u rfl rfl)<|Ss (by simpa using h) λi y z a b=>k (i+1) y z (by simpa using a) (by simpa using b)
section
variable{X:Cx}{e1:Expr}{ta:TA}{p p2 pos pos2:Pos}
def k9(ta:TA):TE:=λb H Q=>ta b H λc a=>∃n:Nat,c=[.int (n:Int)]/\n<=1000/\∀p,a p=none->Q (.ref p) (As a p<|.lst<|(List.range n).map λ(i:Nat)=>V.int (i:Int))
theorem oO(k:Gl X "list") (l:X.mg "list" = none) (B:Gl X "range") (D:X.mg "range" = none) (a:X.calm=true) (x:PA X [e1] ta) (A:starEach [e1] X.env=[(false,eval e1 X.env)]:=by rfl) (f:starEach [.Call (.Name "range" p) [e1] [] pos] X.env=[(false,eval (.Call (.Name "range" p) [e1] [] pos) X.env)]:=by rfl) :
 PE X (.Call (.Name "list" p2) [.Call (.Name "range" p) [e1] [] pos] [] pos2) (k9 ta):=by
 intro c s N H Q I h;refine q8<|EH I k l boot_list ?_;refine qV ?_ (by rw[f]; rfl) (by rfl);rw[f];refine Calls.spliced_cons ?_;refine q8<|EH I B D boot_range<|qV (Ax (x pos c s N H _ I h) λU g ⟨W,Y,r,J,K⟩=>?_) (by rw[A]; rfl) (by rfl);obtain ⟨n,e,v,q⟩:=K;subst e;obtain ⟨u,rfl,t,rfl⟩:=Fw J;refine call_range_1<|Calls.spliced_nil ?_;have L:Builtin.Range.small 0 (n:Int) 1=true:=small_one ⋯ ⋯ ⋯ ⋯;have O:Builtin.Range.rangeSize 0 (n:Int) 1=n:=by
  unfold Builtin.Range.rangeSize;rw[qK ∅]
  simp only[Int.ediv_one]
  split <;> omega
 refine call_list_range (r.ok.hd a) (IsRange.new ..) L O (Q0 v ∅) λh' P m R S j d=>?_;obtain ⟨T,M⟩:=d;have G:=λb C e=>S b C<|qJ _ e;have w:g.heap.objs.size<=(g.heap.push { cls:=.type "range", data:=.fields #[.int 0 g.toks,.int (n:Int) t,.int 1<|g.toks+1] }).objs.size:=by rw[sO]; omega
 refine (.ref _,_,r.laid (t':=P) (h':=h') G w ?_,rfl,q _<|r.hok.fresh w);refine (by rw[Q1,Qu]; exact Wf<|FX v,m.toList,R,Ss (by rw[Q1,Qu,rT,T])<|λi y z o F=>?_,j);have E:i<n:=by
  have:=(Qr.mp o).1
  rwa [Q1,Qu] at this
 rw[Q7,Ww E] at o
 cases o
 obtain ⟨t',rfl⟩:=M i z (by rw[<-F,Array.getElem?_toList]);exact (t',by rw[show (0:Int)+(i:Int)*1=(i:Int) by omega])
end
end Lake.L2
namespace Lake.Zp
open My
open PySem L2 PyProof.Rows
variable{Z:Zc}{X:Cx}{P:Program}{w:World}{K:Ac}{mg:Ai}{base:Heap}
theorem VC{p:Nat}{hp:BB p}:∀ {l:List Nat},(∀i∈l,i<p)->nums (.r p hp) (l.map λi:Nat=>zi (i:Int)) = .lst (l.map λi:Nat=>PV.int (i:Int)):=fun {l} h=>by
 unfold nums;rw[List.map_map];exact qW PV.lst<|rN λi a=>num_zi<|h i a
theorem Ro{κ:KX}{f us:Ab κ}{Q:AH}(m:Gx κ f us)(k:κ.P<=997)(q:∀d,GP κ f us d->Q (.fr<|d.map<|rk κ<|sr f)):IR S_fr [.kd κ,nums κ f] Q:=by
 obtain ⟨D,E,M,N,z⟩:=WB m;have A:=m.l1;have u:=m.l8;have s:f.length-1<=8:=⋯;have j:=Q0 z.eN z.n1;refine .mk (GP κ f us) (λF t=>?_) q;refine .mk (D:=D) (E:=E) (M:=M) (N:=N) (GP κ f us) m.tf A u (λH h=>?_) (λd l=>?_) (λy g _ e=>z.hb y g e) z.d0 z.e0 z.m0 z.eN (BY (a:=250+(220+220)*8) ∅<|CI z.d1<|GF (CI z.n1 j) s) (BY (a:=220+(1+(220+220))*8) ∅<|CI z.m1<|GF (CI ∅<|CI j z.n1) s) (BY ∅ j) (BY ∅ z.n1) t
 ·cases κ with
  |q =>
   obtain ⟨G,n,c,D,M,C⟩:=m.z;exact S_fr.mk C λd a b=>h d (a,b)
  |r p hp =>
   have k:(p:Int)<=997:=k;refine S_tri.mk ⋯ ⋯ λc B=>?_;rw[<-VC (hp:=hp) λi v=>Wq.mp (Wn.mp v).1];exact h _ (c,B,rfl)
 ·obtain ⟨a,b⟩:=LM m.u4 k l;refine (⋯,b,λr x=>?_);have o:=z.hr r<|gK l x;exact (QN.b1 (by have:=z.e0;omega) (by rw[Qa];exact BY ∅ j) (BY ∅ z.n1) o,o.neg)
inductive Ew:ZF
 |mk {Q:AH} {κ:KX} {f us:Ab κ} (m:Gx κ f us) (p9:κ.P<=997) (q:∀rs,GP κ f us rs->Q (.lst (rs.map (rk κ (sr f))))):Ew [.kd κ,nums κ f] Q
theorem z_rts{k:Nat}(h:Fn P w K mg base Z "roots" k (IR S_fr)):Fn P w K mg base Z "roots" k Ew :=
 Tg h (λ_ _ _ f ⟨m,p,q⟩=>(m,p,λb a=>f _<|q b a)) λc Q ⟨m,p,q⟩=>Ro m p q
abbrev Zc.at(Z:Zc)(s:Addr->Prop):Zc:=(Z.f,Z.r,Z.p,s,Z.t,Z.la,Z.las)
def ML(Z:Zc):Sp:=λa H Q E=>∃s,EO (Z.at s) (IR S_fr) a H Q E
theorem z_roots1{k:Nat}(h:Ae K mg "roots" KZ) (a:∀s,Fn P w K mg base (Z.at s) "roots_and_left" k<|S_ral S_fr):C1 P w K mg base "roots" (k+1) ["kind","f"] (ML Z) :=
 h.hasX (λ_ _ F=>F.b2 λ_ _ _ _ _ _ _ _=>rfl) λf n F=>F.okx Vp (λm H Q E ⟨s,c⟩=>by
  obtain ⟨O,pv,l,r,q⟩:=c;obtain ⟨_,_,_⟩:=q;exact r.len) λj A b s H m Q E o ⟨d,c⟩=>IZ (Z:=Z.at d) (N:=["kind","f"]) (ps:=["kind","f"]) (λ_ _ ⟨_,_,_⟩=>rfl) (AK<|Bk<|A8 (AD (a d)<|Aw (qv 0)<|qv 1) Ah) ∅ (λ_ Q ⟨R,h,q⟩=>h _ λi g e=>(_,rfl,q i e)) c
abbrev fA(i j:Nat):ZS:=λD b=>∃(a:KX) (f c:Ab a),A0 b i=some (.val<|.kd a)/\A0 b j=some (.val<|nums a f)/\Gx a f c/\a.P<=997/\D.nx b
theorem gM{Z l:Zc}{κ:KX}{f:Ab κ}(h:Rep Z H (nums κ f) v):Rep l H (nums κ f) v:=by
 obtain ⟨a,j,e,d,r⟩:=Db h;unfold nums Rep;refine (a,j,e,d,.of r.len λi p u g n=>?_);obtain ⟨o,b,c⟩:=r.get g;rw[n] at b;cases b;obtain ⟨x,y,rfl⟩:=mget g;unfold num at *
 cases κ with
 |r p g=>rw[A3 c];exact rep_i
 |q =>
  have c:=c;unfold Rep at *;obtain ⟨a,j,e,d,r⟩:=c;obtain ⟨s,t,rfl,k,m⟩:=r.two;exact (a,_,e,d,.cons (by rw[A3 k];exact rep_i)<|.cons (by rw[A3 m];exact rep_i) .nil)
theorem cD{κ:KX}{s:Sr κ}{f:Ab κ}(r:Af Z (hide O H) (f.map<|rk κ s) us):∀u∈us,∃(t:Addr) (v:V) (x:κ.F) (m:Int),u = .ref t/\H t=some (.tup [v,.int m])/\NR κ H v x:=λu n=>by
 obtain ⟨i,g⟩:=rM n;have b:=(Qr.mp g).1;rw[r.len,Q1] at b;obtain ⟨y,a,c⟩:=r.get (i:=i) (p:=rk κ s f[i]) (by rw[Q7,Q6 b];rfl);rw[g] at a;cases a;unfold rk Rep at c;obtain ⟨t,q,e,d,j⟩:=c;obtain ⟨k,o,rfl,h,l⟩:=j.two;rw[A3 l] at d;exact (t,k,_,_,e,hide_le _ _ d,D5 h)
theorem cK{x y:Str}{p p2 p3 M N W pos:Pos}(i j:Nat)(g:C1 X.prog X.w X.K X.mg X.base "roots" k ps (ML Z)) (h:AF X.prog X.w X.K X.mg X.base "_law_spoil" k ["_law_thing"] (Ea<|Ea<|Ea<|Ea FU)) (S:Av k X.A:=by assumption) (hg:Gl X "_law_spoil" := by rfl) (F:Gl X "roots" := by rfl)
 (hN:X.N[i]?=some x:=by rfl) (hv:ET X.env.scope x:=by first | exact .inl rfl | exact .inr (.inl rfl) | exact .inr (.inr rfl)) (hd:(x==("__debug__" : Str))=false:=by decide) (t:(x==("__classdict__" : Str))=false:=by decide)
 (u:X.N[j]?=some y:=by rfl) (B:ET X.env.scope y:=by first | exact .inl rfl | exact .inr (.inl rfl) | exact .inr (.inr rfl)) (I:(y==("__debug__" : Str))=false:=by decide) (q:(y==("__classdict__" : Str))=false:=by decide)
 (hs:swapsWith (.Call (.Name "_law_spoil" p) [.Call (.Name "roots" p2) [.Name x p3,.Name y M] [] N] [] W) none pos.line X.env=pure false:=by rfl):QS Z X (.Expr (.Call (.Name "_law_spoil" p) [.Call (.Name "roots" p2) [.Name x p3,.Name y M] [] N] [] W) pos) (fA i j) :=
 (λD D' ρ l ⟨κ,A,m,a,b,c,d,e⟩=>(κ,A,m,a,b,c,d,l.nx _ e),λH0 O0=>Du (Gb (BJ h S hg<|Ag (KF g HV S F<|Ag (FH hN hv hd t)<|Ag (FH u B I q) An) An) hs) λD T H ⟨O,ρ,s,κ,f,us,ei,ej,m,L,kk⟩=>by
  obtain ⟨v,ev,r⟩:=s.rel i _ ei;obtain ⟨v2,C,G⟩:=s.rel j _ ej
  cases r with | val r=>?_
  cases G with | val G=>?_
  have rk:Rep (Z.at λa=>hide O H a≠none) (hide O H) (.kd κ) v:=by
   unfold Rep at *;obtain ⟨a,e,h1,h2⟩:=r;exact (a,e,h1,λa n=>n,h2.2)
  refine (v,ev,v2,C,λa=>hide O H a≠none,O,[.kd κ,nums κ f],s.ls,.cons rk<|.cons (gM G) .nil,Ro m L λrs hR v3 H2 S2 Y=>?_);unfold Rep at Y;obtain ⟨a,ua,rfl,na,J,U⟩:=Y;have la:=U.len;rw[Q1] at la;have lr:=(LM m.u4 L hR).1;have nn:H a=none:=by
   have:=Classical.not_not.mp na
   rwa [hide_out (HS J).1] at this
  refine bI (κ:=κ) (Q:=λ_ H3=>D.nx T H3) (E:=E0) (hide_le _ _ J) ⋯ (cD U) ?_;have R:Ad H (As H2 a<|.lst<|ua++[.non]):=λb o z=>by
   rw[AL<|Dj z nn]; exact S2 _ _ z
  exact kk O T _ (s.same R)<|Ct R)
structure F9 (Z:Zc) (p:PV):Prop where
 ex:∃d,∀O H v,Rep Z (hide O H) p v->Rp H 8 v d
inductive FR (Z:Zc) (b:Bool):Gv
 |mk {Q:AH} {p:PV} (d:F9 Z p) (q:Q (.bl b)):FR Z b p p Q
theorem aV:LR Z Vn (FR Z true):=(λp q A B f ⟨d,h⟩=>(d,f _ h),λO H p q x y Q _ a b k=>by
 obtain ⟨⟨d,e⟩,k⟩:=k;exact (d,e O H _ a,e O H _ b,k _ H BI D2))
theorem X9:LR Z QV (FR Z false):=(λp q A B f ⟨d,h⟩=>(d,f _ h),λO H p q x y Q _ a b k=>by
 obtain ⟨⟨d,e⟩,k⟩:=k;exact (d,e O H _ a,e O H _ b,k _ H BI D2))
theorem Vy{α:Type}{f:α->PV}{g:α->PyData}{n:Nat}(o:n+1<=8)(h:∀x O H v,Rep Z (hide O H) (f x) v->Rp H n v (g x))(l:List α):F9 Z (.lst<|l.map f):=(.list<|l.map g,λO H v r=>by
 obtain ⟨a,k,rfl,j,r⟩:=Db r;have d:=r.len;rw[Q1] at d;refine Rp.mono (n:=n+1) (.inr<|.inl (a,k,_,rfl,rfl,hide_le _ _ j,by rw[Q1];exact d,λi u e q b=>?_)) o;rw[Q7] at b
 cases hx:l[i]? with
 |none=>rw[hx] at b;cases b
 |some x =>
  rw[hx] at b;cases b;obtain ⟨s,c,m⟩:=r.get (i:=i) (p:=f x) (by rw[Q7,hx];rfl);rw[q] at c;cases c;exact h x O H u m)
theorem i6{κ:KX}(f:Ab κ):F9 Z (nums κ f):=Vy (g:=κ.D) (n:=1) ∅ (λx O H v r=>(D5 r).rp) f
theorem fG{κ:KX}{s:Sr κ}(d:Ab κ):F9 Z (.lst<|d.map<|rk κ s):=Vy (g:=λr => .tuple [κ.D r,.int ((DX s r:Nat):Int)]) (n:=2) ∅ (λx O H v r=>by
 unfold rk Rep at r;obtain ⟨t,m,rfl,c,h⟩:=r;obtain ⟨k,l,rfl,f,j⟩:=h.two;rw[A3 j] at c;exact .inr<|.inr (t,_,_,rfl,rfl,hide_le _ _ c,rfl,λi u e a b=>by
  match i,a,b with
  |0,a,b=>cases a;cases b;exact (D5 f).rp
  |1,a,b=>cases a;cases b;exact .inl Kl
  |i+2,a,b=>simp at a)) d
inductive Dp:ZF
 |mk {Q:AH} {κ:KX} {x:κ.F} (q:Q (.bl true)):Dp [.int κ.P,num κ x] Q
theorem z_lisn{k:Nat}(h:AF P w K mg base "_law_is_number" k ps PQ):Fn P w K mg base Z "_law_is_number" k Dp :=
 EA h.toX (λps A B f ⟨q⟩=>⟨f _ q⟩) λO pv c H Q E L r s=>by
  obtain ⟨q⟩:=s;obtain ⟨u,v,rfl,a,b⟩:=r.two;exact (_,v,_,by rw[A3 a],D5 b,q _ H BI D2)
inductive Ed:ZF
 |mk {Q:AH} {i:Int} (q:Q (.bl true)):Ed [.int i] Q
theorem z_lwh{k:Nat}(h:AF P w K mg base "_law_whole" k ps HW):Fn P w K mg base Z "_law_whole" k Ed :=
 EA h.toX (λps A B f ⟨q⟩=>⟨f _ q⟩) λO pv b H Q E L r s=>by
  obtain ⟨q⟩:=s;obtain ⟨u,rfl,a⟩:=r.one;exact (_,by rw[A3 a],q _ H BI D2)
theorem fK{p p2 pos c:Pos}(m:X.mg "list" = none) (A:X.mg "range" = none) (h:QE Z X e te) (B:X.calm=true:=by rfl) (l:Gl X "list" := by rfl) (y:Gl X "range" := by rfl) (r:starEach [e] X.env=[(false,eval e X.env)]:=by rfl) (g:starEach [.Call (.Name "range" p) [e] [] pos] X.env=[(false,eval (.Call (.Name "range" p) [e] [] pos) X.env)]:=by rfl) :
 QE Z X (.Call (.Name "list" p2) [.Call (.Name "range" p) [e] [] pos] [] c) (λρ Q=>te ρ λq=>∃n:Nat,q = .int (n:Int)/\n<=1000/\Q (.lst ((List.range n).map λi:Nat => .int (i:Int)))) :=
 (λρ _ _ f q=>h.mo ρ _ _ (λp ⟨n,a,b,k⟩=>(n,a,b,f _ k)) q,λC z=>BZ (oO l m y A B (Ag (h.ok C z) An r) r g) λE H Q ⟨O,ρ,s,q⟩=>(O,ρ,s,h.mo ρ _ _ (λp ⟨n,a,b,k⟩ v F t D=>by
  subst a;refine (n,by rw[A3 D],b,λa x=>k _ _ (AW t<|Bg x _) ?_);unfold Rep;refine (a,_,rfl,by rw[hide_out<|(s.ls.same t).new x]; exact A4,.of (by rw[Q1,Q1]) λi q u d o=>?_);rw[Q7] at d o
  cases e:(List.range n)[i]? with
  | none=>rw[e] at d; cases d
  | some j=>rw[e] at d o; cases d; cases o; exact rep_i) q))
inductive S_lrt:ZF
 |mk {Q:AH} {κ:KX} {f us:Ab κ} (m:Gx κ f us) (p9:κ.P<=997) (q:Q (.bl true)):S_lrt [.kd κ,.int κ.P,nums κ f,nums κ us] Q
theorem C6:Aa ["_law_kind_here","_law_prime_here","_law_f","_law_used","_law_handed","_law_found","_law_some","_law_due","_law_number","_law_times_here","_law_one"] ["_law_kind_here","_law_prime_here","_law_f","_law_used"] (Ao OI):=‹2›
theorem z_lrt{R:List Str}(h:Ae K mg "_law_right" OI) (T:Nm mg) (u:C1 P w K mg base "roots" 17 R (ML Z)) (t:AF P w K mg base "_law_spoil" 17 ["_law_thing"] (Ea<|Ea<|Ea<|Ea FU)) (B:Fn P w K mg base Z "roots" 17 Ew) (j:Fn P w K mg base Z "_law_rising" 17 DC) (l:Fn P w K mg base Z "_law_rooted" 17 Ep) (e:Fn P w K mg base Z "_law_is_number" 17 Dp) (o:Fn P w K mg base Z "_law_whole" 17 Ed):Fn P w K mg base Z "_law_right" 18 S_lrt:=by
 have v:=C6.nd;refine Cg h C6 (λ_ _ _ _ _ _ _ hr =>
  (Ap (AE 4 v<|QL.toE<|WT T.list<|qv 2)
  (Ap (cK 0 4 u t)
  (Ap (AE 5 v<|AD B<|Aw (qv 0)<|qv 4)
  (Ap (El (QW.t<|HH (Ij<|Fv<|iU T.isinstance T.list<|qv 5)<|JP<|Ch (iE hr) X9 (qv 4)<|qv 2) (AK<|Bk LL) DM)
  (Ap (AE 6 v<|fK T.list T.range<|qv 1)
  (Ap (JI (Ch BO D9 (qv 1) Ah) (AK<|AE 6 v<|AD j<|By<|qv 3) DM)
  (Ap (Hi 7 v<|Cs EM)
  (Ap (D3 [8,9] (ED<|qv 6) (Eg 8 v)<|Ap (AE 9 v<|A8 (AD l<|BG (qv 1) (qv 2)<|qv 8) Ah)
   (AK<|El (Ch Eu lb (qv 9) Ah) (AK<|Iv 7<|CH<|Aw (qv 8)<|qv 9) DM))
  (Ap (D3 [10] (ED<|qv 5) (Eg 10 v)<|AK<|El (QW.t<|HH (Ij<|Fv<|n5 T.isinstance T.tuple<|qv 10)<|HH (Ch Ga p7 (Ci T.len<|qv 10) Ah)<|HH (Ij<|Fv<|AD e<|Aw (qv 1)<|A8 (qv 10) Ah)<|JP<|Ij<|Fv<|AD o<|By<|A8 (qv 10) Ah) (AK<|Bk LL) DM)
  (AK<|Jr 7<|Bk<|SG (hV hr) aV (qv 5)<|qv 7))))))))))) ?_
 rintro _ Q ⟨m,J,q⟩
 rename_i d f G
 obtain ⟨D,E,M,N,z⟩:=WB m;have l1:=m.l1;have Y:=m.l8;have e1:E<=2^220:=Q0 z.eN z.n1;refine (d,f,G,rfl,rfl,m,J,Ew.mk m J λL W=>?_);refine (i6 f,?_);have lr:=(LM m.u4 J W).1;obtain ⟨F,O,pn9⟩:∃F:Nat,d.P=(F:Int)/\F<=997:=by
  cases d with
  |q=>exact (0,rfl,∅)
  |r p A=>exact (p,rfl,by have:(p:Int)<=997:=J;omega)
 refine (F,by rw[O],⋯,?_);refine (λH=>∃s:Ab d,MJ d G s/\s.length<=997/\H=[some<|.val<|.kd d,some<|.val<|.int d.P,some<|.val<|nums d f,some<|.val<|nums d G,some<|.val<|nums d f,some<|.val<|.lst<|L.map<|rk d<|sr f,some<|.val<|nums d s,none,none,none,none],?_,?_)
 ·rintro _ ⟨s,S,ls,rfl⟩;refine (by show 0<=1000;decide,(λi H=>H=[some<|.val<|.kd d,some<|.val<|.int d.P,some<|.val<|nums d f,some<|.val<|nums d G,some<|.val<|nums d f,some<|.val<|.lst<|L.map<|rk d<|sr f,some<|.val<|nums d s,some<|.own<|((s.take i).filter λr=>decide<|0<DX (sr f) r).map<|rk d<|sr f,none,none,none],rfl,?_,?_))
  ·rintro i p _ A rfl;obtain ⟨r,C,rfl⟩:=mget A;have U:=z.hr r<|oA S<|Ql C;have et:s.take (i+1)=s.take i++[r]:=by rw[Ul,C];rfl
   refine Ep.mk (D:=D) (E:=E) (M:=M) (N:=N) m.tf l1 Y (Ie U z.e0 (BY ∅ e1)<|BY ∅ z.n1) U (λk g tk x I=>?_) (z.d0,z.e0,z.eN,BY (a:=250+220*9) ∅<|CI z.d1<|GF e1 ⋯,BY (a:=4+(220+220*8)+220) ∅<|CI (CI ⋯<|CI z.m1<|GF z.n1 Y) z.n1) λg=>(_,rfl,br (λy=>?_) λy=>?_)
   ·have:=z.hb (List.replicate k r) g (by rw[Lg];exact tk.e) x I;exact (this,Ie this z.d0 (BY ∅ z.d1)<|BY ∅ z.m1)
   ·have y:(0:Int)<((DX (sr f) r:Nat):Int):=y;refine (by show 2<=1000;decide,?_,?_)
    ·rw[Q1];have:=List.length_filter_le (λr=>decide<|0<DX (sr f) r)<|s.take i;rw[Qn] at this;omega
    ·rw[et,List.filter_append,List.filter_cons,qK<|rG ⋯,Wp]
     rfl
   ·have y:¬(0:Int)<((DX (sr f) r:Nat):Int):=y;show _=_;rw[et,List.filter_append,List.filter_cons,qI (by rw[qT];omega)];show _=[_,_,_,_,_,_,_,some<|Sl.own<|((s.take i).filter _++[]).map _,_,_,_];rw[Wu]
  ·rintro _ rfl;refine (λi H=>H=[some<|.val<|.kd d,some<|.val<|.int d.P,some<|.val<|nums d f,some<|.val<|nums d G,some<|.val<|nums d f,some<|.val<|.lst<|L.map<|rk d<|sr f,some<|.val<|nums d s,some<|.own<|((s.take (s.map<|num d).length).filter λr=>decide<|0<DX (sr f) r).map<|rk d<|sr f,none,none,none],rfl,?_,?_)
   ·rintro i p _ A rfl;obtain ⟨r,C,rfl⟩:=mget A;refine show At [num d r,.int ((DX (sr f) r:Nat):Int)] 0 _ from (_,rfl,Dp.mk (show At [num d r,.int ((DX (sr f) r:Nat):Int)] 1 _ from (_,rfl,Ed.mk rfl)))
   ·rintro _ rfl;rw[Q1,Uk,<-eE m W S];exact FR.mk (fG L) q
 ·refine br (λy=>?_) λy=>?_
  ·cases d with
   |r p A=>exact absurd (show (p:Int)=0 from y) (by have:=A.two;omega)
   |q =>
    obtain ⟨h',n,c,D',M',fz⟩:=m.z;have u4:=m.u4;refine DC.mk ⋯ (λx I=>?_) λs a b=>(s,(a,b),by have:=K7 (Mn a) λx I=>(b x).mp I;omega,rfl);have:=(IK I).1;have pz:=fz.pm;have t1:Rat.den x<=2^220:=⋯;have t2:(Rat.num x).natAbs<=2^220:=⋯;exact (BY ∅ t2,by rw[Qa];exact BY ∅ t1)
  ·cases d with
   |q=>exact absurd (show (0:Int)=0 from rfl) y
   |r p A =>
    have O:(p:Int)=F:=O;obtain rfl:p=F:=⋯;refine ((List.range p).map λi:Nat=>zi (i:Int),rfl,by rw[Q1,Qu];exact pn9,?_);rw[VC λi hi=>Wq.mp hi]
end Lake.Zp
namespace Lake.My
open PySem L2 PyProof.Rows
abbrev Zt(T:Addr):Addr->Array Value->Prop:=λa b=>a=T/\b=Zp.laT
abbrev Zs(F R C T:Addr):Zp.Zc:=(F,R,C,λ_=>False,Zt T,λ_ _ _ _ _ _=>False,λ_ _ _ _ _ _ _ _ h=>h)
inductive sp_law (T:Addr) (K:Ac) (vs:List V) (H:Hp) (Q:VK) (zE:XK):Prop
 |mk (a:Addr) (ns:List Int) (_:vs=[.ref a]) (_:AR K H a (ns.map V.int)) (_:ns.length<=63) (_:H T=some (.tbl Zp.laT)) (_:∀H',Q (.bl true) H'):sp_law T K vs H Q zE
theorem Yv(a:List Int)(lo c:Option Int):∃b:List Int,FB (a.map V.int) lo c=b.map V.int/\b.length<=a.length:=by
 unfold FB;rw[<-List.map_drop,<-List.map_take];exact (_,rfl,by rw[Qn,W6];omega)
theorem VN{K:Ac}(h:AR K H a xs)(S:Ad H b):AR K b a xs:=by
 rcases h with h|h
 ·rcases h with h|⟨o,h⟩
  ·exact .inl (.inl<|S _ _ h)
  ·exact .inl (.inr (o,S _ _ h))
 ·exact .inr h
theorem X3(p:Int):∃m:Int,CC [V.int 56,V.int 24,V.int 18] ((if decide (V.int p=V.int 0)=true then 1 else 0)+2*(if decide (100<p)=true then 1 else 0))=some (.int m):=by
 by_cases h:100<p
 ·rw[rG h,q7 (show ¬V.int p=V.int 0 from λe=>by injection e with e;omega)];exact (18,rfl)
 ·rw[q7 h]
  by_cases g:V.int p=V.int 0
  ·rw[rG g];exact (24,rfl)
  ·rw[q7 g];exact (56,rfl)
inductive RK (κ:KX) (a kk ca:Addr) (H4:Hp) (mm:Nat) (σ:L2.St) (H':Hp):Prop
 |mk (t:Nat) (z5 z6:Option V) (_:mm=200-t) (_:σ=[some (.ref a),some (.int κ.P),some (.ref kk),some (.ref ca),some (.int (t:Int)),z5,z6]) (_:Ad H4 H'):RK κ a kk ca H4 mm σ H'
theorem VG:Zp.hide [] H=H:=by funext a;exact Zp.hide_out Uh
theorem jQ{H:Hp}{b:List Int}(h:H a=some (.lst<|b.map V.int)):Zp.Rep Z (Zp.hide [] H) (Zp.zns b) (.ref a):=by
 rw[VG];unfold Zp.zns Zp.Rep;refine (a,_,rfl,h,.of (by rw[Q1,Q1]) λi p u e c=>?_);obtain ⟨n,d,rfl⟩:=Zp.mget e;rw[Q7,d] at c
 cases c
 exact Zp.rep_i
section
variable{P:Program}{w:World}{K:Ac}{mg:Ai}{base:Heap}{CF CR CP T:Addr}
theorem Ff:Aa ["_law_script","_law_prime_here","_law_kind_here","_law_cells","_law_at","_law_f","_law_used"] ["_law_script"] (Ao Oa):=‹2›
theorem dF(F:BT K "law" "law" Oa f fd) (L:Nm mg) (c:AF P w K mg base "_law_prime_by" 18 ["_law_cell"] MR) (g:AF P w K mg base "_law_kind" 18 ["_law_prime_here"] (Oz CF CR)) (d:AF P w K mg base "_law_cell_at" 18 ["_law_cells","_law_k"] (KI K)) (J:Zp.Fn P w K mg base (Zs CF CR CP T) "_law_made" 18 Zp.S_lmd) (S:Zp.Fn P w K mg base (Zs CF CR CP T) "_law_right" 18 Zp.S_lrt):AS P w K mg base DW 19 f fd ["_law_script"] (sp_law T K):=by
 obtain ⟨a3,j⟩:=J.has;obtain ⟨a1,e⟩:=S.has;refine F.ok Ff (λvs H Q E h=>?_)<|λa2 A C s H vs Q E x h=>?_
 ·obtain ⟨_,_,rfl,_⟩:=h
  rfl
 obtain ⟨a,ns,rfl,hS,hl,hT,k⟩:=h;have q:=Ff.nd;refine (_,(AQ (Bv (i:=1) q rfl (Or.inl rfl)<|BJ c x (by rfl)<|Ag (BJ d x (by rfl)<|Ag (pv 0)<|Ag Aj An) An)
  (AQ (Bv (i:=2) q rfl (Or.inl rfl)<|BJ g x (by rfl)<|Ag (pv 1) An)
  (AQ (Bv (i:=3) q rfl (Or.inl rfl)<|Ar RO (JV JR (pv 0) O2<|Oo<|AY FN (Jb<|Ag Aj<|Ag Aj<|Ag Aj An) (Ar Bw (Px SS (by rfl) L.int boot_int<|Ag (FY BO (pv 1) Aj<|Bn _) An)<|Ar Fj Aj<|Px SS (by rfl) L.int boot_int<|Ag (FY Eu (pv 1) Aj<|Bn _) An)<|λ_ _=>rfl)<|Jb<|Ag Aj An)
  (AQ (Bv (i:=4) q rfl (Or.inl rfl) Aj)
  (AQ (Fq q5 (BK EW (pv 4) (Cf E7 (by rfl) L.len boot_len<|Ag (pv 3) An)<|Bn _)<|AQ (M9 (KF j HV x (by rfl)<|Ag (pv 1)<|Ag (pv 3)<|Ag (pv 4) An)<|Ia (n:=2) rfl<|E3 (CA (i:=5) q rfl<|Or.inl rfl)<|E3 (CA (i:=6) q rfl<|Or.inl rfl) HN)
   (AQ (BX (GG<|DQ<|KF e HV x (by rfl)<|Ag (pv 2)<|Ag (pv 1)<|Ag (pv 5)<|Ag (pv 6) An) (Az<|A7 GA) BW)
   (Az<|Bv (i:=4) q rfl (Or.inl rfl)<|Ar Bw (pv 4) Aj)))
  (Az<|A7 GA)))))),?_)
 refine (_,rfl,a,ns,0,rfl,hS,Int.le_refl _,λc0=>?_);refine (c0,rfl,λH1 pr S1 pk p9=>?_);refine (_,rfl,pr,rfl,pk,λH2 kk S2 W=>?_);obtain ⟨u,rfl,N⟩:=bO W;have Z:=VN hS<|S1.trans S2;have a0:=(S1.trans S2) _ _ hT;refine (_,rfl,(by show 3<=sizeLine;decide),λl nl=>?_);have Sl:=Bg nl<|.lst [.int 56,.int 24,.int 18];have ql:=A4 (H:=H2) (a:=l) (o:=.lst [.int 56,.int 24,.int 18]);generalize As H2 l (.lst [.int 56,.int 24,.int 18])=H3 at *;obtain ⟨m,em⟩:=X3 u.P;refine (_,rfl,rfl,.inr (_,rfl,_,rfl,_,_,rfl,rfl,.inr (_,rfl,_,_,rfl,rfl,(by split <;> exact .inl (∅,∅)),_,_,rfl,rfl,l,_,_,_,rfl,rfl,AR.of ql,em,m,rfl,a,_,rfl,VN Z Sl,λG M=>?_)));obtain ⟨p,es,a4⟩:=Yv ns none<|some m;rw[es];have Sc:=Bg M<|.lst<|p.map V.int;have qc:=A4 (H:=H3) (a:=G) (o:=.lst<|p.map V.int);generalize As H3 G (.lst<|p.map V.int)=H4 at *;refine ((by show 1<=sizeLine;decide),λU I=>?_);have Sd:=Bg I<|.lst [.int 0];have qd:=A4 (H:=H4) (a:=U) (o:=.lst [.int 0]);generalize As H4 U (.lst [.int 0])=H5 at *;refine (G,U,_,_,rfl,rfl,Sd _ _ qc,qd,(by rw[Q1];show p.length+1<=sizeLine;exact Q0 (show _<=64 by omega) ∅),λB O=>?_);have ez:p.map V.int++[V.int 0]=(p++[0]).map V.int:=by rw[Wp];rfl
 rw[ez];have Se:=Bg O<|.lst<|(p++[0]).map V.int;have qe:=A4 (H:=H5) (a:=B) (o:=.lst<|(p++[0]).map V.int);have lc:(p++[0]).length<=64:=by rw[Qi];show p.length+1<=64;omega
 generalize p++[0]=Y at *;generalize As H5 B (.lst<|Y.map V.int)=H6 at *;have v:=Sl.trans<|Sc.trans<|Sd.trans Se;have R:=N.same v;have D:=v _ _ a0;refine (λmm σ H'=>RK u a kk B H6 mm σ H',(_,0,_,_,rfl,rfl,Ad.refl _),?_);rintro mm σ H7 ⟨t,z5,z6,rfl,rfl,S7⟩;have y:=S7 _ _ qe;refine (_,rfl,_,rfl,B,_,rfl,.inl<|AR.of y,_,_,rfl,rfl,_,rfl,?_);rw[Q1];refine Ex (λz=>?_)<|λ_=>k H7;have z:(t:Int)<(Y.length:Int):=z;refine (_,λ_ _ h=>h,?_);have ls:Zp.Ls [] H7:=λ_ m=>nomatch m;refine (_,rfl,_,rfl,_,rfl,[],[.int u.P,Zp.zns Y,.int (t:Int)],ls,.cons Zp.rep_i<|.cons (jQ y)<|.cons Zp.rep_i .nil,Zp.S_lmd.mk λf us md v8 H8 S8 r8=>?_);unfold Zp.Rep at r8;obtain ⟨tp,vs,rfl,X,rr⟩:=r8;obtain ⟨v1,v2,rfl,r1,r2⟩:=rr.two;refine (tp,_,rfl,AI.of<|Zp.hide_le _ _ X,rfl,?_);refine (v1,_,rfl,v2,_,rfl,rfl,?_);have r:=S7.trans S8;refine (_,rfl,_,rfl,_,rfl,_,rfl,[],[.kd u,.int u.P,Zp.nums u f,Zp.nums u us],ls.same S8,.cons ?_<|.cons Zp.rep_i<|.cons r1<|.cons r2 .nil,Zp.S_lrt.mk md p9 λvb H9 S9 rb=>?_)
 ·unfold Zp.Rep;rw[VG];exact (kk,rfl,R.same r,λ_ z=>z.elim,λb ps ⟨e1,e2⟩=>by subst e1 e2;exact r _ _ D)
 obtain rfl:=Zp.rep_bl rb;refine (_,rfl,Ek ?_);refine (_,rfl,_,_,rfl,rfl,?_);exact (200-(t+8),⋯,t+8,_,_,rfl,rfl,r.trans S9)
end
end Lake.My
namespace Lake.Zp
open My
open PySem PySem.Spec L2 PyProof.Rows
theorem nB{K:Ac}{fa a c T:Addr}{x:Str}{f:Shared}{vs:List Value}{S:List Int}{tq:Array Value}
 (KX:K.In f.heap) (L:f.heap.Ns mainGlobals mg) (g:f.heap.Ns builtinsNs mb) (a1:∀x:Str,x ≠ "__name__" -> mb x=bootBuiltins x) (O:f.heap.NoLimit) (hg:f.gens=#[])
 (D:f.heap.get? a=some { cls:=.type "list", data:=.seq vs.toArray }) (hi:IntsAre vs S) (hl:S.length<=sizeLine) (hr:Av k callerA)
 (C:PySem.W.CodeHd f.heap c T) (I:f.heap.get? T=some (PySem.W.tabObj #[])) (a7:PySem.W.noTabs K=true) (a6:Bm mg f.heap)
 (F:∀base:Heap,K.In base->base.Ns mainGlobals mg->Bm mg base->PySem.W.CodeHd base c T->AS P w K mg base CX k fa fd [x] sp) (E:∀(s:Shared) (u:Value),BindsTo s fd ([u],[]) [(x,u)])
 (a3:∀H:Hp,AR K H a (S.map V.int)->H T=some (.tbl tq)->sp [.ref a] H (λv _=>v = .bl true) λ_ _ _=>False)
 (a4:∀H e i,CX [] H f (λ_ _ _=>False) e i->False) :
 codeAny (model P w) callerA (.call (.ref fa) ([.ref a],[])) (λr i=>r = .ok (.ret<|.bool true)/\OldK f.heap i.heap/\i.os=f.os/\AllBare i.gens) f:=by
 have rv:=S4 hi;have Q:=hi.length;have aT:a≠T:=λe=>by rw[e,I] at D; cases D
 have kT:K.lookup T=none:=by
  cases q:K.lookup T with
  | none=>rfl
  | some o =>
   have e:=KX _ _ q;rw[I] at e; cases e;have h2:=List.all_eq_true.mp a7 (T,_)<|PySem.W.mem_of_lookupK q;exact absurd (show false=true from h2) W1
 have B:∀H:Hp,H T=some (.tbl tq)->(∀b,b≠T->H b=none\/∃o xs,H b=some (.frz o<|.lst xs))->AR K H a (S.map V.int)->Cm P w H f.heap->(∀b,H b≠none->b=a\/b=T)->(H a≠none->K.lookup a=none) →
  codeAny (model P w) callerA (.call (.ref fa) ([.ref a],[])) (λr i=>r = .ok (.ret<|.bool true)/\OldK f.heap i.heap/\i.os=f.os/\AllBare i.gens) f:=by
  intro H a0 hO hS R hA hK;have U:∀ {b:Addr} {o:Obj},f.heap.get? b=some o->(∀xs n,o.data ≠ .seq xs n)->o.cls ≠ .none->H b=none:=fun {b o} e d n=>by
   cases q:H b with
   | none=>rfl
   | some u =>
    rcases hA b (by rw[q]; simp) with e' | e'
    ·subst e'; rw[D] at e; cases e; exact absurd rfl<|d _ _
    ·subst e'; rw[I] at e; cases e; exact absurd rfl n
  have a5:∀ {b:Addr} {o:Obj} {es:Array DictEntry} {ep:Nat},f.heap.get? b=some o->o.data = .dict es ep->H b=none:=fun {b o es ep} e d=>by
   cases q:H b with
   | none=>rfl
   | some u =>
    rcases hA b (by rw[q]; simp) with e' | e'
    ·subst e'; rw[D] at e; cases e; cases d
    ·subst e'; rw[I] at e; cases e; cases d
  have p:∀ {b:Addr} {m:Str->Option Value},f.heap.Ns b m->(Fu f.heap H).Ns b m:=fun {b m} (o,es,ep,e,d,r)=>(o,es,ep,J1 e<|a5 e d,d,r)
  have X:K.In (Fu f.heap H):=λb o e=>J1 (KX b o e) (by
   cases q:H b with
   | none=>rfl
   | some u =>
    rcases hA b (by rw[q]; simp) with e' | e'
    ·subst e'; rw[hK (by rw[q]; simp)] at e; cases e
    ·subst e'; rw[kT] at e; cases e)
  have hM:Mod K mg (Fu f.heap H):=(X,p L,(mb,p g,a1),let ⟨mc,h1,h2⟩:=O; (mc,p h1,h2));have hB:Bm mg (Fu f.heap H):=let ⟨bm,ob,b1,b2,b3,b4,b5,b6⟩:=a6; (bm,ob,b1,b2,J1 b3<|U b3 (λ_ _ z=>by rw[b6] at z; cases z) (by rw[b4]; nofun),b4,b5,b6);have hC:PySem.W.CodeHd (Fu f.heap H) c T:=by
   obtain ⟨o,us,M,tf,G,tg,a2,N,tt,Z,r1,r2,r⟩:=C;exact (o,us,M,tf,G,tg,a2,N,tt,J1 Z<|U Z (λ_ _ z=>by rw[r2] at z; cases z) (by rw[r1]; nofun),r1,r2,r)
  have e0:D7 P w K mg (Fu f.heap H) callerA [] f H:=(rfl,hM,λb o e=>YW e,Wt<|ZB _ _,trivial,λb g=>absurd (show b∈([]:Ay) from g) (by simp),R,.of_eq hg);refine codeAny_mono ((F _ X (p L) hB hC).run callerA [] f H ([.ref a],[]) [.ref a] [.ref a] _ _ hr e0 (E f<|.ref a) (.cons rfl .nil)<|a3 H hS a0) λr i h=>?_
  cases r with
  | error e=>exact (a4 H e i h).elim
  | ok fl =>
   cases fl with
   | next=>exact False.elim h
   | brk=>exact False.elim h
   | cont=>exact False.elim h
   | ret u =>
    obtain ⟨v,H',os,Y,un,A,r',q⟩:=h;have q':v = .bl true:=q;subst q';obtain rfl:u=Value.bool true:=r';have kp:∀b o,b≠T->f.heap.get? b=some o->i.heap.get? b=some o:=λb o n e=>by
     rcases hO b n with z | ⟨ob,xs,z⟩
     ·exact un.keep b o e z (by intro y; exact absurd (show b∈([]:Ay) from y) (by simp)) (by simp)
     ·have z2:=un.frzs b ob _ z
      obtain ⟨Z,_⟩:=R b _ z;obtain ⟨e2,_⟩:=A b _ z2;rw[e] at Z; cases Z;exact e2
    obtain ⟨a8,gT⟩:=un.tbls _ _ a0;have J:∃ps,i.heap.get? T=some (PySem.W.tabObj ps):=by
     rcases A T _ gT with e | ⟨l,c0,q,t,c',oc,vs,t',_,e,_⟩
     ·exact (_,e)
     ·exact (_,e)
    refine (rfl,(λb o e=>?_,λb o e=>?_),os,Y)
    ·by_cases n:b=T
     ·subst n
      rw[I] at e; cases e;obtain ⟨ps,J⟩:=J;exact .inr<|.inl ((C.tab I).isCodeTable,rfl,#[],ps,rfl,by rw[Array.empty_append]; exact J)
     ·exact .inl (kp b o n e)
    ·by_cases n:b=T
     ·subst n; exact let ⟨ps,J⟩:=J; (_,J)
     ·exact (o,kp b o n e)
 have W:∀H:Hp,AG P w H f.heap T (.tbl tq):=λH => .inl I
 cases hk:K.lookup a with
 | some o =>
  have e:=KX a o hk;rw[D] at e
  cases e
  refine B (λb=>if b=T then some (.tbl tq) else none) (qK rfl) (λb n => .inl<|qI n) (.inr (_,vs.toArray,_,hk,rfl,rfl,rfl,by rw[Qh,Q]; exact hl,by simpa using rv)) (λb u z=>?_) (λb z=>?_) λz=>absurd (qI aT) z
  ·by_cases n:b=T
   ·have j:=(qK n).symm.trans z
    cases j; subst n; exact W _
   ·have j:=(qI n).symm.trans z
    cases j
  ·by_cases n:b=T
   ·exact .inr n
   ·exact absurd (qI n) z
 | none =>
  refine B (λb=>if b=T then some (.tbl tq) else if b=a then some (.frz { cls:=.type "list", data:=.seq vs.toArray }<|.lst<|S.map V.int) else none) (qK rfl) (λb n=>?_) (.inl<|.inr ({ cls:=.type "list", data:=.seq vs.toArray },(qI aT).trans<|qK rfl)) (λb u z=>?_) (λb z=>?_) λ_=>hk
  ·by_cases g:b=a
   ·exact .inr (_,_,(qI n).trans<|qK g)
   ·exact .inl ((qI n).trans<|qI g)
  ·by_cases n:b=T
   ·have j:=(qK n).symm.trans z
    cases j; subst n; exact W _
   ·by_cases g:b=a
    ·have j:=((qI n).trans<|qK g).symm.trans z
     cases j
     subst g;exact (D,by rw[Q1]; exact hl,vs,_,rv,D)
    ·have j:=((qI n).trans<|qI g).symm.trans z
     cases j
  ·by_cases n:b=T
   ·exact .inr n
   ·by_cases g:b=a
    ·exact .inl g
    ·exact absurd ((qI n).trans<|qI g) z
theorem walk_ofT{l:PySem.W.OpenLaw}{n k:Nat}{A:World->Heap->Prop}{d:DefRec}{K:Params->Ac}{CX:World->Gs}{sp:World->Sp}{x:Str}{c T:Addr}{tq:Array Value}
 (O:l.most=some n) (J:n<=sizeLine) (L:d.params.defaults=[]) (Q:Av k callerA)
 (U:∀(w:World) (h:Heap),A w h->(K w.params).In h) (I:∀(w:World) (h:Heap),A w h->h.get? T=some (PySem.W.tabObj #[])) (R:∀w:World,PySem.W.codeHdIn (K w.params) c T=true) (C:∀w:World,PySem.W.noTabs (K w.params)=true)
 (F:∀(w:World) (mg:Ai) (t:Addr) (h:Heap),(K w.params).In h->h.Ns mainGlobals mg->mg d.name=some (.ref t) →
  ∃E:FuncData,(∀(s:Shared) (u:Value),BindsTo s E ([u],[]) [(x,u)]) ∧
   ∀base:Heap,(K w.params).In base->base.Ns mainGlobals mg->Bm mg base->PySem.W.CodeHd base c T->AS l.prog w (K w.params) mg base (CX w) k t E [x] (sp w))
 (B:∀(w:World) (H:Hp) (a:Addr) (o:List Int),o.length<=n->(∀i∈o,Ak 1048576 i)->AR (K w.params) H a (o.map V.int)->H T=some (.tbl tq)->sp w [.ref a] H (λv _=>v = .bl true) λ_ _ _=>False)
 (D:∀(w:World) (H:Hp) (s:Shared) (e:Value) (z:Shared),CX w [] H s (λ_ _ _=>False) e z->False) :
 PySem.W.WalkO q m W A l.row.toRowW d [] (λf vs=>PySem.call f vs):=by
 refine kP O L λw M r mg Z t a vs o G Y y p g b j N=>?_;have KX:=U w _ Y;obtain ⟨E,X,S⟩:=F w mg t _ KX G.T.g y;exact nB KX G.T.g G.T.b G.T.builtins G.T.nolimit N p g (Q0 b J) Q (PySem.W.codeHd_of_K KX<|R w) (I w _ Y) (C w) G.T.bmain S X (λH P I=>B w H a o b j P I) λH e z=>D w H r e z
end Lake.Zp
namespace Lake.My
open PySem L2 PyProof.Rows
section
variable{P:Program}{w:World}{K:Ac}{mg:Ai}{base:Heap}{CF CR:Addr}
theorem X4(d:Kd K mg CF CR)(i:AC P w K mg base CF "is_nought" 2 ["self","one"] [] (OU K CF)) (g:AC P w K mg base CR "is_nought" 2 ["self","one"] [] NM):Zp.NoughtZ P w K mg base CF CR:=by
 intro j H s f
 cases j with
 |q =>
  obtain ⟨c,h⟩:=f;refine (CF,c,[],_,_,_,h,d.clF,i,rfl,rfl,λm u x Q b k=>?_);obtain ⟨a,rfl,b⟩:=b;refine (s,a,_,_,rfl,AI.of b,k _ ?_);rw[qT];exact Rat.num_eq_zero
 |r p l =>
  obtain ⟨c,h⟩:=f;refine (CR,c,En p,_,_,_,h,d.clR,g,FQ _ ∅,rfl,λm u x Q b k=>?_);have b:=b;subst b;refine (s,_,rfl,k _ ?_);rw[qT]
  letI:=l.nz
  have z:(0:Fin p).val=0:=by simp
  constructor
  ·intro e;exact Fin.ext (by rw[z];omega)
  ·intro e;have e:=e;rw[e,z];rfl
theorem ZN:Aa ["self","under"] ["self","under"] (Ao Oy):=‹2›
theorem o3(h:C9 K CR "Polys.__init__" Oy) (b:Pc K mg CR):B5 P w K mg base CR 1 ["self","under"] (HC CR):=by
 refine h.hasI (λ_ _ F=>F.b2 λ_ _ _ _ _ _ _ _=>rfl) λf i F=>F.ok ZN (λg H Q E h=>?_)<|λd A a s H g Q E l h=>?_
 ·obtain ⟨_,_,_,rfl,_⟩:=h
  rfl
 obtain ⟨x,c,j,rfl,e,k⟩:=h;refine (_,(Az<|R0 (pv 0) (pv 1) rfl),?_);exact (_,rfl,_,rfl,x,CR,c,_,rfl,e,b.cl,b.nU,∅,k)
theorem PX{j k:Nat}(h:B5 P w K mg base C j ps sp)(e:j<=k):B5 P w K mg base C k ps sp:=let ⟨f,fd,a,b,c⟩:=h.ex;(f,fd,a,b.mono e,c)
end
end Lake.My
local macro_rules | `(universe $_) => do
  let b := `PySem.Challenge.cw_turnframe_k86_roots_holds
  let r := ((Array.range 725).map fun i => Lean.Name.str b s!"o_{i+43}") ++ (#["view_39","tree_604","tree_441","sts_49","sts_266","tree_85","heap_39","tree_265","heap_768","sts_136","sts_86","env_41","tree_342","tree_517","tree_47","sts_343","sts_696","tree_695","sts_605","tree_767","sts_180","sts_369","tree_179","tree_368","tree_70","sts_442","sts_518","sts_71","tree_135","heap_46"]).map (Lean.Name.str b)
  let c ← (r.push `PySem.Challenge.pw_turnframe_k86_roots).mapM fun n => let i := Lean.mkIdent (.str `PySem.W.Fast s!"tw{n.hash}"); `(theorem $i : True := trivial)
  return Lean.mkNullNode c
universe u
namespace Lake.My
open PySem L2 PyProof.Rows
structure On (K:Ac) (mg:Ai) (CF CR CP tC tT cN:Addr):Prop where
 T:Nm mg
 kd:Kd K mg CF CR
 pc:Pc K mg CP
 ik:Zp.Isk K CF CR
 xn:CD K mg "NoNumber" cN
 nz:mg "zip"=none
 nsu:mg "sum"=none
 nmx:mg "max"=none
 nmn:mg "min"=none
 nrv:mg "reversed"=none
 nso:mg "sorted"=none
 d1:Ae K mg "divisor" Pb
 d2:Ae K mg "is_whole" Me
 d3:Ae K mg "is_prime" N6
 d4:Ae K mg "shares" KB
 d5:Ae K mg "less_times" Ng
 c1:Ae K mg "scaled_row" Ov
 c2:Ae K mg "plain_row" NE
 c8:Ae K mg "product_number" OO
 c31:Ae K mg "trimmed" Nj
 c32:Ae K mg "divided" Pu
 c34:Ae K mg "raised" Ny
 c35:Ae K mg "following_row" QC
 c36:Ae K mg "common_row" Ky
 c37:Ae K mg "bottom_factor" LV
 c38:Ae K mg "common_part" NT
 c39:Ae K mg "value_at" O6
 c40:Ae K mg "slopes" Nw
 c41:Ae K mg "is_simple" OW
 c42:Ae K mg "tried_roots" MS
 c43:Ae K mg "plain_tops" OD
 c44:Ae K mg "rests_of" Po
 c45:Ae K mg "fits" P6
 c46:Ae K mg "fitting_prime" OT
 c47:Ae K mg "rest_at" O4
 c48:Ae K mg "lifted" MQ
 c49:Ae K mg "only_candidate" MC
 c50:Ae K mg "fraction_roots" HY
 c51:Ae K mg "taken_out" Om
 c52:Ae K mg "roots_and_left" M7
 c53:Ae K mg "roots" KZ
 l1:Ae K mg "_law_whole" NS
 l2:Ae K mg "_law_divisor" L7
 l3:Ae K mg "_law_is_prime" MN
 l4:Ae K mg "_law_prime" Mi
 l5:Ae K mg "_law_kind" Mv
 l6:Ae K mg "_law_fraction" Ml
 l7:Ae K mg "_law_prime_by" LS
 l8:Ae K mg "_law_make" LU
 l9:Ae K mg "_law_is_number" Mb
 l10:Ae K mg "_law_drawn" NB
 l11:Ae K mg "_law_plus" NV
 l12:Ae K mg "_law_times" Nh
 l13:Ae K mg "_law_minus" MB
 l14:Ae K mg "_law_mixed" L8
 l15:Ae K mg "_law_cut" Nb
 l16:Ae K mg "_law_poly_times" QJ
 l17:Ae K mg "_law_value" LY
 l18:Ae K mg "_law_less" Nu
 l19:Ae K mg "_law_rooted" O5
 l20:Ae K mg "_law_cell_at" OQ
 l21:Ae K mg "_law_root" ON
 l22:Ae K mg "_law_rootless" Mq
 l23:Ae K mg "_law_made" NF
 l24:Ae K mg "_law_rising" M6
 l25:Ae K mg "_law_spoil" LG
 l26:Ae K mg "_law_right" OI
 m1:Am K CF "plus" "Fractions.plus" NZ
 m2:Am K CF "minus" "Fractions.minus" PD
 m3:Am K CF "back" "Fractions.back" O8
 m4:Am K CF "times" "Fractions.times" NL
 m5:Am K CF "is_nought" "Fractions.is_nought" QD
 m6:Am K CF "common_bottom" "Fractions.common_bottom" NY
 m7:Am K CF "sum_of_products" "Fractions.sum_of_products" Nd
 m8:Am K CF "over" "Kind.over" Ks
 m9:Am K CF "common_top" "Fractions.common_top" P5
 r1:Am K CR "plus" "Rests.plus" P3
 r2:Am K CR "minus" "Rests.minus" M4
 r3:Am K CR "back" "Rests.back" PU
 r4:Am K CR "times" "Rests.times" N4
 r5:Am K CR "is_nought" "Rests.is_nought" Oc
 r6:Am K CR "common_bottom" "Kind.common_bottom" NA
 r7:Am K CR "sum_of_products" "Rests.sum_of_products" Nr
 r8:Am K CR "over" "Kind.over" Ks
 p1:Am K CP "times" "Polys.times" OF
 p2:Am K CP "plus" "Polys.plus" Nv
 p3:Am K CP "minus" "Polys.minus" Mh
 n1:∃tk,BC K CF "number" "Fractions.number" Hm #[.int 1 tk]
 n2:∃tk,BC K CR "number" "Rests.number" JA #[.int 1 tk]
 i1:C9 K CR "Rests.__init__" Of
 i2:C9 K CP "Polys.__init__" Oy
 tb:Zp.CdK K mg "fraction_roots" tC
 lw:Ae K mg "law" Oa
theorem all_mk{l:PySem.W.OpenLaw}{K:Ac}{mg:Ai}{fa g CR h tC i cN:Addr}(c4:mg "law" = some (.ref fa)) (D:On K mg g CR h tC i cN) :
 ∃J:FuncData,(∀(s:Shared) (v:Value),BindsTo s J ([v],[]) [("_law_script", v)])/\∀base:Heap,K.In base->base.Ns mainGlobals mg->Zp.Bm mg base->PySem.W.CodeHd base tC i->AS l.prog w K mg base DW 19 fa J ["_law_script"] (sp_law i K):=by
 obtain ⟨f,J,F,m⟩:=D.lw.ex;have e:=c4.symm.trans m
 cases e
 refine (J,?_,λbase hK hG hB hC=>?_)
 ·obtain ⟨oc,od,kV,d6,pm,an,d7,ct,d9,rfl,lk,d4⟩:=F.ex
  exact λs v => .of_eq rfl
 ·have T:=D.T
  have d:=D.kd;obtain ⟨d8,n1⟩:=D.n1;obtain ⟨d5,n2⟩:=D.n2;have o:AF l.prog w K mg base "divisor" 1 _ _:=k6 D.d1 T;have g2:AF l.prog w K mg base "is_whole" 1 _ _:=kW D.d2 T;have g3:AF l.prog w K mg base "is_prime" 1 _ _:=iP D.d3 T;have g5:AF l.prog w K mg base "less_times" 1 _ _:=pR D.d5;have g4:=hW D.d4 g5;have g6:=hX D.d4 g5;have Y:=aL D.i1 d.clR d.nP g2 g3;have a1:=aA D.m1 o;have a2:=Xt D.m2 d.clF a1;have a3:Au l.prog w K mg base g "back" 1 _ _ _:=fO D.m3 D.xn;have a4:=Xz D.m4 o;have a5:AC l.prog w K mg base g "is_nought" 1 _ _ _:=kH D.m5;have a6:=ZH D.m6 o;have a7:=iN n1 D.xn o;have aN:=eJ n1 D.xn o;have a8:=YU n1 D.xn o;have a9:=iI D.m7 d.clF D.nz a6 a8;have b1:AC l.prog w K mg base CR "plus" 1 _ _ _:=bR D.r1 d.clR d.nP;have b2:AC l.prog w K mg base CR "minus" 1 _ _ _:=f7 D.r2 d.clR d.nP;have b7:=YA n2 d.clR d.nP D.xn g4;have b8:=Xn n2 d.clR d.nP D.xn g4;have b3:=XG D.r3 d.clR b8;have b4:AC l.prog w K mg base CR "times" 1 _ _ _:=mS D.r4 d.clR d.nP;have b5:AC l.prog w K mg base CR "is_nought" 1 _ _ _:=oB D.r5;have b6:AC l.prog w K mg base CR "common_bottom" 1 _ _ _:=gZ D.r6;have b9:AC l.prog w K mg base CR "sum_of_products" 3 _ _ _:=Zd D.r7 d.clR d.nP D.nz D.nsu;have mp:=Ys d a1<|b1.mono ∅;have mt:=iH d a4<|b4.mono ∅;have mz:=X4 d (a5.mono ∅)<|b5.mono ∅;have mm:=lE d a2<|b2.mono ∅;have mn:=jN d (a7.mono ∅) b7;have mb:=k8 d (a3.mono ∅) b3;have md:=kN d a9 b9;have pi:B5 l.prog w K mg base h 1 _ _:=o3 D.i2 D.pc;have zz:∀Z:Zp.Zc,Z.f=g->Z.r=CR->Z.p=h->Zp.Mt l.prog w K mg base Z Zp.zKd "is_nought" 2 Zp.Snz/\Zp.Mt l.prog w K mg base Z Zp.zKd "common_bottom" 2 Zp.Sbot/\Zp.Fn l.prog w K mg base Z "plain_tops" 5 Zp.S_tops/\Zp.Fn l.prog w K mg base Z "divided" 5 Zp.S_divided/\Zp.Fn l.prog w K mg base Z "common_part" 10 Zp.S_cp/\Zp.Fn l.prog w K mg base Z "slopes" 4 Zp.S_slopes/\Zp.Fn l.prog w K mg base Z "tried_roots" 5 Zp.S_tri/\Zp.Fn l.prog w K mg base Z "rests_of" 5 Zp.S_res/\Zp.Fn l.prog w K mg base Z "only_candidate" 5 Zp.S_cand/\Zp.Fn l.prog w K mg base Z "value_at" 4 Zp.S_val/\Zp.Fn l.prog w K mg base Z "taken_out" 6 Zp.S_tak/\Zp.Fn l.prog w K mg base Z "is_simple" 11 Zp.S_sim:=by
   rintro Z rfl rfl rfl;have k:=Zp.mt_2 (Z:=Z) mt;have p2:=Zp.mt_2 (Z:=Z) mp;have i3:=Zp.mt_m (Z:=Z) mm;have r:=Zp.mt_nz (Z:=Z) mz;have A:=Zp.mt_back (Z:=Z) mb;have n:=Zp.mt_num (Z:=Z) mn;have v3:=Zp.mt_num2 (Z:=Z) d (aN.mono ∅) b8;have d3:=Zp.mt_dot (Z:=Z) md;have y:=Zp.mt_bot (Z:=Z) d a6<|b6.mono ∅;have tr:=Zp.z_trimmed<|Zp.z_trimmedF D.c31 T r;have sr:=Zp.z_scaled_row D.c1 k;have G:=Zp.z_divided D.c32 T D.nrv A (k.mono ∅) (i3.mono ∅)<|tr.mono ∅;have pn:=Zp.z_product_number D.c8 T D.nmx D.nmn d3;have Pt:=Zp.z_Pt<|Zp.z_PtF D.p1 T D.pc ((Zp.z_trimmedF D.c31 T r).mono ∅) pn;have Pp:=Zp.z_Pp D.p2 T D.nz D.pc (p2.mono ∅)<|tr.mono ∅;have Pm:=Zp.z_Pm D.p3 D.pc (i3.mono ∅) (n.mono ∅) Pp;have ra:=Zp.z_raised D.c34 T n<|k.mono ∅;have bf:=Zp.z_botf D.c37 n<|y.mono ∅;have fo:=Zp.z_fol D.c35 T D.nz D.pc (PX pi ∅) (k.mono ∅) (A.mono ∅) (Pt.mono ∅) Pm (ra.mono ∅)<|G.mono ∅;have ov:=Zp.mt_kk d (Zp.z_over D.m8 (k.mono ∅) A) (Zp.z_over D.r8 (k.mono ∅) A) λ_ _ _ f ⟨a,b,c,q⟩=>(a,b,c,f _ q);have c9:=Zp.z_crow D.c36 T D.pc (PX pi ∅) (n.mono ∅) (A.mono ∅) (ov.mono ∅) (Pt.mono ∅) (ra.mono ∅)<|fo.mono ∅;have H:=Zp.z_cp D.c38 D.pc (PX pi ∅) (Pt.mono ∅) (bf.mono ∅) c9;have I:=Zp.z_slopes D.c40 T (k.mono ∅) n tr;have M:=Zp.z_val D.c39 D.nrv n (k.mono ∅)<|p2.mono ∅;have si:=Zp.z_sim D.c41 T H<|I.mono ∅;have N:=Zp.z_tri D.c42 T d (r.mono ∅) M;have re:=Zp.z_res D.c44<|n.mono ∅;have ta:Zp.Fn l.prog w K mg base Z "rest_at" 1 _:=Zp.z_ra D.c47 D.nrv;have li:=Zp.z_lift D.c48 T (ta.mono ∅)<|Zp.z_shs g6;have ca:=Zp.z_cand D.c49 T D.nmx (v3.mono ∅)<|li.mono ∅;have to:=Zp.z_top D.m9 d<|Zp.z_dvr o;have pr:=Zp.z_prow D.c2 v3 (y.mono ∅) (to.mono ∅) sr;have tp:=Zp.z_tops D.c43 pr;have tk:=Zp.z_tak D.c51 T (i3.mono ∅) (n.mono ∅) G;exact (r,y,tp,G,H,I,N,re,ca,M,tk,si)
  obtain ⟨_,_,_,_,_,_,_,c3,_,_,_,O⟩:=zz (Zp.Zb g CR h) rfl rfl rfl;have P:Zp.Fn l.prog w K mg base (Zp.Zb g CR h) "is_prime" 1 _:=Zp.z_isp g3;have fp:=Zp.z_fp D.c46<|Zp.z_fits D.c45 (λ_=>Zp.gd_b) d Y (P.mono ∅) (c3.mono ∅) O;have t:∀s,Zp.Fn l.prog w K mg base (Zp.Zc.at (Zs g CR h i) s) "roots_and_left" 15 (Zp.S_ral Zp.S_fr):=λs=>by
   obtain ⟨r,y,tp,G,H,I,N,re,ca,M,tk,_⟩:=zz (Zp.Zc.at (Zs g CR h i) s) rfl rfl rfl;have fr:=Zp.z_fr D.c50 T D.nso d Y (r.mono ∅) (y.mono ∅) (tp.mono ∅) (G.mono ∅) (H.mono ∅) (I.mono ∅) (Zp.fp_any fp) (N.mono ∅) (re.mono ∅) (ca.mono ∅) (M.mono ∅) hB hC (rfl,rfl) D.tb;exact Zp.z_ral ∅ D.c52 T d D.ik fr (N.mono ∅)<|tk.mono ∅
  have ro:=Zp.z_roots1 (Z:=Zs g CR h i) D.c53 t;have W:=Zp.z_rts<|Zp.z_roots (Z:=Zs g CR h i) D.c53<|t λ_=>False;have w1:AF l.prog w K mg base "_law_whole" 1 _ _:=Z2 D.l1 T;have w2:AF l.prog w K mg base "_law_divisor" 1 _ _:=cQ D.l2 T;have w3:AF l.prog w K mg base "_law_is_prime" 1 _ _:=lO D.l3;have w4:=pK D.l4 w3;have w5:=Zi D.l5 d Y;have L:=aU D.l6 w2;have w7:=dZ D.l7 w4;have R:AF l.prog w K mg base "_law_make" 1 _ _:=Yd D.l8;have w9:=fR D.l9 T w1 w2;have a0:=bX D.l10 L;have B:=YL D.l11 L;have x:=YT D.l12 L;have d1:AF l.prog w K mg base "_law_mixed" 1 _ _:=Zr D.l14;have b0:=gG D.l15 T R;have c6:=oX D.l16 T (R.mono ∅) B x<|b0.mono ∅;have u:AF l.prog w K mg base "_law_cell_at" 1 _ _:=kR D.l20 T;have f0:AF l.prog w K mg base "_law_spoil" 0 _ _:=Yr D.l25;have f3:=JY D.l25 T<|JY D.l25 T<|JY D.l25 T<|JY D.l25 T f0;have E:=Zp.z_lmake (Z:=Zs g CR h i) R;have p:=Zp.z_lop (Z:=Zs g CR h i) B;have j:=Zp.z_lop (Z:=Zs g CR h i) x;have c5:=Zp.z_lmin D.l13 (E.mono ∅) p j;have Q:=Zp.z_lfr (Z:=Zs g CR h i) L;have z:=Zp.z_ldr (Z:=Zs g CR h i) a0;have c0:=Zp.z_lmix (Z:=Zs g CR h i) d1;have C:=Zp.z_lptl (Z:=Zs g CR h i) c6;have U:=Zp.z_lval D.l17 T (E.mono ∅) p j;have d0:=Zp.z_lless D.l18 T (E.mono ∅) p j;have d2:=Zp.z_lrd D.l19 T (E.mono ∅) U d0;have S:=Zp.z_lca (Z:=Zs g CR h i) u;have c7:=Zp.z_lroot D.l21 (Q.mono ∅) z;have c1:=Zp.z_lrl D.l22 (Q.mono ∅) (C.mono ∅) c5;have X:=Zp.z_lmd D.l23 T (S.mono ∅) (E.mono ∅) (c7.mono ∅) (C.mono ∅) (j.mono ∅) (z.mono ∅) (c0.mono ∅) c1<|Q.mono ∅;have c2:Zp.Fn l.prog w K mg base (Zs g CR h i) "_law_rising" 2 _:=Zp.z_lris D.l24 T;have x9:=Zp.z_lisn (Z:=Zs g CR h i) w9;have x1:=Zp.z_lwh (Z:=Zs g CR h i) w1;have c8:=Zp.z_lrt D.l26 T (ro.mono ∅) (f3.mono ∅) (W.mono ∅) (c2.mono ∅) (d2.mono ∅) (x9.mono ∅)<|x1.mono ∅;exact dF F T (w7.mono ∅) (w5.mono ∅) (u.mono ∅) (X.mono ∅) c8
theorem walk{l:PySem.W.OpenLaw}{i:World->Heap->Prop}{d:DefRec}{K:Params->Ac}{tC c:Addr}(v:l.most=some 63)(j:d.params.defaults=[])
 (t:∀(w:World) (h:Heap),i w h->(K w.params).In h) (g:∀(w:World) (h:Heap),i w h->h.get? c=some (PySem.W.tabObj #[])) (r:∀w:World,PySem.W.codeHdIn (K w.params) tC c=true) (e:∀w:World,PySem.W.noTabs (K w.params)=true)
 (F:∀(w:World) (mg:Ai) (o:Addr) (h:Heap),(K w.params).In h->h.Ns mainGlobals mg->mg d.name=some (.ref o) →
  ∃m:FuncData,(∀(s:Shared) (u:Value),BindsTo s m ([u],[]) [("_law_script", u)])/\∀base:Heap,(K w.params).In base->base.Ns mainGlobals mg->Zp.Bm mg base->PySem.W.CodeHd base tC c->AS l.prog w (K w.params) mg base DW 19 o m ["_law_script"] (sp_law c<|K w.params)) :
 PySem.W.WalkO q b y i l.row.toRowW d [] (λf vs=>PySem.call f vs) :=
 Zp.walk_ofT (n:=63) (k:=19) (x := "_law_script") (tq:=Zp.laT) (CX:=λ_=>DW) (sp:=λw=>sp_law c<|K w.params) v ∅ j (rfl,∅,∅) t g r e F (λ_ _ a p B _ A g=>(a,p,rfl,A,B,g,λ_=>rfl)) λ_ _ _ _ _ z=>z
theorem kd_mk{K:Ac}{h:Heap}{a CR:Addr}(X:K.In h)(G:h.Ns mainGlobals mg)(j:PySem.W.nsIn K mainGlobals "Fractions" = some (some<|.ref a)) (i:PySem.W.nsIn K mainGlobals "Rests" = some (some<|.ref CR))
 (p1:PySem.W.plainGet K a Str.empty=true) (p2:PySem.W.hasDictIn K a=true) (p3:PySem.W.plainOver K a=true) (e:PySem.W.findIn K (.ref a) "__setattr__" = some (some<|.builtin "object.__setattr__"))
 (d:PySem.W.plainGet K CR Str.empty=true) (c:PySem.W.hasDictIn K CR=true) (f:PySem.W.plainOver K CR=true) (b:PySem.W.findIn K (.ref CR) "__setattr__" = some (some<|.builtin "object.__setattr__"))
 (k:PySem.W.findIn K (.ref CR) "prime" = some none) (g:PySem.W.makesIn K a=true) (m:PySem.W.findIn K (.ref a) "__init__" = some (some<|.builtin "object.__init__")) (l:PySem.W.keepIn K (.ref a)=true):Kd K mg a CR :=
 ((p1,p2,p3,e),(d,c,f,b),k,(g,m,l),sK X G j,sK X G i)
theorem pc_mk{K:Ac}{h:Heap}{b:Addr}(X:K.In h)(G:h.Ns mainGlobals mg)(a:PySem.W.nsIn K mainGlobals "Polys" = some (some<|.ref b))
 (e:PySem.W.plainGet K b Str.empty=true) (d:PySem.W.hasDictIn K b=true) (g:PySem.W.plainOver K b=true) (c:PySem.W.findIn K (.ref b) "__setattr__" = some (some<|.builtin "object.__setattr__"))
 (f:PySem.W.findIn K (.ref b) "under" = some none):Pc K mg b:=((e,d,g,c),f,sK X G a)
theorem tb_mk{K:Ac}{h:Heap}{c f:Addr}{j:Value}{g:Option Addr}{d:FuncData}{i:Array (Option Value)}(X:K.In h)(G:h.Ns mainGlobals mg)(a:PySem.W.nsIn K mainGlobals x=some (some<|.ref f))(b:K.lookup f=some (j,g,.func d,i))(e:d.code = .ref c):Zp.CdK K mg x c:=(f,j,g,d,i,sK X G a,b,e)
theorem cn_mk{K:Ac}{h:Heap}{C:Addr}(X:K.In h)(G:h.Ns mainGlobals mg)(a:PySem.W.nsIn K mainGlobals x=some (some<|.ref C))(b:PySem.W.isClsIn K C=true)(c:PySem.W.typeIn K (.ref C)=some (.type "type")):CN K mg x C:=(sK X G a,b,c)
theorem xcls_mk{K:Ac}{C:Addr}(h:PySem.W.findIn K (.ref C) "__getattribute__" = some (some<|.builtin "BaseException.__getattribute__")) (c:PySem.W.findIn K (.ref C) "__getattr__" = some none) (d:PySem.W.findIn K (.ref C) "__class__" = some (some<|.builtin "object.__class__"))
 (a:PySem.W.specialIn K (.builtin "object.__class__") "__get__" = some (some<|.builtin "getset_descriptor.__get__")) (b:PySem.W.takesIn K (.builtin "object.__class__")=some true) (e:PySem.W.mroIn K C (.type "object")=some true) (g:PySem.W.mroIn K C (.type "BaseException")=some true) (f:PySem.W.hasDictIn K C=true):EJ K C:=(h,c,d,a,b,e,g,f)
end Lake.My
open PySem PySem.W PyProof.Rows
local macro_rules | `(tactic| walk_at "xcls") => `(tactic| exact My.xcls_mk (by k_is) (by k_is) (by k_is) (by k_is) (by k_is) (by k_is) (by k_is) (by k_is))
local macro_rules | `(tactic| walk_at "apart") => `(tactic| repeat (first | exact True.intro | (refine' My.apart_cons (by k_is) ∅ ?_)))
set_option maxRecDepth 100000 in
set_option maxHeartbeats 0 in
theorem PySem.Challenge.cw_turnframe_k86_roots_holds : PySem.Challenge.rw_turnframe_k86_roots.Holds := by
 w_on; o_law; k_head; (case hw=>w_witness2)
 k_fill
 refine' My.walk (l:=PySem.Challenge.rw_turnframe_k86_roots) rfl rfl (λw h Y=>PySem.W.km_in_of Y) (λw h Y=>PySem.W.km_tabs_of Y _ (.head _)) ?tc ?no ?F
 case F =>
  intro w mg fa h KX G hmg;have kd:=by
   refine' My.kd_mk KX G ?e1 ?e2 ?e3 ?e4 ?e5 ?e6 ?e7 ?e8 ?e9 ?e10 ?e11 ?e12 ?e13 ?e14
   (case e1=>k_is); (case e2=>k_is); (case e3=>k_is); (case e4=>k_is); (case e5=>k_is); (case e6=>k_is); (case e7=>k_is)
   (case e8=>k_is); (case e9=>k_is); (case e10=>k_is); (case e11=>k_is); (case e12=>k_is); (case e13=>k_is); (case e14=>k_is)
  have pc:=by
   refine' My.pc_mk KX G ?e1 ?e2 ?e3 ?e4 ?e5 ?e6
   (case e1=>k_is); (case e2=>k_is); (case e3=>k_is); (case e4=>k_is); (case e5=>k_is); (case e6=>k_is)
  have tb:=by
   refine' My.tb_mk (x := "fraction_roots") KX G ?e1 ?e2 ?e3
   (case e1=>k_is); (case e2=>k_is); (case e3=>rfl)
  have bF:=by
   refine' My.cn_mk (x := "Fractions") KX G ?a ?b ?c
   (case a=>k_is); (case b=>k_is); (case c=>k_is)
  have x_xn:=by
   refine' My.cn_mk (x := "NoNumber") KX G ?a ?b ?c
   (case a=>k_is); (case b=>k_is); (case c=>k_is)
  refine My.all_mk hmg ⟨?T,kd,pc,⟨?j1,?j2,?j3,?j4,?j5,?j6,L2.kit_self,L2.kit_ref bF.c bF.t ?j7 ?j8⟩,⟨?xnx,x_xn.m,?xni⟩,qX KX G ?nz,qX KX G ?nsu,qX KX G ?nmx,qX KX G ?nmn,qX KX G ?nrv,qX KX G ?nso,?d1,?d2,?d3,?d4,?d5,?c1,?c2,?c8,?c31,?c32,?c34,?c35,?c36,?c37,?c38,?c39,?c40,?c41,?c42,?c43,?c44,?c45,?c46,?c47,?c48,?c49,?c50,?c51,?c52,?c53,?l1,?l2,?l3,?l4,?l5,?l6,?l7,?l8,?l9,?l10,?l11,?l12,?l13,?l14,?l15,?l16,?l17,?l18,?l19,?l20,?l21,?l22,?l23,?l24,?l25,?l26,?m1,?m2,?m3,?m4,?m5,?m6,?m7,?m8,?m9,?r1,?r2,?r3,?r4,?r5,?r6,?r7,?r8,?p1,?p2,?p3,?n1,?n2,?i1,?i2,tb,?lw⟩
  case j1=>k_is
  case j2=>k_is
  case j3=>k_is
  case j4=>k_is
  case j5=>k_is
  case j6=>k_is
  case j7=>k_is
  case j8=>decide
  case xnx=>walk_at "xcls"
  case xni=>k_exc
  case nz=>k_is
  case nsu=>k_is
  case nmx=>k_is
  case nmn=>k_is
  case nrv=>k_is
  case nso=>k_is
  case T =>
   refine' My.nm_mk (sK KX G ?e1) ?e2 (qX KX G ?e3) (qX KX G ?e4) (qX KX G ?e5) (qX KX G ?e6) (qX KX G ?e7) (qX KX G ?e8) (qX KX G ?e9) (qX KX G ?e10)
   (case e1=>k_is); (case e2=>exact ⟨_,rfl⟩); (case e3=>k_is); (case e4=>k_is); (case e5=>k_is); (case e6=>k_is); (case e7=>k_is); (case e8=>k_is); (case e9=>k_is); (case e10=>k_is)
  case i1 =>
   refine' L2.hereI_mk ?e1 ?e2 ?e3 ?e4 ?e5 ?e6 ?e7
   (case e1=>k_is); (case e2=>k_is); (case e3=>k_is); (case e4=>k_is); (case e5=>k_is); (case e6=>k_is); (case e7=>k_is)
  case i2 =>
   refine' L2.hereI_mk ?e1 ?e2 ?e3 ?e4 ?e5 ?e6 ?e7
   (case e1=>k_is); (case e2=>k_is); (case e3=>k_is); (case e4=>k_is); (case e5=>k_is); (case e6=>k_is); (case e7=>k_is)
  case n1 =>
   refine' ⟨_,L2.hereD_mk ?x0a ?x0i ?x0l ?x0t ?x0c ?x0k⟩
   (case x0a=>k_is); (case x0i=>k_is); (case x0l=>k_is); (case x0t=>(apply Eq.trans; k_is; rfl)); (case x0c=>k_is); (case x0k=>k_is)
  case n2 =>
   refine' ⟨_,L2.hereD_mk ?x1a ?x1i ?x1l ?x1t ?x1c ?x1k⟩
   (case x1a=>k_is); (case x1i=>k_is); (case x1l=>k_is); (case x1t=>(apply Eq.trans; k_is; rfl)); (case x1c=>k_is); (case x1k=>k_is)
  all_goals first
   | (refine' L2.here_mk KX G ?y1 ?y2 ?y3 ?y4
      (case y1=>k_is); (case y2=>k_is); (case y3=>k_is); (case y4=>k_is))
   | (refine' L2.hereM_mk ?z1 ?z2 ?z3 ?z4 ?z5
      (case z1=>k_is); (case z2=>k_is); (case z3=>k_is); (case z4=>k_is); (case z5=>k_is))
 case tc=>intro w; kernel_rfl
 case no=>intro w; kernel_rfl
