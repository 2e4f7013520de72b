import PyProof.Rows.All
import Wide.All
import OpenK.AllK
import Wide.FinOn
import Lean
import PyProof.EqAt
import PyProof.EqKinds
import PyProof.TupleCall
import PySem.Challenge.RW_turnframe_k34_whole_three_ways
set_option Elab.async false
set_option linter.all false
set_option maxRecDepth 100000
abbrev Q0:=@List.length_map
abbrev Q1:=@Nat.le_refl
abbrev Q2:=@Nat.le_trans
abbrev Q3:=@List.mem_singleton
abbrev Q4:=@List.getD_eq_getElem?_getD
abbrev Q5:=@List.getElem?_eq_getElem
abbrev Q6:=@Nat.lt_of_lt_of_le
abbrev Q7:=@Int.toNat_natCast
abbrev Q8:=@List.mem_cons
abbrev Q9:=@List.mem_of_getElem?
abbrev Qa:=@Nat.ne_of_lt
abbrev Qb:=@List.size_toArray
abbrev Qc:=@List.length_append
abbrev Qd:=@Nat.zero_le
abbrev Qe:=@Nat.pow_le_pow_right
abbrev Qf:=@List.getElem?_eq_some_iff
abbrev Qg:=@List.mem_append_right
abbrev Qh:=@List.getElem?_map
abbrev Qi:=@Int.mul_assoc
abbrev Qj:=@Bool.false_ne_true
abbrev Qk:=@Nat.lt_of_le_of_lt
abbrev Ql:=@List.length_take
abbrev Qm:=@Int.mul_pos
abbrev Qn:=@Int.mul_comm
abbrev Qo:=@Rat.num_divInt_den
abbrev Qp:=@List.getElem_mem
abbrev Qq:=@Int.zero_add
abbrev Qr:=@List.map_append
abbrev Qs:=@Int.natAbs_mul
abbrev Qt:=@Nat.le_of_lt
abbrev Qu:=@List.mem_append
abbrev Qv:=@Nat.lt_irrefl
abbrev Qw:=@List.mem_cons_self
abbrev Qx:=@Int.fmod_eq_emod_of_nonneg
abbrev Qy:=@Int.gcd_dvd_right
abbrev Qz:=@List.not_mem_nil
abbrev W0:=@List.mem_map
abbrev W1:=@List.map_cons
abbrev W2:=@List.getElem?_append_left
abbrev W3:=@List.getElem?_append_right
abbrev W4:=@List.length_range
abbrev W5:=@Rat.divInt_eq_divInt_iff
abbrev W6:=@List.mem_or_eq_of_mem_set
abbrev W7:=@List.take_succ
abbrev W8:=@Nat.mul_assoc
abbrev W9:=@Nat.mul_le_mul
abbrev Wa:=@Int.natAbs_natCast
abbrev Wb:=@List.mem_of_mem_take
abbrev Wc:=@Nat.pow_succ
abbrev Wd:=@List.mem_cons_of_mem
abbrev We:=@List.length_set
abbrev Wf:=@Int.natCast_emod
abbrev Wg:=@List.length_cons
abbrev Wh:=@List.lookup_cons
abbrev Wi:=@Int.gcd_dvd_left
abbrev Wj:=@List.getElem?_range
abbrev Wl:=@Int.natCast_mul
abbrev Wm:=@Rat.divInt_mul_divInt
abbrev Wn:=@Nat.ne_of_gt
abbrev Wo:=@Int.mul_one
abbrev Wp:=@List.length_drop
abbrev Wq:=@Int.mul_neg
abbrev Wr:=@Nat.mul_le_mul_left
abbrev Ws:=@Nat.mul_le_mul_right
abbrev Wt:=@List.take_of_length_le
abbrev Wu:=@List.getElem?_set
abbrev Wv:=@Int.ne_of_gt
abbrev Ww:=@Nat.le_of_dvd
abbrev Wx:=@Int.natAbs_dvd_natAbs
abbrev Wy:=@List.getElem_of_mem
abbrev Wz:=@List.getElem?_take
abbrev U0:=@Nat.mul_comm
abbrev U1:=@Int.emod_eq_zero_of_dvd
abbrev U2:=@Int.emod_nonneg
abbrev U3:=@Nat.sub_self
abbrev U4:=@List.take_length
abbrev U5:=@List.mem_range
abbrev U6:=@Nat.lt_succ_self
abbrev U7:=@Nat.le_succ
abbrev U8:=@List.length_replicate
abbrev U9:=@Nat.lt_trans
abbrev Ua:=@Nat.pos_of_ne_zero
abbrev Ub:=@Int.mul_le_mul_of_nonneg_left
abbrev Uc:=@List.find?_cons
abbrev Ud:=@Int.one_mul
abbrev Ue:=@Int.emod_lt_of_pos
abbrev Uf:=@Int.emod_eq_of_lt
abbrev Ug:=@Rat.divInt_add_divInt
abbrev Uh:=@List.mem_append_left
abbrev Ui:=@Int.gcd_comm
abbrev Uj:=@Nat.lt_or_ge
abbrev Uk:=@Int.mul_nonneg
abbrev Ul:=@Nat.one_mul
abbrev Um:=@Nat.pow_add
abbrev Uo:=@Int.add_mul
abbrev Up:=@List.map_set
abbrev Uq:=@Int.le_of_dvd
abbrev Ur:=@List.getElem?_eq_none
abbrev Us:=@List.map_take
abbrev Ut:=@List.range_succ
abbrev Uu:=@List.filterMap_cons
abbrev Uv:=@Array.length_toList
abbrev Uw:=@List.mem_filterMap
abbrev Ux:=@Int.fdiv_eq_ediv_of_nonneg
abbrev Uy:=@Bool.eq_iff_iff
abbrev Uz:=@Nat.le_of_eq
namespace L2
open PySem PySem.Spec PyProof.Rows
abbrev Key:=Sum Int Str
def ZiD:Key->Value->Bool
  | .inl k,v=>Value.isInt k v
  | .inr x,v=>Value.isStrOf x v
def Zp3(w:World):Key->Int
  | .inl k=>hashInt k
  | .inr x=>hashStr w x
theorem ZaR:∀ {k:Key} {v:Value},ZiD k v=true->(∃i t,k=Sum.inl i/\v=Value.int i t)\/(∃x t,k=Sum.inr x/\v=Value.str x t)
  | .inl i,v,h=>by
    obtain ⟨t,e⟩:=Value.isInt_shape (k:=i) (v:=v) h
    exact .inl ⟨i,t,rfl,e⟩
  | .inr x,v,h=>by
    obtain ⟨t,e⟩:=Value.isStrOf_shape (x:=x) (v:=v) h
    exact .inr ⟨x,t,rfl,e⟩
theorem Zjj(i:Int)(t:Tok):ZiD (.inl i) (.int i t)=true:=by simp[ZiD,Value.isInt]
theorem Zjk(x:Str)(t:Tok):ZiD (.inr x) (.str x t)=true:=by simp[ZiD,Value.isStrOf]
theorem ZnZ(a b:Int):decide ((Sum.inl a:Key)=Sum.inl b)=(a==b):=by
  by_cases e:a=b
  · subst e; simp
  · have h:¬(Sum.inl a:Key)=Sum.inl b:=λq=>e (Sum.inl.inj q)
    rw[decide_eq_false h]
    exact (beq_eq_false_iff_ne.mpr e).symm
theorem Zn0(a b:Str):decide ((Sum.inr a:Key)=Sum.inr b)=decide (a=b):=by
  by_cases e:a=b
  · subst e; simp
  · have h:¬(Sum.inr a:Key)=Sum.inr b:=λq=>e (Sum.inr.inj q)
    rw[decide_eq_false h,decide_eq_false e]
theorem Zn1(a:Int)(b:Str):decide ((Sum.inl a:Key)=Sum.inr b)=false:=decide_eq_false (λq=>nomatch q)
theorem Zn2(a:Str)(b:Int):decide ((Sum.inr a:Key)=Sum.inl b)=false:=decide_eq_false (λq=>nomatch q)
def ZaE(prog:Program)(w:World):PySem.KeyKind prog w Key where
  is:=ZiD
  hash:=Zp3 w
  inj:=λv a b ha hb=>by
    rcases ZaR ha with ⟨i,t,rfl,rfl⟩ | ⟨x,t,rfl,rfl⟩
    · rcases ZaR hb with ⟨j,u,rfl,e⟩ | ⟨y,u,rfl,e⟩
      · injection e with e1 _; rw[e1]
      · exact nomatch e
    · rcases ZaR hb with ⟨j,u,rfl,e⟩ | ⟨y,u,rfl,e⟩
      · exact nomatch e
      · injection e with e1 _; rw[e1]
  byValue:=λk v h=>by
    rcases ZaR h with ⟨i,t,rfl,rfl⟩ | ⟨x,t,rfl,rfl⟩ <;> rfl
  pyHash:=λhv h=>by
    rcases ZaR hv with ⟨i,t,rfl,rfl⟩ | ⟨x,t,rfl,rfl⟩
    · exact wpAny_pyHash_int h
    · exact wpAny_pyHash_str h
  eqBool:=λhu hv h=>by
    rcases ZaR hu with ⟨i,t,rfl,rfl⟩ | ⟨x,t,rfl,rfl⟩
    · rcases ZaR hv with ⟨j,u,rfl,rfl⟩ | ⟨y,u,rfl,rfl⟩
      · rw[ZnZ] at h; exact wpAny_eqBool_int h
      · rw[Zn1] at h; exact SeqAt.EqAt.int_str i t y u _ _ _ _ h
    · rcases ZaR hv with ⟨j,u,rfl,rfl⟩ | ⟨y,u,rfl,rfl⟩
      · rw[Zn2] at h; exact SeqAt.EqAt.str_int x t j u _ _ _ _ h
      · rw[Zn0] at h; exact wpAny_eqBool_str h
  «strs»:=λk x t v h=>by
    rcases ZaR h with ⟨i,u,rfl,e⟩ | ⟨y,u,rfl,e⟩
    · exact nomatch e
    · injection e with e1 _
      subst e1
      cases v <;> rfl
theorem Zhc(prog:Program)(w:World)(i:Int)(t:Tok):(ZaE prog w).is (.inl i) (.int i t)=true:=Zjj i t
theorem Zhd(prog:Program)(w:World)(x:Str)(t:Tok):(ZaE prog w).is (.inr x) (.str x t)=true:=Zjk x t
end L2
namespace L2
open PySem PySem.Spec PyProof.Rows
inductive V where
  | non | bl (b:Bool) | int (i:Int) | str (x:Str) | byt (b:Array UInt8) | flt (b:UInt64) | ref (a:Addr) | ty (n:String)
  deriving DecidableEq
def RelV:V->Value->Prop
  | .non,u=>u=Value.none
  | .bl b,u=>u=Value.bool b
  | .int i,u=>∃t,u=Value.int i t
  | .str x,u=>∃t,u=Value.str x t
  | .byt b,u=>∃t,u=Value.bytes b t
  | .flt b,u=>∃t,u=Value.float b t
  | .ref a,u=>u=Value.ref a
  | .ty n,u=>u=Value.type n
abbrev Vals:List V->List Value->Prop:=Paired RelV
theorem Vals.length{xs:List V}{us:List Value}(r:Vals xs us):xs.length=us.length:=Paired.length r
theorem Vals.get:∀ {xs:List V} {us:List Value} {i:Nat} {x:V},Vals xs us->xs[i]?=some x->∃u,us[i]?=some u/\RelV x u
  | _,_,_,_,.nil,e=>by simp at e
  | _,_,0,_,.cons r _,e=>by simp at e; subst e; exact ⟨_,rfl,r⟩
  | _,_,i+1,x,.cons _ t,e=>by
    obtain ⟨u,h1,h2⟩:=Vals.get (i:=i) (x:=x) t (by simpa using e)
    exact ⟨u,by simpa using h1,h2⟩
theorem Vals.set{x:V}{u:Value}(r:RelV x u):∀ {xs:List V} {us:List Value} (i:Nat),Vals xs us->Vals (xs.set i x) (us.set i u)
  | _,_,_,.nil => .nil
  | _,_,0,.cons _ t => .cons r t
  | _,_,i+1,.cons q t => .cons q (Vals.set r i t)
theorem Vals.append:∀ {xs ys:List V} {us ws:List Value},Vals xs us->Vals ys ws->Vals (xs++ys) (us++ws)
  | _,_,_,_,.nil,s=>s
  | _,_,_,_,.cons r t,s => .cons r (Vals.append t s)
theorem Vals.take:∀ {xs:List V} {us:List Value} (n:Nat),Vals xs us->Vals (xs.take n) (us.take n)
  | _,_,0,_ => .nil
  | _,_,_+1,.nil => .nil
  | _,_,n+1,.cons r t => .cons r (Vals.take n t)
theorem Vals.drop:∀ {xs:List V} {us:List Value} (n:Nat),Vals xs us->Vals (xs.drop n) (us.drop n)
  | _,_,0,r=>r
  | _,_,_+1,.nil => .nil
  | _,_,n+1,.cons _ t=>Vals.drop n t
def RelO:Option V->Option Value->Prop
  | some v,some u=>RelV v u
  | none,none=>True
  | _,_=>False
def KV{κ:Type}:List (κ×V)->List (κ×Value)->Prop:=Paired λ(p:κ×V) (q:κ×Value)=>p.1=q.1/\RelV p.2 q.2
def kV:Key->V
  | .inl i => .int i
  | .inr x => .str x
inductive HO where
    | lst (xs:List V)
    | tup (xs:List V)
    | dK (kvs:List (Key×V)) | dT (kvs:List (List Key×V))
    | set (S:Int->Bool) (n:Nat)
    | ins (C dx:Addr) (fs:List (Str×V))
    | own (x:Addr)
    | xd (fs:List (Str×V))
    | met (f x:Addr)
    | rng (lo hi:Int)
    | frz (o:Obj) (u:HO)
    | tbl (ps:Array Value)
    | ext (φ:Heap->Prop)
abbrev Hp:=Addr->Option HO
def upd(H:Hp)(a:Addr)(o:HO):Hp:=λb=>if b=a then some o else H b
theorem Zae{H:Hp}{a:Addr}{o:HO}:upd H a o a=some o:=by unfold upd; rw[if_pos rfl]
theorem Zap{H:Hp}{a b:Addr}{o:HO}(h:b≠a):upd H a o b=H b:=by unfold upd; rw[if_neg h]
theorem Zjl{H:Hp}{a b:Addr}{o u:HO}(h:H a=some o)(h':H b=some u)(d:o≠u):a≠b:=by
  intro e; subst e; rw[h] at h'; exact d (Option.some.inj h')
theorem Zaz{H:Hp}{a b:Addr}{o:HO}(h:H a=some o)(h':H b=none):a≠b:=by
  intro e; subst e; rw[h] at h'; cases h'
section
variable(P:Program)(w:World)
def ObjOk(H:Hp)(h:Heap)(a:Addr):HO->Prop
  | .lst xs=>xs.length<=sizeLine/\∃(its:List Value) (n:Nat),Vals xs its/\h.get? a=some { cls:=.type "list", data:=.seq its.toArray n }
  | .tup xs=>xs.length<=sizeLine/\∃its:List Value,Vals xs its/\IsTup h a its.toArray
  | .dK kvs=>kvs.length<=sizeLine/\(a==sysModules)=false/\∃vs,KV kvs vs/\h.DictOf (ZaE P w) a vs
  | .dT kvs=>kvs.length<=sizeLine/\(a==sysModules)=false/\∃xs:List (List Key×Addr×Value),
      Paired (λ(p:List Key×V) (q:List Key×Addr×Value)=>p.1=q.1/\H q.2.1=some (.tup (p.1.map kV))/\RelV p.2 q.2.2) kvs xs ∧
      ∃o es ep,h.get? a=some o/\o.ExactDict/\o.data = .dict es ep/\es.toList=xs.map (entryOfKey (tupleKind (ZaE P w)))/\(xs.map (·.1)).Nodup
  | .set S n=>h.SetOf (intKind P w) a S n
  | .ins C dx fs=>H dx=some (.own a)/\fs.length<=1000/\dx≠a/\h.get? a=some (PySem.W.instObj C dx) ∧
      ∃mA,h.Ns1 dx mA/\(∀f,RelO (fs.lookup f) (mA f))/\PySem.Within mA (fs.map (·.1))
  | .own _=>∃o,h.get? a=some o
  | .xd fs=>∃mA,h.Ns1 a mA/\∀f,RelO (fs.lookup f) (mA f)
  | .rng lo hi=>∃t u v,h.get? a=some { cls:=.type "range", data:=.fields #[.int lo t,.int hi u,.int 1 v] }
  | .frz o u=>h.get? a=some o/\ObjOk H h a u
  | .tbl ps=>h.get? a=some { cls:=.none,data:=.fields ps }
  | .met f x=>h.get? a=some (PySem.W.methodObj (.ref f) (.ref x))
  | .ext φ=>φ h/\(∃o,h.get? a=some o)/\∀h1 h2:Heap,φ h1->(∀o,h1.get? a=some o->h2.get? a=some o)->φ h2
def HOk(H:Hp)(h:Heap):Prop:=∀a o,H a=some o->ObjOk P w H h a o
end
section
variable{P:Program}{w:World}{H H':Hp}{h h':Heap}{a:Addr}{o:HO}
theorem ObjOk.lt(x:ObjOk P w H h a o):a<h.objs.size:=by
  cases o with
  | lst xs=>obtain ⟨_,_,_,_,e⟩:=x; exact Heap.lt_size e
  | tup xs=>obtain ⟨_,_,_,p⟩:=x; exact p.lt
  | dK kvs=>obtain ⟨_,_,_,_,o,_,_,e,_⟩:=x; exact Heap.lt_size e
  | dT kvs=>obtain ⟨_,_,_,_,o,_,_,e,_⟩:=x; exact Heap.lt_size e
  | set S n=>obtain ⟨o,_,_,_,e,_⟩:=x; exact Heap.lt_size e
  | ins C dx fs=>obtain ⟨_,_,_,e,_⟩:=x; exact Heap.lt_size e
  | own y=>obtain ⟨_,e⟩:=x; exact Heap.lt_size e
  | xd fs=>obtain ⟨_,⟨_,_,_,e,_⟩,_⟩:=x; exact Heap.lt_size e
  | rng lo hi=>obtain ⟨_,_,_,e⟩:=x; exact Heap.lt_size e
  | frz ob u=>obtain ⟨e,_⟩:=x; exact Heap.lt_size e
  | tbl ps=>exact Heap.lt_size (show h.get? a=some _ from x)
  | met f y=>exact Heap.lt_size (show h.get? a=some _ from x)
  | ext φ=>obtain ⟨_,⟨_,e⟩,_⟩:=x; exact Heap.lt_size e
theorem Paired.mapP{α β:Type}{F G:α->β->Prop}:∀ {l₁:List α} {l₂:List β},Paired F l₁ l₂->(∀a b,F a b->G a b)->Paired G l₁ l₂
  | _,_,.nil,_ => .nil
  | _,_,.cons r t,f => .cons (f _ _ r) (Paired.mapP t f)
theorem ObjOk.stay(x:ObjOk P w H h a o)(k:∀b u,(b=a\/H b=some (.own a))->h.get? b=some u->h'.get? b=some u)
    (ho:∀b,H b=some (.own a)->H' b=some (.own a)) (ht:∀b xs,H b=some (.tup xs)->H' b=some (.tup xs)):ObjOk P w H' h' a o:=by
  induction o with
  | lst xs=>obtain ⟨z,its,n,r,e⟩:=x; exact ⟨z,its,n,r,k _ _ (.inl rfl) e⟩
  | tup xs=>obtain ⟨z,its,r,ob,e,c⟩:=x; exact ⟨z,its,r,ob,k _ _ (.inl rfl) e,c⟩
  | dK kvs=>obtain ⟨z,y,vs,r,ob,es,ep,e,c⟩:=x; exact ⟨z,y,vs,r,ob,es,ep,k _ _ (.inl rfl) e,c⟩
  | dT kvs =>
    obtain ⟨z,y,xs,r,ob,es,ep,e,c⟩:=x
    exact ⟨z,y,xs,Paired.mapP r λp q z=>⟨z.1,ht _ _ z.2.1,z.2.2⟩,ob,es,ep,k _ _ (.inl rfl) e,c⟩
  | set S n=>obtain ⟨ob,es,ep,t,e,c⟩:=x; exact ⟨ob,es,ep,t,k _ _ (.inl rfl) e,c⟩
  | ins C dx fs =>
    obtain ⟨d,z,ne,e,mA,⟨od,es,ep,e2,c⟩,r⟩:=x
    exact ⟨ho _ d,z,ne,k _ _ (.inl rfl) e,mA,⟨od,es,ep,k _ _ (.inr d) e2,c⟩,r⟩
  | own y=>obtain ⟨ob,e⟩:=x; exact ⟨ob,k _ _ (.inl rfl) e⟩
  | xd fs=>obtain ⟨mA,⟨od,es,ep,e,c⟩,r⟩:=x; exact ⟨mA,⟨od,es,ep,k _ _ (.inl rfl) e,c⟩,r⟩
  | rng lo hi=>obtain ⟨t,u,v,e⟩:=x; exact ⟨t,u,v,k _ _ (.inl rfl) e⟩
  | frz ob u ih=>obtain ⟨e,q⟩:=x; exact ⟨k _ _ (.inl rfl) e,ih q⟩
  | tbl ps =>
    have e:h.get? a=some { cls:=.none,data:=.fields ps }:=x
    show h'.get? a=some { cls:=.none,data:=.fields ps }
    exact k a _ (.inl rfl) e
  | met f y =>
    have e:h.get? a=some (PySem.W.methodObj (.ref f) (.ref y)):=x
    show h'.get? a=some (PySem.W.methodObj (.ref f) (.ref y))
    exact k a _ (.inl rfl) e
  | ext φ=>obtain ⟨p,⟨o,e⟩,st⟩:=x; exact ⟨st _ _ p λo q=>k _ _ (.inl rfl) q,⟨o,k _ _ (.inl rfl) e⟩,st⟩
theorem HOk.lt(x:HOk P w H h)(e:H a=some o):a<h.objs.size:=(x a o e).lt
theorem HOk.fresh(x:HOk P w H h)(e:h.objs.size<=a):H a=none:=by
  cases q:H a with
  | none=>rfl
  | some u=>exact absurd (Q6 (x.lt q) e) (Qv _)
theorem HOk.kept(x:HOk P w H h)(k:∀b u,h.get? b=some u->h'.get? b=some u):HOk P w H h':=λa o e =>
  (x a o e).stay (λb u _ q=>k b u q) (λ_ q=>q) λ_ _ q=>q
theorem HOk.laid(x:HOk P w H h)(k:∀b u,h.get? b=some u->h'.get? b=some u)(hp:h.objs.size<=a)(new:ObjOk P w (upd H a o) h' a o):HOk P w (upd H a o) h':=λb u e=>by
  have hn:=x.fresh hp
  by_cases hb:b=a
  · subst hb; rw[Zae] at e; cases e; exact new
  · rw[Zap hb] at e
    exact (x b u e).stay (λc v _ q=>k c v q) (λc q=>by rw[Zap (Zaz q hn)]; exact q) λc xs q=>by rw[Zap (Zaz q hn)]; exact q
end
def Rd(H:Hp)(a:Addr)(u:HO):Prop:=H a=some u\/∃o,H a=some (.frz o u)
theorem Rd.ok{P:Program}{w:World}{H:Hp}{h:Heap}{a:Addr}{u:HO}(r:Rd H a u)(x:HOk P w H h):ObjOk P w H h a u:=by
  rcases r with r | ⟨o,r⟩
  · exact x a u r
  · obtain ⟨_,q⟩:=x a _ r
    exact q
def Mut:Option HO->Prop
  | some (.lst _)=>True
  | some (.dK _)=>True
  | some (.dT _)=>True
  | some (.set _ _)=>True
  | some (.ins _ _ _)=>True
  | some (.ext _)=>True
  | _=>False
section
variable{P:Program}{w:World}{H:Hp}{h h':Heap}{x e:Addr}{o':HO}
theorem HOk.write(ok:HOk P w H h)(mu:Mut (H x))(he:e=x\/H e=some (.own x))(k:∀b u,b≠e->h.get? b=some u->h'.get? b=some u)(heo:∃u,h'.get? e=some u)
    (new:ObjOk P w (upd H x o') h' x o'):HOk P w (upd H x o') h':=λb u q=>by
  have nown:∀c y,H c=some (.own y)->c≠x:=λc y r z=>by subst z; rw[r] at mu; exact mu
  have ntup:∀c xs,H c=some (.tup xs)->c≠x:=λc xs r z=>by subst z; rw[r] at mu; exact mu
  by_cases hb:b=x
  · subst hb; rw[Zae] at q; cases q; exact new
  · rw[Zap hb] at q
    by_cases hbe:b=e
    · have q':H b=some (.own x):=by
        rcases he with z | z
        · exact absurd (hbe.trans z) hb
        · rw[hbe]; exact z
      rw[q] at q'; cases q'
      obtain ⟨v,hv⟩:=heo
      exact ⟨v,by rw[hbe]; exact hv⟩
    · refine (ok b u q).stay (λc v hc r=>k c v ?_ r) (λc r=>by rw[Zap (nown c b r)]; exact r) λc xs r=>by rw[Zap (ntup c xs r)]; exact r
      rcases hc with rfl | hc
      · exact hbe
      · rintro rfl
        rcases he with z | z
        · exact nown c b hc z
        · rw[hc] at z; cases z; exact hb rfl
end
structure Un (fs ex:List Addr) (H H':Hp) (h h':Heap):Prop where
  keep:∀b o,h.get? b=some o->H b=none->b∉fs->b∉ex->h'.get? b=some o
  slot:∀b o,h.get? b=some o->H b=none->b∈fs->b∉ex->∃sl,h'.get? b=some { o with slots:=sl }
  free:∀b o,h.get? b=some o->H b=none->b∉ex->H' b=none
  there:∀b o,h.get? b=some o->b∉ex->∃o',h'.get? b=some o'
  tups:∀b xs,H b=some (.tup xs)->H' b=some (.tup xs)
  frzs:∀b o u,H b=some (.frz o u)->H' b=some (.frz o u)
  tbls:∀b ps,H b=some (.tbl ps)->∃more,H' b=some (.tbl (ps++more))
section
variable{fs fs' ex ex':List Addr}{H H1 H2:Hp}{h h1 h2 h':Heap}{a x e:Addr}{o:HO}
theorem Un.any(u:Un fs ex H H1 h h1){b:Addr}{ob:Obj}(q:h.get? b=some ob)(n:H b=none)(hx:b∉ex):∃sl,h1.get? b=some { ob with slots:=sl }:=by
  by_cases hb:b∈fs
  · exact u.slot b ob q n hb hx
  · exact ⟨ob.slots,u.keep b ob q n hb hx⟩
theorem Un.kept(k:∀b u,h.get? b=some u->h'.get? b=some u):Un fs ex H H h h' :=
  ⟨λb ob q _ _ _=>k b ob q,λb ob q _ _ _=>⟨ob.slots,k b ob q⟩,λ_ _ _ n _=>n,λb ob q _=>⟨ob,k b ob q⟩,λ_ _ q=>q,λ_ _ _ q=>q,λ_ ps q=>⟨#[],by rw[q]; simp⟩⟩
theorem Un.refl:Un fs ex H H h h:=Un.kept λ_ _ q=>q
theorem Un.laid(k:∀b u,h.get? b=some u->h'.get? b=some u)(hp:h.objs.size<=a)(hn:H a=none):Un fs ex H (upd H a o) h h' where
  keep:=λb u q _ _ _=>k b u q
  slot:=λb u q _ _ _=>⟨u.slots,k b u q⟩
  free:=λb u q n _=>by rw[Zap (Qa (Q6 (Heap.lt_size q) hp))]; exact n
  there:=λb u q _=>⟨u,k b u q⟩
  tups:=λb xs q=>by rw[Zap (Zaz q hn)]; exact q
  frzs:=λb u xs q=>by rw[Zap (Zaz q hn)]; exact q
  tbls:=λb ps q=>⟨#[],by rw[Zap (Zaz q hn),q]; simp⟩
theorem Un.write(mu:Mut (H x))(he:e=x\/H e=some (.own x))(k:∀b u,b≠e->h.get? b=some u->h'.get? b=some u)(heo:∃u,h'.get? e=some u):Un fs ex H (upd H x o) h h':=by
  have hx:∀b,H b=none->b≠x:=λb n z=>by subst z; rw[n] at mu; exact mu
  have hb:∀b,H b=none->b≠e:=λb n z=>by
    subst z
    rcases he with r | r
    · exact hx b n r
    · rw[n] at r; cases r
  have hm:∀b u,H b=some u->¬Mut (some u)->b≠x:=λb u q nm z=>by subst z; rw[q] at mu; exact nm mu
  refine ⟨λb u q n _ _=>k b u (hb b n) q,λb u q n _ _=>⟨u.slots,k b u (hb b n) q⟩,λb u q n _=>by rw[Zap (hx b n)]; exact n,λb u q _=>?_,
    λb xs q=>by rw[Zap (hm b _ q λz=>z)]; exact q,λb u xs q=>by rw[Zap (hm b _ q λz=>z)]; exact q,λb ps q=>⟨#[],by rw[Zap (hm b _ q λz=>z),q]; simp⟩⟩
  by_cases hbe:b=e
  · subst hbe; exact heo
  · exact ⟨u,k b u hbe q⟩
end
def trk(h:Heap)(H:Hp):List Addr:=(List.range h.objs.size).filter λa=>(H a).isSome
def Zlb(h:Heap)(H:Hp):Heap:=PySem.W.hideAll h (trk h H)
theorem Zjm(h:Heap)(H:Hp):(Zlb h H).objs.size=h.objs.size:=PySem.W.hideAll_size _ _
theorem Zlc{h:Heap}{H:Hp}{b:Addr}{o:Obj}(e:h.get? b=some o)(n:H b=none):(Zlb h H).get? b=some o :=
  PySem.W.hideAll_get _ e λhm=>by
    have q:(H b).isSome=true:=(List.mem_filter.mp hm).2
    rw[n] at q; simp at q
theorem ZmM{h:Heap}{H:Hp}{b:Addr}{o:Obj}(e:(Zlb h H).get? b=some o):h.get? b=some o/\H b=none:=by
  have e':h.get? b=some o:=PySem.W.of_hideAll (trk h H) e
  refine ⟨e',?_⟩
  cases q:H b with
  | none=>rfl
  | some x =>
    have hm:b∈trk h H:=List.mem_filter.mpr ⟨U5.mpr (Heap.lt_size e'),by simp[q]⟩
    have z:(Zlb h H).get? b=none:=PySem.W.hideAll_none (trk h H) hm
    rw[z] at e; cases e
def ZmN(g h:Heap)(L:Addr):List (Addr×Obj):=(List.range h.objs.size).filterMap λa=>if a=L\/(g.get? a).isSome=true then none else (h.get? a).map λo=>(a,o)
def rest(g h:Heap)(L d:Addr):List (Addr×Obj):=(ZmN g h L).filter λp=>decide (p.1≠d)
end L2
namespace L2
open PySem PySem.Spec PyProof.Rows
structure Mod (K:PySem.W.Frag) (mg:Str->Option Value) (base:Heap):Prop where
  kin:K.In base
  glob:base.Ns mainGlobals mg
  blt:∃mb,base.Ns builtinsNs mb/\∀x:Str,x ≠ "__name__" -> mb x=bootBuiltins x
  nolimit:base.NoLimit
structure Cx where
  prog:Program
  w:World
  K:PySem.W.Frag
  mg:Str->Option Value
  base:Heap
  A:Around
  N:List Str
  s₀:Shared
  H₀:Hp
  env:Env
  outer:List Env
  stack:List Env
  ex:List Addr
  fn:Str->Bool
  calm:Bool
  pn:List (Addr×Obj)
  xe:Value->Shared->Prop
def frs(l:List Env):List Addr:=l.filterMap (·.frame)
abbrev Cx.fs(X:Cx):List Addr:=frs X.outer
def Vis(sc:Scope)(x:Str):Prop:=sc.names.lookup x=some .local\/sc.names.lookup x=some .cell\/sc.names.lookup x=some .free
def Loc(sc:Scope)(x:Str):Prop:=sc.names.lookup x=some .local\/sc.names.lookup x=some .cell
def Zp4(env:Env)(h:Heap)(m:Str->Option Value)(x:Str)(u:Value):Prop :=
  (env.kindOf x=some .local/\m x=some u)\/((env.kindOf x=some .cell\/env.kindOf x=some .free)/\∃c,env.cells.lookup x=some c/\h.IsCell c (some u))
structure Cx.Ok (X:Cx):Prop where
  mod:Mod X.K X.mg X.base
  kind:X.env.scope.kind = .function
  glob:X.env.globals=mainGlobals
  blt:X.env.builtins=builtinsNs
  above:X.s₀.heap.objs.size<=X.env.locals
  inj:∀x y c,X.env.cells.lookup x=some c->X.env.cells.lookup y=some c->x=y
  has:∀x,(X.env.kindOf x=some .cell\/X.env.kindOf x=some .free)->∃c,X.env.cells.lookup x=some c
  cab:∀x c,X.fn x=true->X.env.cells.lookup x=some c->X.s₀.heap.objs.size<=c
  hd:X.calm=true->X.A.handled=none
  frames:X.A.frames=some X.stack
  stk:X.stack=X.outer\/(X.stack=X.env::X.outer/\X.env.frame=some X.env.locals)
  exf:∀b∈X.ex,b≠X.env.locals/\∀x c,X.env.cells.lookup x=some c->c≠b
  bs:∀b o,X.base.get? b=some o->X.s₀.heap.get? b=some o/\X.H₀ b=none
  bsz:X.base.objs.size<=X.s₀.heap.objs.size
  noex:∀b o,X.base.get? b=some o->b∉X.ex
  exfs:∀b∈X.ex,b∉X.fs
  funs:X.s₀.heap.FunFrames X.base X.outer
  frf:∀b∈X.fs,X.H₀ b=none
structure Inv (X:Cx) (pins:List (Addr×Obj)) (σ:List (Option V)) (H:Hp) (s:Shared):Prop where
  ok:X.Ok
  os:s.os=X.s₀.os
  bare:AllBare s.gens
  base:Un X.fs X.ex X.H₀ H X.s₀.heap s.heap
  loc:∃m,s.heap.Ns X.env.locals m/\∀(i:Nat) (x:Str) (v:V),X.N[i]?=some x->σ[i]?=some (some v)->Vis X.env.scope x->∃u,RelV v u/\Zp4 X.env s.heap m x u
  cell:∀x c,X.env.cells.lookup x=some c->∃v,s.heap.IsCell c v
  free:H X.env.locals=none
  freeC:∀x c,X.env.cells.lookup x=some c->H c=none
  pin:∀p∈X.pn++pins,s.heap.get? p.1=some p.2/\H p.1=none/\p.1≠X.env.locals/\p.1∉X.fs/\∀v,p.2.data ≠ .cell v
  hok:HOk X.prog X.w H s.heap
  len:σ.length=X.N.length
section
variable{X:Cx}{pins:List (Addr×Obj)}{σ:List (Option V)}{H H':Hp}{s:Shared}{h':Heap}
theorem Cx.Ok.nofr(ok:X.Ok){b:Addr}{o:Obj}(e:X.base.get? b=some o):b∉X.fs:=λhb=>by
  have:=(ok.funs.mem hb).1
  rw[e] at this; cases this
theorem Inv.bs(I:Inv X pins σ H s):∀b o,X.base.get? b=some o->s.heap.get? b=some o/\H b=none:=λb o e =>
  ⟨I.base.keep b o (I.ok.bs b o e).1 (I.ok.bs b o e).2 (I.ok.nofr e) (I.ok.noex b o e),I.base.free b o (I.ok.bs b o e).1 (I.ok.bs b o e).2 (I.ok.noex b o e)⟩
theorem Inv.bk(I:Inv X pins σ H s):∀b o,X.base.get? b=some o->s.heap.get? b=some o:=λb o e=>(I.bs b o e).1
theorem Inv.mod(I:Inv X pins σ H s):Mod X.K X.mg X.base:=I.ok.mod
theorem Inv.kIn(I:Inv X pins σ H s):X.K.In s.heap:=I.ok.mod.kin.keeps I.bk
theorem Inv.nolimit(I:Inv X pins σ H s):s.heap.NoLimit:=I.ok.mod.nolimit.keeps I.bk
theorem Inv.fr(I:Inv X pins σ H s):∃m,Fr X.base X.env.locals s.heap m :=
  let ⟨m,hn,_⟩:=I.loc
  ⟨m,hn,I.bk,Q2 I.ok.bsz I.ok.above⟩
theorem Inv.lt(I:Inv X pins σ H s):X.env.locals<s.heap.objs.size:=let ⟨_,hn,_⟩:=I.loc; hn.lt
theorem Inv.sz(I:Inv X pins σ H s):X.s₀.heap.objs.size<=s.heap.objs.size:=Q2 I.ok.above (Qt I.lt)
theorem Inv.nofs(I:Inv X pins σ H s){a:Addr}(h:s.heap.objs.size<=a):a∉X.fs:=λhb=>by
  obtain ⟨_,o,ho,_⟩:=I.ok.funs.mem hb
  exact absurd (Q6 (Heap.lt_size ho) (Q2 I.sz h)) (Qv _)
theorem Inv.cne(I:Inv X pins σ H s):∀x c,X.env.cells.lookup x=some c->c≠X.env.locals:=λx c e z=>by
  obtain ⟨v,o,ho,hd⟩:=I.cell x c e
  obtain ⟨m,⟨o',es,ep,ho',hd',_⟩,_⟩:=I.loc
  rw[z,ho'] at ho; cases ho; rw[hd'] at hd; cases hd
theorem Inv.funs(I:Inv X pins σ H s):s.heap.FunFrames X.base X.outer:=by
  have all:∀(l:List Env),(∀b∈frs l,b∈X.fs)->X.s₀.heap.FunFrames X.base l->s.heap.FunFrames X.base l:=by
    intro l
    induction l with
    | nil=>intro _ _; trivial
    | cons env r ih =>
      intro hs hl
      obtain ⟨hk,⟨L,o,hf,hn,ho,hd⟩,hr⟩:=hl
      have hL:L∈X.fs:=hs L (by unfold frs; rw[Uu,hf]; exact Qw)
      obtain ⟨sl,e⟩:=I.base.slot L o ho (I.ok.frf L hL) hL λz=>I.ok.exfs L z hL
      exact ⟨hk,⟨L,_,hf,hn,e,hd⟩,ih (λb hb=>hs b (by unfold frs; rw[Uu,hf]; exact Wd _ hb)) hr⟩
  exact all X.outer (λ_ hb=>hb) I.ok.funs
theorem Inv.stack(I:Inv X pins σ H s):s.heap.FunFrames X.base X.stack:=by
  rcases I.ok.stk with e | ⟨e,hf⟩
  · rw[e]; exact I.funs
  · rw[e]
    obtain ⟨m,hn,_⟩:=I.loc
    refine .cons (by rw[I.ok.kind]; decide) hf hn ?_ I.funs
    exact Heap.get?_none_of_le (Q2 I.ok.bsz I.ok.above)
theorem Inv.stkSub(I:Inv X pins σ H s):∀b∈frs X.stack,b∈X.env.locals::X.fs:=λb hb=>by
  rcases I.ok.stk with e | ⟨e,hf⟩
  · rw[e] at hb; exact Wd _ hb
  · rw[e] at hb
    unfold frs at hb
    rw[Uu,hf] at hb
    exact hb
theorem Inv.stkFree(I:Inv X pins σ H s):∀b∈frs X.stack,H b=none:=λb hb=>by
  rcases Q8.mp (I.stkSub b hb) with e | hb
  · rw[e]; exact I.free
  · obtain ⟨_,o,ho,_⟩:=I.ok.funs.mem hb
    exact I.base.free b o ho (I.ok.frf b hb) λz=>I.ok.exfs b z hb
theorem Inv.step{g':Array GenState}{t':Nat}{d':Drawn}{ch:List Addr}(I:Inv X pins σ H s)
    (hch:∀b∈ch,(b∈X.ex\/X.s₀.heap.objs.size<=b)/\b≠X.env.locals/\(∀x c,X.env.cells.lookup x=some c->c≠b)/\∀p∈X.pn++pins,p.1≠b)
    (keep:∀b o,b≠X.env.locals->b∉X.fs->b∉ch->s.heap.get? b=some o->H b=none->h'.get? b=some o)
    (slot:∀b o,b≠X.env.locals->b∈X.fs->b∉ch->s.heap.get? b=some o->H b=none->∃sl,h'.get? b=some { o with slots:=sl }) (free:∀b o,b∉ch->s.heap.get? b=some o->H b=none->H' b=none)
    (there:∀b o,b∉ch->s.heap.get? b=some o->∃o',h'.get? b=some o')
    (tups:∀b xs,H b=some (.tup xs)->H' b=some (.tup xs)) (frzs:∀b o u,H b=some (.frz o u)->H' b=some (.frz o u)) (tbls:∀b ps,H b=some (.tbl ps)->∃more,H' b=some (.tbl (ps++more)))
    (ns:∀m,s.heap.Ns X.env.locals m->h'.Ns X.env.locals m) (hok:HOk X.prog X.w H' h') (hg:AllBare g') :
    Inv X pins σ H' { s with heap:=h',gens:=g',drawn:=d',toks:=t' }:=by
  have neL:∀b o,X.s₀.heap.get? b=some o->b≠X.env.locals:=λb o e=>Qa (Q6 (Heap.lt_size e) I.ok.above)
  have neC:∀b o,X.s₀.heap.get? b=some o->b∉X.ex->b∉ch:=λb o e hx hb=>by
    rcases (hch b hb).1 with z | z
    · exact hx z
    · exact absurd (Q6 (Heap.lt_size e) z) (Qv _)
  have cellK:∀x c,X.env.cells.lookup x=some c->∀v,s.heap.IsCell c v->h'.IsCell c v:=λx c e v ⟨o,ho,hd⟩=>by
    have nch:c∉ch:=λz=>(hch c z).2.2.1 x c e rfl
    by_cases hc:c∈X.fs
    · obtain ⟨sl,q⟩:=slot c o (I.cne x c e) hc nch ho (I.freeC x c e)
      exact ⟨_,q,hd⟩
    · exact ⟨o,keep c o (I.cne x c e) hc nch ho (I.freeC x c e),hd⟩
  refine ⟨I.ok,I.os,hg,⟨λb o e n hb hx=>?_,λb o e n hb hx=>?_,λb o e n hx=>?_,λb o e hx=>?_,λb xs e=>tups b xs (I.base.tups b xs e),λb o xs e=>frzs b o xs (I.base.frzs b o xs e),λb ps e=>?_⟩,?_,λx c e=>?_,?_,λx c e=>?_,λp hp=>?_,hok,I.len⟩
  · exact keep b o (neL b o e) hb (neC b o e hx) (I.base.keep b o e n hb hx) (I.base.free b o e n hx)
  · obtain ⟨sl,e1⟩:=I.base.slot b o e n hb hx
    obtain ⟨sl',e2⟩:=slot b _ (neL b o e) hb (neC b o e hx) e1 (I.base.free b o e n hx)
    exact ⟨sl',e2⟩
  · obtain ⟨o',e1⟩:=I.base.there b o e hx
    exact free b o' (neC b o e hx) e1 (I.base.free b o e n hx)
  · obtain ⟨o',e1⟩:=I.base.there b o e hx
    exact there b o' (neC b o e hx) e1
  · obtain ⟨m1,e1⟩:=I.base.tbls b ps e
    obtain ⟨m2,e2⟩:=tbls b _ e1
    exact ⟨m1++m2,by rw[e2,Array.append_assoc]⟩
  · obtain ⟨m,hn,hl⟩:=I.loc
    refine ⟨m,ns m hn,λi x v e1 e2 e3=>?_⟩
    obtain ⟨u,r,l⟩:=hl i x v e1 e2 e3
    refine ⟨u,r,?_⟩
    rcases l with l | ⟨k,c,e,z⟩
    · exact .inl l
    · exact .inr ⟨k,c,e,cellK x c e _ z⟩
  · obtain ⟨v,z⟩:=I.cell x c e
    exact ⟨v,cellK x c e v z⟩
  · obtain ⟨m,⟨o,_,_,ho,_⟩,_⟩:=I.loc
    exact free _ o (λz=>(hch _ z).2.1 rfl) ho I.free
  · obtain ⟨v,o,ho,hd⟩:=I.cell x c e
    exact free c o (λz=>(hch c z).2.2.1 x c e rfl) ho (I.freeC x c e)
  · obtain ⟨e,n,ne,nf,d⟩:=I.pin p hp
    have nch:p.1∉ch:=λz=>(hch p.1 z).2.2.2 p hp rfl
    exact ⟨keep p.1 p.2 ne nf nch e n,free p.1 p.2 nch e n,ne,nf,d⟩
theorem Inv.un{t':Nat}(I:Inv X pins σ H s)(u:Un X.fs [] H H' s.heap h')(hok:HOk X.prog X.w H' h'):Inv X pins σ H' { s with heap:=h',toks:=t' }:=by
  obtain ⟨m,⟨o,es,ep,ho,r⟩,_⟩:=id I.loc
  obtain ⟨sl,hL⟩:=u.any ho I.free (by simp)
  exact I.step (g':=s.gens) (d':=s.drawn) (ch:=[]) (λ_ z=>nomatch z) (λb o _ hb _ e n=>u.keep b o e n hb (by simp)) (λb o _ hb _ e n=>u.slot b o e n hb (by simp)) (λb o _ e n=>u.free b o e n (by simp)) (λb o _ e=>u.there b o e (by simp)) u.tups u.frzs u.tbls (λm' hm=>by
    obtain ⟨o',es',ep',ho',r'⟩:=hm
    rw[ho] at ho'; cases ho'
    exact ⟨_,es',ep',hL,r'⟩) hok I.bare
theorem Inv.call{g':Array GenState}{t':Nat}{d':Drawn}{ch:List Addr}(I:Inv X pins σ H s)(u:Un (frs X.stack) ch H H' s.heap h')(hok:HOk X.prog X.w H' h')(hg:AllBare g')
    (hch:∀b∈ch,(b∈X.ex\/X.s₀.heap.objs.size<=b)/\b≠X.env.locals/\(∀x c,X.env.cells.lookup x=some c->c≠b)/\∀p∈X.pn++pins,p.1≠b) :
    Inv X pins σ H' { s with heap:=h',gens:=g',drawn:=d',toks:=t' }:=by
  obtain ⟨m,⟨o,es,ep,ho,r⟩,_⟩:=id I.loc
  obtain ⟨sl,hL⟩:=u.any ho I.free λz=>(hch _ z).2.1 rfl
  exact I.step (ch:=ch) hch (λb o hL hb hc e n=>u.keep b o e n (λz=>(Q8.mp (I.stkSub b z)).elim hL hb) hc) (λb o _ _ hc e n=>u.any e n hc) (λb o hc e n=>u.free b o e n hc) (λb o hc e=>u.there b o e hc) u.tups u.frzs u.tbls (λm' hm=>by
    obtain ⟨o',es',ep',ho',r'⟩:=hm
    rw[ho] at ho'; cases ho'
    exact ⟨_,es',ep',hL,r'⟩) hok hg
theorem Inv.turned{t':Nat}{it:Addr}(I:Inv X pins σ H s)(k:∀b o,b≠it->s.heap.get? b=some o->h'.get? b=some o)(hn:H it=none)(hL:it≠X.env.locals)
    (h1:it∈X.ex\/X.s₀.heap.objs.size<=it) (h2:∀x c,X.env.cells.lookup x=some c->c≠it) (h3:∀p∈X.pn++pins,p.1≠it):Inv X pins σ H { s with heap:=h',toks:=t' }:=by
  have nit:∀b u,H b=some u->b≠it:=λb u e z=>by rw[z,hn] at e; cases e
  refine I.step (g':=s.gens) (d':=s.drawn) (ch:=[it]) (λb hb=>?_) (λb o _ _ hc e _=>k b o (λz=>hc (by simp[z])) e) (λb o _ _ hc e _=>⟨o.slots,k b o (λz=>hc (by simp[z])) e⟩) (λ_ _ _ _ n=>n)
    (λb o hc e=>⟨o,k b o (λz=>hc (by simp[z])) e⟩) (λ_ _ e=>e) (λ_ _ _ e=>e) (λb ps e=>⟨#[],by rw[e]; simp⟩) (λm hm=>?_) (λb u e=>?_) I.bare
  · have e:b=it:=by simpa using hb
    subst e
    exact ⟨h1,hL,h2,h3⟩
  · obtain ⟨o,es,ep,ho,r⟩:=hm
    exact ⟨o,es,ep,k _ o (Ne.symm hL) ho,r⟩
  · refine (I.hok b u e).stay (λc v hc q=>k c v ?_ q) (λ_ q=>q) λ_ _ q=>q
    rcases hc with z | z
    · rw[z]; exact nit b u e
    · exact nit c _ z
theorem Inv.tok(I:Inv X pins σ H s)(t:Nat):Inv X pins σ H { s with toks:=t }:=I.un (h':=s.heap) (t':=t) Un.refl I.hok
theorem Inv.kept{t':Nat}(I:Inv X pins σ H s)(k:∀b u,s.heap.get? b=some u->h'.get? b=some u):Inv X pins σ H { s with heap:=h',toks:=t' }:=I.un (Un.kept k) (I.hok.kept k)
theorem Inv.laid{a:Addr}{o:HO}{t':Nat}(I:Inv X pins σ H s)(k:∀b u,s.heap.get? b=some u->h'.get? b=some u)(hp:s.heap.objs.size<=a)(new:ObjOk X.prog X.w (upd H a o) h' a o) :
    Inv X pins σ (upd H a o) { s with heap:=h',toks:=t' }:=I.un (Un.laid k hp (I.hok.fresh hp)) (I.hok.laid k hp new)
theorem Inv.write{x e:Addr}{o:HO}{t':Nat}(I:Inv X pins σ H s)(mu:Mut (H x))(he:e=x\/H e=some (.own x))(k:∀b u,b≠e->s.heap.get? b=some u->h'.get? b=some u)(heo:∃u,h'.get? e=some u)
    (new:ObjOk X.prog X.w (upd H x o) h' x o):Inv X pins σ (upd H x o) { s with heap:=h',toks:=t' }:=I.un (Un.write mu he k heo) (I.hok.write mu he k heo new)
theorem Inv.weak{σ':List (Option V)}(I:Inv X pins σ H s)(hl:σ'.length=σ.length)(w:∀(i:Nat) v,σ'[i]?=some (some v)->σ[i]?=some (some v)):Inv X pins σ' H s :=
  ⟨I.ok,I.os,I.bare,I.base,let ⟨m,hn,hl'⟩:=I.loc; ⟨m,hn,λi x v e1 e2 e3=>hl' i x v e1 (w i v e2) e3⟩,I.cell,I.free,I.freeC,I.pin,I.hok,hl.trans I.len⟩
theorem Inv.pins_of{pins':List (Addr×Obj)}(I:Inv X pins σ H s)(h:∀p∈pins',s.heap.get? p.1=some p.2/\H p.1=none/\p.1≠X.env.locals/\p.1∉X.fs/\∀v,p.2.data ≠ .cell v):Inv X pins' σ H s :=
  ⟨I.ok,I.os,I.bare,I.base,I.loc,I.cell,I.free,I.freeC,λp hp=>(Qu.mp hp).elim (λz=>I.pin p (Uh _ z)) (h p),I.hok,I.len⟩
theorem Zh7{N:List Str}(hN:N.Nodup){i j:Nat}{x:Str}(a:N[i]?=some x)(b:N[j]?=some x):i=j:=by
  obtain ⟨h1,e1⟩:=Qf.mp a
  obtain ⟨h2,e2⟩:=Qf.mp b
  exact (List.getElem_inj hN).mp (e1.trans e2.symm)
theorem Zgp{M:Model}{A:Around}{E:Value->Shared->Prop}{i:Nat}{x:Str}{v:V}{u:Value}{Q:Unit->Shared->Prop}(I:Inv X pins σ H s)(hN:X.N.Nodup)(hi:X.N[i]?=some x)(hx:Loc X.env.scope x)(r:RelV v u)
    (h:∀s',Inv X pins (σ.set i (some v)) H s'->(∃a,Heap.SameBut a s.heap s'.heap/\(a=X.env.locals\/X.env.cells.lookup x=some a))->Q () s') (hf:X.fn x=true\/X.env.scope.names.lookup x=some .local:=by first | exact .inl rfl | exact .inr rfl | assumption):wpAny M A (storeName X.env x u) Q E s:=by
  obtain ⟨m,hn,hl⟩:=id I.loc
  have hcls:(X.env.scope.kind == .class||(X.env.scope.kind == .module&&X.env.locals != X.env.globals))=false:=by rw[I.ok.kind]; rfl
  have hiσ:i<σ.length:=by rw[I.len]; exact (Qf.mp hi).1
  have cne:=I.cne
  have tracked:∀ {a:Addr} {h':Heap},(∃o,s.heap.get? a=some o/\H a=none)->Heap.SameBut a s.heap h'->HOk X.prog X.w H h':=fun {a h'} ha hs b ob e=>by
    obtain ⟨_,_,hfree⟩:=ha
    refine (I.hok b ob e).stay (λc w' hc q=>(hs.2 c ?_).trans q) (λ_ q=>q) λ_ _ q=>q
    rintro rfl
    rcases hc with rfl | hc
    · rw[hfree] at e; cases e
    · rw[hfree] at hc; cases hc
  rcases hx with hk | hk
  · refine wpAny_storeName_local hk hn (λh' hn' hs=>?_) hcls
    obtain ⟨oL,_,_,hoL,_⟩:=id hn
    refine h _ ⟨I.ok,I.os,I.bare,⟨λb o e n hb hx=>?_,λb o e n hb hx=>?_,I.base.free,λb o e hx=>?_,I.base.tups,I.base.frzs,I.base.tbls⟩,⟨_,hn',λj y v' e1 e2 e3=>?_⟩,λy c e=>?_,I.free,I.freeC,λp hp=>?_,tracked ⟨oL,hoL,I.free⟩ hs,by simpa using I.len⟩ ⟨_,hs,.inl rfl⟩
    · exact (hs.2 b (Qa (Q6 (Heap.lt_size e) I.ok.above))).trans (I.base.keep b o e n hb hx)
    · obtain ⟨sl,e1⟩:=I.base.slot b o e n hb hx
      exact ⟨sl,(hs.2 b (Qa (Q6 (Heap.lt_size e) I.ok.above))).trans e1⟩
    · obtain ⟨o',e1⟩:=I.base.there b o e hx
      exact ⟨o',(hs.2 b (Qa (Q6 (Heap.lt_size e) I.ok.above))).trans e1⟩
    · by_cases hj:j=i
      · subst hj
        rw[hi] at e1; cases e1
        rw[List.getElem?_set_self hiσ] at e2
        cases e2
        exact ⟨u,r,.inl ⟨hk,by simp⟩⟩
      · rw[List.getElem?_set_ne (Ne.symm hj)] at e2
        obtain ⟨u',r',q⟩:=hl j y v' e1 e2 e3
        refine ⟨u',r',?_⟩
        rcases q with ⟨k,e⟩ | ⟨k,c,e,z⟩
        · refine .inl ⟨k,?_⟩
          have:y≠x:=λe=>hj (Zh7 hN e1 (e ▸ hi))
          simp[this,e]
        · exact .inr ⟨k,c,e,z.sameBut hs (cne y c e)⟩
    · obtain ⟨w',z⟩:=I.cell y c e
      exact ⟨w',z.sameBut hs (cne y c e)⟩
    · obtain ⟨e,n,ne,nf,d⟩:=I.pin p hp
      exact ⟨(hs.2 p.1 ne).trans e,n,ne,nf,d⟩
  · have hfn:X.fn x=true:=by
      rcases hf with z | z
      · exact z
      · rw[z] at hk; cases hk
    obtain ⟨c,hc⟩:=I.ok.has x (.inl hk)
    obtain ⟨w',z⟩:=I.cell x c hc
    refine wpAny_storeName_cell I.ok.kind hk hc z (λh' hc' hs=>?_)
    obtain ⟨oc,hoc,hocd⟩:=id z
    refine h { s with heap:=h' } ⟨I.ok,I.os,I.bare,⟨λb o e n hb hx=>?_,λb o e n hb hx=>?_,I.base.free,λb o e hx=>?_,I.base.tups,I.base.frzs,I.base.tbls⟩,⟨m,hn.sameBut hs (Ne.symm (cne x c hc)),λj y v' e1 e2 e3=>?_⟩,λy c' e=>?_,I.free,I.freeC,λp hp=>?_,tracked ⟨oc,hoc,I.freeC x c hc⟩ hs,by simpa using I.len⟩ ⟨c,hs,.inr hc⟩
    · exact (hs.2 b (Qa (Q6 (Heap.lt_size e) (I.ok.cab x c hfn hc)))).trans (I.base.keep b o e n hb hx)
    · obtain ⟨sl,e1⟩:=I.base.slot b o e n hb hx
      exact ⟨sl,(hs.2 b (Qa (Q6 (Heap.lt_size e) (I.ok.cab x c hfn hc)))).trans e1⟩
    · obtain ⟨o',e1⟩:=I.base.there b o e hx
      exact ⟨o',(hs.2 b (Qa (Q6 (Heap.lt_size e) (I.ok.cab x c hfn hc)))).trans e1⟩
    · by_cases hj:j=i
      · subst hj
        rw[hi] at e1; cases e1
        rw[List.getElem?_set_self hiσ] at e2
        cases e2
        exact ⟨u,r,.inr ⟨.inl hk,c,hc,hc'⟩⟩
      · rw[List.getElem?_set_ne (Ne.symm hj)] at e2
        obtain ⟨u',r',q⟩:=hl j y v' e1 e2 e3
        refine ⟨u',r',?_⟩
        rcases q with q | ⟨k,c',e,z'⟩
        · exact .inl q
        · refine .inr ⟨k,c',e,z'.sameBut hs ?_⟩
          rintro rfl
          exact hj (Zh7 hN e1 (I.ok.inj _ _ _ e hc ▸ hi))
    · by_cases hcc:c'=c
      · subst hcc; exact ⟨_,hc'⟩
      · obtain ⟨w2,z2⟩:=I.cell y c' e
        exact ⟨w2,z2.sameBut hs hcc⟩
    · obtain ⟨e,n,ne,nf,d⟩:=I.pin p hp
      refine ⟨(hs.2 p.1 ?_).trans e,n,ne,nf,d⟩
      intro q
      rw[q,hoc] at e
      have q':oc=p.2:=Option.some.inj e
      exact d w' (by rw[<-q']; exact hocd)
theorem Zdp{M:Model}{A:Around}{E:Value->Shared->Prop}{i:Nat}{x:Str}{v:V}{u:Value}{Q:Unit->Shared->Prop}(I:Inv X pins σ H s)(hN:X.N.Nodup)(hi:X.N[i]?=some x)(hx:Loc X.env.scope x)(r:RelV v u)
    (h:∀s',Inv X pins (σ.set i (some v)) H s'->Q () s') (hf:X.fn x=true\/X.env.scope.names.lookup x=some .local:=by first | exact .inl rfl | exact .inr rfl | assumption):wpAny M A (storeName X.env x u) Q E s :=
  Zgp I hN hi hx r (λs' I' _=>h s' I') hf
theorem Inv.call'{s':Shared}{ch:List Addr}(I:Inv X pins σ H s)(ho:s'.os=s.os)(u:Un (frs X.stack) ch H H' s.heap s'.heap)(hok:HOk X.prog X.w H' s'.heap)(hg:AllBare s'.gens)
    (hch:∀b∈ch,(b∈X.ex\/X.s₀.heap.objs.size<=b)/\b≠X.env.locals/\(∀x c,X.env.cells.lookup x=some c->c≠b)/\∀p∈X.pn++pins,p.1≠b):Inv X pins σ H' s':=by
  obtain ⟨h',g',d',t',o'⟩:=s'
  have e:o'=s.os:=ho
  subst e
  exact I.call (g':=g') (t':=t') (d':=d') u hok hg hch
end
abbrev XK:=Value->Option Addr->Hp->Prop
abbrev St:=List (Option V)
abbrev VK:=V->Hp->Prop
abbrev TE:=St->Hp->VK->Prop
abbrev TT:=St->Hp->(Bool->Hp->Prop)->Prop
abbrev TA:=St->Hp->(List V->Hp->Prop)->Prop
structure Ends where
  nx:St->Hp->Prop
  rt:VK
  bk:St->Hp->Prop:=λ_ _=>False
  ct:St->Hp->Prop:=λ_ _=>False
abbrev TS:=Ends->St->Hp->Prop
def EP(X:Cx)(pins:List (Addr×Obj))(σ:St)(Q:VK)(u:Value)(s':Shared):Prop:=∃v H',Inv X pins σ H' s'/\RelV v u/\Q v H'
def TP(X:Cx)(pins:List (Addr×Obj))(σ:St)(Q:Bool->Hp->Prop)(b:Bool)(s':Shared):Prop:=∃H',Inv X pins σ H' s'/\Q b H'
def AP(X:Cx)(pins:List (Addr×Obj))(σ:St)(Q:List V->Hp->Prop)(us:List Value)(s':Shared):Prop:=∃vs H',Inv X pins σ H' s'/\Vals vs us/\Q vs H'
def SP(X:Cx)(pins:List (Addr×Obj))(D:Ends)(f:Flow)(s':Shared):Prop :=
  match f with
  | .next=>∃σ' H',Inv X pins σ' H' s'/\D.nx σ' H'
  | .brk=>∃σ' H',Inv X pins σ' H' s'/\D.bk σ' H'
  | .cont=>∃σ' H',Inv X pins σ' H' s'/\D.ct σ' H'
  | .ret u=>∃v σ' H',Inv X pins σ' H' s'/\RelV v u/\D.rt v H'
def PE(X:Cx)(e:Expr)(t:TE):Prop :=
  ∀(pins:List (Addr×Obj)) (s:Shared) (σ:St) (H:Hp) (Q:VK),Inv X pins σ H s->t σ H Q->wpAny (model X.prog X.w) X.A (eval e X.env) (EP X pins σ Q) X.xe s
def PT(X:Cx)(e:Expr)(t:TT):Prop :=
  ∀(pins:List (Addr×Obj)) (s:Shared) (σ:St) (H:Hp) (Q:Bool->Hp->Prop),Inv X pins σ H s->t σ H Q->wpAny (model X.prog X.w) X.A (isTrue e X.env (eval e X.env)) (TP X pins σ Q) X.xe s
def PW(X:Cx)(e:Expr)(t:TT):Prop :=
  ∀(whole:Sem Value) (pins:List (Addr×Obj)) (s:Shared) (σ:St) (H:Hp) (Q:Bool->Hp->Prop),Inv X pins σ H s->t σ H Q->wpAny (model X.prog X.w) X.A (isTrue e X.env whole) (TP X pins σ Q) X.xe s
theorem PW.pt{X:Cx}{e:Expr}{t:TT}(h:PW X e t):PT X e t:=h _
def PA(X:Cx)(es:List Expr)(t:TA):Prop :=
  ∀(pos:Pos) (pins:List (Addr×Obj)) (s:Shared) (σ:St) (H:Hp) (Q:List V->Hp->Prop),Inv X pins σ H s->t σ H Q->wpAny (model X.prog X.w) X.A (spliced (backTo pos (starEach es X.env))) (AP X pins σ Q) X.xe s
def PS(X:Cx)(st:Stmt)(t:TS):Prop :=
  ∀(pins:List (Addr×Obj)) (s:Shared) (σ:St) (H:Hp) (D:Ends),Inv X pins σ H s->t D σ H->wpAny (model X.prog X.w) X.A (exec st X.env) (SP X pins D) X.xe s
def PSs(X:Cx)(st:List Stmt)(t:TS):Prop :=
  ∀(pins:List (Addr×Obj)) (s:Shared) (σ:St) (H:Hp) (D:Ends),Inv X pins σ H s->t D σ H->wpAny (model X.prog X.w) X.A (execs st X.env) (SP X pins D) X.xe s
theorem thn{α:Type}{t:Sem α}{Q Q':α->Shared->Prop}{M:Model}{A:Around}{E:Value->Shared->Prop}{s:Shared}(h:wpAny M A t Q E s)(hQ:∀a s,Q a s->Q' a s):wpAny M A t Q' E s:=wpAny_mono h hQ λ_ _ x=>x
end L2
namespace L2
open PySem PySem.Spec PyProof.Rows
section
variable{X:Cx}
theorem bin{a b:Expr}{ta tb:TE}(ha:PE X a ta)(hb:PE X b tb){pins:List (Addr×Obj)}{s:Shared}{σ:St}{H:Hp}{R:V->V->Hp->Prop}(I:Inv X pins σ H s)(h:ta σ H λx H1=>tb σ H1 λy H2=>R x y H2)
    {α:Type} {Q:α->Shared->Prop} {f:Value->Value->Sem α}
    (hf:∀v u s2 x y H2,Inv X pins σ H2 s2->RelV x v->RelV y u->R x y H2->wpAny (model X.prog X.w) X.A (f v u) Q X.xe s2) :
    wpAny (model X.prog X.w) X.A (eval a X.env) (λv s₁=>wpAny (model X.prog X.w) X.A (eval b X.env) (λu s₂=>wpAny (model X.prog X.w) X.A (f v u) Q X.xe s₂) X.xe s₁) X.xe s:=by
  refine thn (ha pins s σ H _ I h) λv s1 ⟨x,H1,I1,r1,q1⟩=>?_
  refine thn (hb pins s1 σ H1 _ I1 q1) λu s2 ⟨y,H2,I2,r2,q2⟩=>?_
  exact hf v u s2 x y H2 I2 r1 r2 q2
inductive ZnW (i:Nat) (σ:St) (H:Hp) (Q:VK):Prop
  | mk (v:V) (_:σ[i]?=some (some v)) (_:Q v H):ZnW i σ H Q
def tC(v:V):TE:=λ_ H Q=>Q v H
theorem Zn3{i:Nat}{x:Str}{pos:Pos}(hN:X.N[i]?=some x)(hv:Vis X.env.scope x)(hd:(x==("__debug__" : Str))=false:=by decide) (hcd:(x==("__classdict__" : Str))=false:=by decide):PE X (.Name x pos) (ZnW i):=by
  intro pins s σ H Q I h
  obtain ⟨v,e,h⟩:=h
  obtain ⟨m,hn,hl⟩:=I.loc
  obtain ⟨u,r,l⟩:=hl i x v hN e hv
  have fin:EP X pins σ Q u s:=⟨v,H,I,r,h⟩
  rcases l with ⟨hk,hm⟩ | ⟨hk,c,hc,hcell⟩
  · exact wpAny_Name (wpAny_loadName_local I.ok.kind hk hn hm fin) hd
  · rcases hk with hk | hk
    · exact wpAny_Name (wpAny_loadName_cell I.ok.kind hk hc hcell fin) hd
    · exact wpAny_Name (wpAny_loadName_free I.ok.kind hk hc hcell fin hcd) hd
theorem Zac{i j pos}:PE X (.Constant (.int i) j pos) (tC (.int i)):=λ_ _ _ H _ I h=>wpAny_Constant_int ⟨.int i,H,I.tok _,⟨_,rfl⟩,h⟩
theorem Zgq{b j pos}:PE X (.Constant (.bool b) j pos) (tC (.bl b)):=λ_ _ _ H _ I h=>Constant_bool ⟨.bl b,H,I,rfl,h⟩
theorem ZaW{x j pos}:PE X (.Constant (.str x) j pos) (tC (.str x)):=λ_ _ _ H _ I h=>Calls.Constant_str ⟨.str x,H,I.tok _,⟨_,rfl⟩,h⟩
def Gl(X:Cx)(x:Str):Prop:=X.env.kindOf x=some .globalImplicit
theorem ZdI{E:Value->Shared->Prop}{pins:List (Addr×Obj)}{s:Shared}{σ:St}{H:Hp}{x:Str}{u:Value}{pos:Pos}{Q:Value->Shared->Prop}(I:Inv X pins σ H s)(hg:Gl X x)(hm:X.mg x=some u)(h:Q u s)
    (hd:(x==("__debug__" : Str))=false:=by decide):wpAny (model X.prog X.w) X.A (eval (.Name x pos) X.env) Q E s :=
  Calls.Name_function_global I.ok.kind hg (Calls.loadGlobal_global (by rw[I.ok.glob]; exact I.mod.glob.keeps I.bk) hm h) hd
theorem Zc0{E:Value->Shared->Prop}{pins:List (Addr×Obj)}{s:Shared}{σ:St}{H:Hp}{x:Str}{u:Value}{pos:Pos}{Q:Value->Shared->Prop}(I:Inv X pins σ H s)(hg:Gl X x)(hm:X.mg x=none)(hv:bootBuiltins x=some u)(h:Q u s)
    (hn:x ≠ "__name__" := by decide) (hd:(x==("__debug__" : Str))=false:=by decide):wpAny (model X.prog X.w) X.A (eval (.Name x pos) X.env) Q E s:=by
  obtain ⟨mb,h1,h2⟩:=I.mod.blt
  exact Calls.Name_function_global I.ok.kind hg (Calls.loadGlobal_builtin (by rw[I.ok.glob]; exact I.mod.glob.keeps I.bk) hm (by rw[I.ok.blt]; exact h1.keeps I.bk) ((h2 x hn).trans hv) h) hd
theorem ZmO{x:Str}{v:V}{u:Value}{pos:Pos}(hg:Gl X x)(hm:X.mg x=some u)(r:RelV v u)(hd:(x==("__debug__" : Str))=false:=by decide):PE X (.Name x pos) (tC v) :=
  λ_ _ _ H _ I h=>ZdI I hg hm ⟨v,H,I,r,h⟩ hd
theorem ZmP{x:Str}{v:V}{u:Value}{pos:Pos}(hg:Gl X x)(hm:X.mg x=none)(hv:bootBuiltins x=some u)(r:RelV v u)(hn:x ≠ "__name__" := by decide) (hd:(x==("__debug__" : Str))=false:=by decide):PE X (.Name x pos) (tC v) :=
  λ_ _ _ H _ I h=>Zc0 I hg hm hv ⟨v,H,I,r,h⟩ hn hd
variable{a b:Expr}{ta tb:TE}{pos:Pos}
def PC(X:Cx)(op:CmpOp)(a b:Expr)(t:TE):Prop :=
  ∀(pins:List (Addr×Obj)) (s:Shared) (σ:St) (H:Hp) (Q:VK),Inv X pins σ H s->t σ H Q →
    wpAny (model X.prog X.w) X.A (eval a X.env) (λv s₁=>wpAny (model X.prog X.w) X.A (eval b X.env) (λu s₂=>wpAny (model X.prog X.w) X.A (compareOp op v u) (EP X pins σ Q) X.xe s₂) X.xe s₁) X.xe s
theorem Zld(b:Expr){op:CmpOp}(h:op ≠ .In)(h2:op ≠ .NotIn):behindInMarks op b=false:=by
  have e1:(op==CmpOp.In)=false:=by cases op <;> first | rfl | exact absurd rfl h
  have e2:(op==CmpOp.NotIn)=false:=by cases op <;> first | rfl | exact absurd rfl h2
  cases b <;> simp[behindInMarks,e1,e2]
def tB(t:TE):TT:=λσ H Q=>t σ H λx H1=>∃c,x = .bl c/\Q c H1
theorem ZpM{op:CmpOp}{t:TE}(h:PC X op a b t)(h1:behindInMarks op b=false:=by first | exact Zld _ (by decide) (by decide) | rfl):PT X (.Compare a [op] [b] pos) (tB t):=by
  intro pins s σ H Q I hw
  refine wpAny_isTrue_Compare1 (thn (h pins s σ H _ I hw) λv s1 h1=>thn h1 λu s2 h2=>thn h2 λc s3 ⟨x,H1,I1,r1,q1⟩=>?_) h1
  obtain ⟨d,rfl,q⟩:=q1
  cases r1
  exact wpAny_truthy_bool ⟨H1,I1,q⟩
theorem Zdq{e:Expr}{t:TE}(h:PE X e t)(he:∀whole,isTrue e X.env whole=(do let v ← whole; standAt e.pos; holding [v] (truthy v)):=by intro _; rfl):PT X e (tB t):=by
  intro pins s σ H Q I hw
  refine isTrue_plain (thn (h pins s σ H _ I hw) λv s1 ⟨x,H1,I1,r1,q1⟩=>?_) (he _)
  obtain ⟨d,rfl,q⟩:=q1
  cases r1
  exact wpAny_truthy_bool ⟨H1,I1,q⟩
variable{tA tB':TT}{rest:List Expr}
def tOr(t u:TT):TT:=λσ H Q=>t σ H λc H1=>if c=true then Q true H1 else u σ H1 Q
def Zp5(t:TT):TT:=λσ H Q=>t σ H λc H1=>Q (!c) H1
theorem Zgr(ha:PT X a tA):PW X (.BoolOp .Or [a] pos) tA:=by
  intro wh pins s σ H Q I h
  refine isTrue_or (thn (ha pins s σ H Q I h) λc s1 e=>?_)
  cases c with
  | false=>exact isTrue_or_nil e
  | true=>exact e
theorem Zjn(ha:PT X a tA)(hb:PW X (.BoolOp .Or (b::rest) pos) tB'):PW X (.BoolOp .Or (a::b::rest) pos) (tOr tA tB'):=by
  intro wh pins s σ H Q I h
  refine isTrue_or (thn (ha pins s σ H _ I h) λc s1 ⟨H1,I1,q1⟩=>?_)
  cases c with
  | true=>exact ⟨H1,I1,q1⟩
  | false=>exact hb wh pins s1 σ H1 Q I1 q1
theorem Zdr(ha:PT X a tA):PT X (.UnaryOp .Not a pos) (Zp5 tA):=by
  intro pins s σ H Q I h
  exact isTrue_not (ha pins s σ H (λc H1=>Q (!c) H1) I h)
def Zo9(ta tb:TE):TE:=λσ H Q=>ta σ H λx H1=>∃c,x = .bl c/\if c=true then tb σ H1 Q else Q (.bl false) H1
def Zpa(ta:TE):TE:=λσ H Q=>ta σ H λx H1=>∃c,x = .bl c/\Q (.bl (!c)) H1
theorem Zgs{op}{t:TE}(h:PE X a t):PE X (.BoolOp op [a] pos) t:=λpins s σ H Q I hw=>BoolOp_one (h pins s σ H Q I hw)
theorem Zfp(ha:PE X a ta)(hb:PE X (.BoolOp .And (b::rest) pos) tb):PE X (.BoolOp .And (a::b::rest) pos) (Zo9 ta tb):=by
  intro pins s σ H Q I h
  refine BoolOp_and (thn (ha pins s σ H _ I h) λv s1 ⟨x,H1,I1,r1,q1⟩=>?_)
  obtain ⟨c,rfl,q1⟩:=q1
  cases r1
  refine wpAny_truthy_bool ?_
  cases c with
  | true=>exact hb pins s1 σ H1 Q I1 q1
  | false=>exact ⟨.bl false,H1,I1,rfl,q1⟩
theorem Zmj(ha:PE X a ta):PE X (.UnaryOp .Not a pos) (Zpa ta):=by
  intro pins s σ H Q I h
  refine UnaryOp_ (thn (ha pins s σ H _ I h) λv s1 ⟨x,H1,I1,r1,q1⟩=>?_)
  obtain ⟨c,rfl,q1⟩:=q1
  cases r1
  exact not_of (wpAny_truthy_bool ⟨.bl (!c),H1,I1,rfl,q1⟩)
def tIf(t:TT)(ta tb:TE):TE:=λσ H Q=>t σ H λc H1=>if c=true then ta σ H1 Q else tb σ H1 Q
theorem Zh8{c:Expr}(hc:PT X c tA)(ha:PE X a ta)(hb:PE X b tb):PE X (.IfExp c a b pos) (tIf tA ta tb):=by
  intro pins s σ H Q I h
  refine wpAny_IfExp (thn (hc pins s σ H _ I h) λd s1 ⟨H1,I1,q1⟩=>?_)
  cases d with
  | true=>exact ha pins s1 σ H1 Q I1 q1
  | false=>exact hb pins s1 σ H1 Q I1 q1
end
end L2
namespace L2
open PySem PySem.Spec PyProof.Rows
def SqL(K:PySem.W.Frag)(H:Hp)(a:Addr)(xs:List V):Prop :=
  Rd H a (.lst xs) ∨
    ∃(o:Obj) (its:Array Value) (n:Nat),K.lookup a=some o/\o.cls = .type "list" /\ o.dict=none/\o.data = .seq its n/\its.size<=sizeLine/\Vals xs its.toList
def SqT(K:PySem.W.Frag)(H:Hp)(a:Addr)(xs:List V):Prop :=
  Rd H a (.tup xs) ∨
    ∃(o:Obj) (its:Array Value) (n:Nat),K.lookup a=some o/\o.cls = .type "tuple" /\ o.data = .seq its n/\its.size<=sizeLine/\Vals xs its.toList
def Zp6:Value->Option V
  | .none=>some .non
  | .bool b=>some (.bl b)
  | .int i _=>some (.int i)
  | .str x _=>some (.str x)
  | .bytes b _=>some (.byt b)
  | .float b _=>some (.flt b)
  | .ref a=>some (.ref a)
  | .type n=>some (.ty n)
  | _=>none
theorem RelV.abs{x:V}{u:Value}(r:RelV x u):Zp6 u=some x:=by
  cases x with
  | non=>cases r; rfl
  | bl _=>cases r; rfl
  | int _=>obtain ⟨t,rfl⟩:=r; rfl
  | str _=>obtain ⟨t,rfl⟩:=r; rfl
  | byt _=>obtain ⟨t,rfl⟩:=r; rfl
  | flt _=>obtain ⟨t,rfl⟩:=r; rfl
  | ref _=>cases r; rfl
  | ty _=>cases r; rfl
theorem RelV.inj{x y:V}{u:Value}(r:RelV x u)(q:RelV y u):x=y:=Option.some.inj (r.abs.symm.trans q.abs)
theorem Vals.inj:∀ {xs ys:List V} {us:List Value},Vals xs us->Vals ys us->xs=ys
  | _,_,_,.nil,.nil=>rfl
  | _,_,_,.cons r t,.cons r' t'=>by rw[r.inj r',Vals.inj t t']
section
variable{X:Cx}{pins:List (Addr×Obj)}{σ:St}{H:Hp}{s:Shared}{a:Addr}{xs ys:List V}
theorem SqL.of{K:PySem.W.Frag}(h:H a=some (.lst xs)):SqL K H a xs:=.inl (.inl h)
theorem SqT.of{K:PySem.W.Frag}(h:H a=some (.tup xs)):SqT K H a xs:=.inl (.inl h)
theorem Inv.list(I:Inv X pins σ H s)(h:SqL X.K H a xs):∃its:List Value,Vals xs its/\PlainL s.heap a its.toArray/\xs.length<=sizeLine:=by
  rcases h with h | ⟨o,its,n,hk,hc,hd,hs,hz,r⟩
  · obtain ⟨z,its,n,r,e⟩:=h.ok I.hok
    exact ⟨its,r,⟨_,n,e,rfl,rfl,rfl⟩,z⟩
  · refine ⟨its.toList,r,⟨o,n,I.kIn a o hk,hc,hd,by simpa using hs⟩,?_⟩
    have e:=r.length
    simp only[Uv] at e
    omega
theorem Inv.tuple(I:Inv X pins σ H s)(h:SqT X.K H a xs):∃its:List Value,Vals xs its/\IsTup s.heap a its.toArray/\xs.length<=sizeLine:=by
  rcases h with h | ⟨o,its,n,hk,hc,hs,hz,r⟩
  · obtain ⟨z,its,r,p⟩:=h.ok I.hok
    exact ⟨its,r,p,z⟩
  · refine ⟨its.toList,r,⟨o,I.kIn a o hk,hc,n,by simpa using hs⟩,?_⟩
    have e:=r.length
    simp only[Uv] at e
    omega
theorem Inv.list_inj(I:Inv X pins σ H s)(h:SqL X.K H a xs)(h':SqL X.K H a ys):xs=ys:=by
  obtain ⟨its,r,⟨o,n,e,_,_,d⟩,_⟩:=I.list h
  obtain ⟨its',r',⟨o',n',e',_,_,d'⟩,_⟩:=I.list h'
  rw[e] at e'; cases e'
  rw[d] at d'
  injection d' with d1 _
  have:its=its':=by simpa using congrArg Array.toList d1
  subst this
  exact r.inj r'
theorem Inv.tuple_inj(I:Inv X pins σ H s)(h:SqT X.K H a xs)(h':SqT X.K H a ys):xs=ys:=by
  obtain ⟨its,r,⟨o,e,_,n,d⟩,_⟩:=I.tuple h
  obtain ⟨its',r',⟨o',e',_,n',d'⟩,_⟩:=I.tuple h'
  rw[e] at e'; cases e'
  rw[d] at d'
  injection d' with d1 _
  have:its=its':=by simpa using congrArg Array.toList d1
  subst this
  exact r.inj r'
end
abbrev Cx.wish(X:Cx)(E:Value->Shared->Prop):Cx:={ X with xe:=E }
abbrev Cx.nox(X:Cx):Cx:=X.wish λ_ _=>False
theorem Cx.Ok.wish{X:Cx}(ok:X.Ok)(E:Value->Shared->Prop):(X.wish E).Ok :=
  ⟨ok.mod,ok.kind,ok.glob,ok.blt,ok.above,ok.inj,ok.has,ok.cab,ok.hd,ok.frames,ok.stk,ok.exf,ok.bs,ok.bsz,ok.noex,ok.exfs,ok.funs,ok.frf⟩
theorem Cx.Ok.unwish{X:Cx}{E:Value->Shared->Prop}(ok:(X.wish E).Ok):X.Ok :=
  ⟨ok.mod,ok.kind,ok.glob,ok.blt,ok.above,ok.inj,ok.has,ok.cab,ok.hd,ok.frames,ok.stk,ok.exf,ok.bs,ok.bsz,ok.noex,ok.exfs,ok.funs,ok.frf⟩
section
variable{X:Cx}{pins:List (Addr×Obj)}{σ:St}{H:Hp}{s:Shared}{E:Value->Shared->Prop}
theorem Inv.wish(I:Inv X pins σ H s)(E:Value->Shared->Prop):Inv (X.wish E) pins σ H s:=⟨I.ok.wish E,I.os,I.bare,I.base,I.loc,I.cell,I.free,I.freeC,I.pin,I.hok,I.len⟩
theorem Inv.unwish(I:Inv (X.wish E) pins σ H s):Inv X pins σ H s:=⟨I.ok.unwish,I.os,I.bare,I.base,I.loc,I.cell,I.free,I.freeC,I.pin,I.hok,I.len⟩
theorem SP.unwish{D:Ends}{f:Flow}{s':Shared}(h:SP (X.wish E) pins D f s'):SP X pins D f s':=by
  cases f with
  | next=>obtain ⟨σ',H',I,q⟩:=h; exact ⟨σ',H',I.unwish,q⟩
  | brk=>obtain ⟨σ',H',I,q⟩:=h; exact ⟨σ',H',I.unwish,q⟩
  | cont=>obtain ⟨σ',H',I,q⟩:=h; exact ⟨σ',H',I.unwish,q⟩
  | ret u=>obtain ⟨v,σ',H',I,r,q⟩:=h; exact ⟨v,σ',H',I.unwish,r,q⟩
theorem PSs.nox{st:List Stmt}{t:TS}(h:PSs X.nox st t):PSs X st t:=λpins s σ H D I hw =>
  wpAny_mono (h pins s σ H D (I.wish _) hw) (λ_ _ q=>q.unwish) λ_ _ z=>False.elim z
end
section
variable{X:Cx}{st:Stmt}{rest:List Stmt}{t u:TS}{e:Expr}{te:TE}{pos:Pos}
def Zpb:TS:=λD σ H=>D.nx σ H
def ZnX(t u:TS):TS:=λD σ H=>t { D with nx:=u D } σ H
theorem Zav:PSs X [] Zpb:=λ_ _ σ H _ I h=>wpAny_execs_nil ⟨σ,H,I,h⟩
theorem Zab(h1:PS X st t)(h2:PSs X rest u):PSs X (st::rest) (ZnX t u):=by
  intro pins s σ H D I h
  refine wpAny_execs_cons (thn (h1 pins s σ H { D with nx:=u D } I h) λf s1 q=>?_)
  cases f with
  | next =>
    obtain ⟨σ',H',I',q⟩:=q
    exact h2 pins s1 σ' H' D I' q
  | ret v=>exact q
  | brk=>exact q
  | cont=>exact q
theorem Zaf(h1:PS X st t):PSs X [st] t:=by
  intro pins s σ H D I h
  refine wpAny_execs_cons (thn (h1 pins s σ H D I h) λf s1 q=>?_)
  cases f with
  | next=>exact wpAny_execs_nil q
  | ret v=>exact q
  | brk=>exact q
  | cont=>exact q
theorem Inv.quiet{pins:List (Addr×Obj)}{σ:St}{H:Hp}{s:Shared}(I:Inv X pins σ H s):interactive X.env=false:=by simp[interactive,I.ok.kind]
def Zpc(te:TE):TS:=λD σ H=>te σ H λ_ H1=>D.nx σ H1
theorem ZaO(he:PE X e te)(hs:swapsWith e none pos.line X.env=pure false:=by rfl):PS X (.Expr e pos) (Zpc te):=by
  intro pins s σ H D I h
  exact wpAny_Expr_any (thn (he pins s σ H _ I h) λv s1 ⟨x,H1,I1,r1,q1⟩=>⟨σ,H1,I1,q1⟩) I.quiet hs
def Zp7(te:TE):TS:=λD σ H=>te σ H D.rt
theorem Zam(he:PE X e te):PS X (.Return (some e) pos) (Zp7 te):=by
  intro pins s σ H D I h
  exact wpAny_Return_some (thn (he pins s σ H _ I h) λv s1 ⟨x,H1,I1,r1,q1⟩=>⟨x,σ,H1,I1,r1,q1⟩)
def Zp8(c:TT)(t u:TS):TS:=λD σ H=>c σ H λb H1=>if b=true then t D σ H1 else u D σ H1
theorem ZaF{c:Expr}{a b:List Stmt}{tc:TT}(hc:PT X c tc)(ha:PSs X a t)(hb:PSs X b u):PS X (.If c a b pos) (Zp8 tc t u):=by
  intro pins s σ H D I h
  refine wpAny_If (thn (hc pins s σ H _ I h) λd s1 ⟨H1,I1,q1⟩=>?_)
  cases d with
  | true=>exact ha pins s1 σ H1 D I1 q1
  | false=>exact hb pins s1 σ H1 D I1 q1
def Zn4:TS:=λ_ _ _=>False
theorem Zle:PS X st Zn4:=λ_ _ _ _ _ _ h=>h.elim
end
abbrev TG:=V->St->Hp->(St->Hp->Prop)->Prop
abbrev TGs:=List V->St->Hp->(St->Hp->Prop)->Prop
def PG(X:Cx)(target:Expr)(t:TG):Prop :=
  ∀(pins:List (Addr×Obj)) (s:Shared) (σ:St) (H:Hp) (v:V) (u:Value) (Q:St->Hp->Prop),Inv X pins σ H s->RelV v u->t v σ H Q →
    wpAny (model X.prog X.w) X.A (assign target X.env u) (λ_ s'=>∃σ' H',Inv X pins σ' H' s'/\Q σ' H') X.xe s
def PGs(X:Cx)(ts:List Expr)(t:TGs):Prop :=
  ∀(pins:List (Addr×Obj)) (s:Shared) (σ:St) (H:Hp) (vs:List V) (us:List Value) (Q:St->Hp->Prop),Inv X pins σ H s->Vals vs us->t vs σ H Q →
    wpAny (model X.prog X.w) X.A (assignInOrder ((assignEach ts X.env).map (·.2)) us) (λ_ s'=>∃σ' H',Inv X pins σ' H' s'/\Q σ' H') X.xe s
abbrev Zpd:=V->V->V->Hp->(Hp->Prop)->Prop
def ZpN(X:Cx)(t:Zpd):Prop :=
  ∀(pins:List (Addr×Obj)) (s:Shared) (σ:St) (H:Hp) (o i v:V) (ov iv u:Value) (Q:Hp->Prop),Inv X pins σ H s->RelV o ov->RelV i iv->RelV v u->t o i v H Q →
    wpAny (model X.prog X.w) X.A (setItem ov iv u) (λ_ s'=>∃H',Inv X pins σ H' s'/\Q H') X.xe s
abbrev TIp:=V->V->Hp->VK->Prop
def PIp(X:Cx)(op:Operator)(t:TIp):Prop :=
  ∀(pins:List (Addr×Obj)) (s:Shared) (σ:St) (H:Hp) (x y:V) (v u:Value) (Q:VK),Inv X pins σ H s->RelV x v->RelV y u->t x y H Q →
    wpAny (model X.prog X.w) X.A (inplaceOp op v u) (EP X pins σ Q) X.xe s
section
variable{X:Cx}{pos:Pos}
def Zb6(i:Nat):TG:=λv σ H Q=>Q (σ.set i (some v)) H
theorem Zat{i:Nat}{x:Str}(hN:X.N.Nodup)(hi:X.N[i]?=some x)(hx:Loc X.env.scope x)(hf:X.fn x=true\/X.env.scope.names.lookup x=some .local:=by first | exact .inl rfl | exact .inr rfl | assumption):PG X (.Name x pos) (Zb6 i):=by
  intro pins s σ H v u Q I r h
  exact wpAny_assign_Name (Zdp I hN hi hx r (λs' I'=>⟨_,H,I',h⟩) hf)
def Zpe:TGs:=λvs σ H Q=>vs=[]/\Q σ H
def Zjo(t:TG)(u:TGs):TGs:=λvs σ H Q=>∃v r,vs=v::r/\t v σ H λσ' H'=>u r σ' H' Q
theorem Zc4:PGs X [] Zpe:=by
  intro pins s σ H vs us Q I r h
  obtain ⟨e,h⟩:=h
  subst e
  cases r
  exact assignInOrder_nil ⟨σ,H,I,h⟩
theorem ZaX{e:Expr}{es:List Expr}{t:TG}{u:TGs}(h1:PG X e t)(h2:PGs X es u)
    (hs:(assignEach (e::es) X.env).map (·.2)=assign e X.env::(assignEach es X.env).map (·.2):=by rfl):PGs X (e::es) (Zjo t u):=by
  intro pins s σ H vs us Q I r h
  obtain ⟨v,vr,e1,h⟩:=h
  subst e1
  cases r with
  | cons r rr =>
    rw[hs]
    refine assignInOrder_cons (thn (h1 pins s σ H _ _ _ I r h) λ_ s1 ⟨σ1,H1,I1,q1⟩=>?_)
    exact h2 pins s1 σ1 H1 _ _ Q I1 rr q1
def Zo3(K:PySem.W.Frag)(n:Nat)(t:TGs):TG:=λv σ H Q=>∃a xs,v = .ref a/\SqT K H a xs/\xs.length=n/\t xs σ H Q
theorem Zh9{es:List Expr}{k:Nat}{t:TGs}{n:Nat}(hc:X.calm=true)(h:PGs X es t)
    (hn:(assignEach es X.env).length=n:=by rfl) (hst:(assignEach es X.env).findIdx? (·.1)=none:=by rfl):PG X (.Tuple es k pos) (Zo3 X.K n t):=by
  intro pins s σ H v u Q I r hw
  obtain ⟨a,xs,e1,hq,hl,hw⟩:=hw
  subst e1
  cases r
  obtain ⟨its,rv,ht,hz⟩:=I.tuple hq
  refine assign_Tuple_tuple (I.ok.hd hc) ht (by simp[hn,<-hl,rv.length]) hst λh' hx=>?_
  have I1:Inv X pins σ H { s with heap:=h' }:=I.kept (t':=s.toks) λb o e=>hx b o (Qa (Heap.lt_size e)) e
  exact h pins _ σ H xs _ Q I1 (by simpa using rv) hw
def Zp9(to ti:TE)(t:Zpd):TG:=λv σ H Q=>to σ H λo H1=>ti σ H1 λi H2=>t o i v H2 λH3=>Q σ H3
theorem Zcp{o i:Expr}{to ti:TE}{t:Zpd}(ho:PE X o to)(hi:PE X i ti)(hs:ZpN X t)
    (ha:∀v,assign (.Subscript o i pos) X.env v=(do
      let ov ← holding [v] (eval o X.env)
      let iv ← holding [v,ov] (eval i X.env)
      standAt pos
      holding [v,ov,iv] (setItem ov iv v)
      release [v,ov,iv] []):=by intro _; rfl):PG X (.Subscript o i pos) (Zp9 to ti t):=by
  intro pins s σ H v u Q I r h
  rw[ha]
  refine wpAny_bind (wpAny_holding (thn (ho pins s σ H _ I h) λov s1 ⟨x,H1,I1,r1,q1⟩=>?_))
  refine wpAny_bind (wpAny_holding (thn (hi pins s1 σ H1 _ I1 q1) λiv s2 ⟨y,H2,I2,r2,q2⟩=>?_))
  refine wpAny_bind (wpAny_standAt (wpAny_bind (wpAny_holding (thn (hs pins s2 σ H2 x y v ov iv u _ I2 r1 r2 r q2) λ_ s3 ⟨H3,I3,q3⟩=>?_))))
  exact wpAny_release ⟨σ,H3,I3,q3⟩
def Zpf(te:TE)(g:TG):TS:=λD σ H=>te σ H λx H1=>g x σ H1 D.nx
theorem Zcq{tg e:Expr}{te:TE}{g:TG}(he:PE X e te)(hg:PG X tg g)(hs:swapsWithSole [tg] e pos.line X.env=pure false:=by rfl)(hw:swappedStores [tg] e X.env=pure none:=by rfl)
    (h1:(assignEach [tg] X.env).map (·.2)=[assign tg X.env]:=by rfl):PS X (.Assign [tg] e pos) (Zpf te g):=by
  intro pins s σ H D I h
  refine wpAny_Assign_stores (thn (he pins s σ H _ I h) λv s1 ⟨x,H1,I1,r1,q1⟩=>?_) hs hw
  rw[h1]
  exact thn (hg pins s1 σ H1 x v _ I1 r1 q1) λ_ s2 q=>q
theorem Zaj{i:Nat}{x:Str}{e:Expr}{te:TE}{pos':Pos}(hN:X.N.Nodup)(hi:X.N[i]?=some x)(hx:Loc X.env.scope x)(he:PE X e te)(hs:swapsWith e (some (.Name x pos')) pos.line X.env=pure false:=by rfl)(hf:X.fn x=true\/X.env.scope.names.lookup x=some .local:=by first | exact .inl rfl | exact .inr rfl | assumption) :
    PS X (.Assign [.Name x pos'] e pos) (Zpf te (Zb6 i)):=by
  intro pins s σ H D I h
  refine wpAny_Assign_Name (thn (he pins s σ H _ I h) λv s1 ⟨y,H1,I1,r1,q1⟩=>?_) hs
  exact Zdp I1 hN hi hx r1 (λs2 I2=>⟨_,H1,I2,q1⟩) hf
def Zqa(i j:Nat)(ta:TA):TS:=λD σ H=>ta σ H λvs H1=>∃v w,vs=[v,w]/\D.nx ((σ.set i (some v)).set j (some w)) H1
theorem Zn5{i j:Nat}{x y:Str}{a b:Expr}{ta:TA}{px py pt:Pos}{kt k2 pt2}(hc:X.calm=true)(hN:X.N.Nodup)(hi:X.N[i]?=some x)(hj:X.N[j]?=some y)(hij:i≠j)
    (hx:X.env.scope.names.lookup x=some .local) (hy:X.env.scope.names.lookup y=some .local) (ha:PA X [a,b] ta)
    (hw:swappedStores [.Tuple [.Name x px,.Name y py] kt pt] (.Tuple [a,b] k2 pt2) X.env=pure (some [x,y]))
    (hs:swapsWithSole [.Tuple [.Name x px,.Name y py] kt pt] (.Tuple [a,b] k2 pt2) pos.line X.env=pure false:=by rfl) :
    PS X (.Assign [.Tuple [.Name x px,.Name y py] kt pt] (.Tuple [a,b] k2 pt2) pos) (Zqa i j ta):=by
  intro pins s σ H D I h
  rw[exec_Assign_arm]
  refine wpAny_bind (wpAny_standAt ?_)
  rw[hs]
  refine wpAny_bind (wpAny_pure ?_)
  rw[if_neg (by decide)]
  refine wpAny_bind (Tuple_ (thn (ha _ pins s σ H _ I h) λus s1 ⟨vs,H1,I1,r1,q1⟩=>?_))
  obtain ⟨v,w,e1,q1⟩:=q1
  subst e1
  obtain ⟨u1,u2,rfl,rv,rw'⟩:∃u1 u2,us=[u1,u2]/\RelV v u1/\RelV w u2:=by
    cases r1 with
    | cons p q =>
      cases q with
      | cons p' q' =>
        cases q'
        exact ⟨_,_,rfl,p,p'⟩
  refine wpAny_newObj_type ?_ (by show 2<=sizeLine; decide)
  have I2:Inv X pins σ H1 { s1 with heap:=s1.heap.push { cls:=.type "tuple", data:=.seq [u1,u2].toArray } }:=I1.kept (t':=s1.toks) λb o e=>Heap.get?_push_of_some _ e
  rw[hw]
  refine wpAny_bind (wpAny_pure ?_)
  show wpAny (model X.prog X.w) X.A (do rule "assign.swapped-stores"; let items ← unpackItems (.ref s1.heap.objs.size) 2 none; assignInOrder [λv=>bindName X.env y v,λv=>bindName X.env x v] items.reverse; pure Flow.next) _ _ _
  refine wpAny_bind (wpAny_rule (wpAny_bind (unpackItems_tuple (items:=#[u1,u2]) (I.ok.hd hc) (IsTup.new s1.heap _) λh' hx'=>?_)))
  have I3:=I2.kept (h':=h') (t':=s1.toks) λb o e=>hx' b o (Qa (Heap.lt_size e)) e
  show wpAny _ _ (assignInOrder [λv=>bindName X.env y v,λv=>bindName X.env x v] [u2,u1] >>= λ_=>pure Flow.next) _ _ _
  refine wpAny_bind (assignInOrder_cons (wpAny_bindName (Zdp I3 hN hj (.inl hy) rw' (λs2 I4=>?_) (.inr hy))))
  refine assignInOrder_cons (wpAny_bindName (Zdp I4 hN hi (.inl hx) rv (λs3 I5=>assignInOrder_nil (wpAny_pure ?_)) (.inr hx)))
  rw[List.set_comm _ _ (Ne.symm hij)] at I5
  exact ⟨_,H1,I5,q1⟩
def Zqb(i:Nat)(te:TE)(ti:TIp):TS:=λD σ H=>∃x,σ[i]?=some (some x)/\te σ H λy H1=>ti x y H1 λz H2=>D.nx (σ.set i (some z)) H2
theorem Zjp{i:Nat}{x:Str}{e:Expr}{te:TE}{op:Operator}{ti:TIp}{pos':Pos}(hN:X.N.Nodup)(hi:X.N[i]?=some x)(hx:Loc X.env.scope x)(he:PE X e te)(ho:PIp X op ti)(hf:X.fn x=true\/X.env.scope.names.lookup x=some .local:=by first | exact .inl rfl | exact .inr rfl | assumption) :
    PS X (.AugAssign (.Name x pos') op e pos) (Zqb i te ti):=by
  intro pins s σ H D I h
  obtain ⟨v,e1,h⟩:=h
  obtain ⟨m,hn,hl⟩:=I.loc
  have vis:Vis X.env.scope x:=by rcases hx with k | k; exact .inl k; exact .inr (.inl k)
  obtain ⟨u,r,l⟩:=hl i x v hi e1 vis
  refine wpAny_AugAssign_Name ?_
  have go:wpAny (model X.prog X.w) X.A (eval e X.env) (λw s₂=>wpAny (model X.prog X.w) X.A (inplaceOp op u w) (λr s₃=>wpAny (model X.prog X.w) X.A (storeName X.env x r) (λ_=>SP X pins D .next) X.xe s₃) X.xe s₂) X.xe s:=by
    refine thn (he pins s σ H _ I h) λw s1 ⟨y,H1,I1,r1,q1⟩=>?_
    refine thn (ho pins s1 σ H1 v y u w _ I1 r r1 q1) λz s2 ⟨zv,H2,I2,r2,q2⟩=>?_
    exact Zdp I2 hN hi hx r2 (λs3 I3=>⟨_,H2,I3,q2⟩) hf
  rcases l with ⟨hk,hm⟩ | ⟨hk,c,hc,hcell⟩
  · exact wpAny_loadName_local I.ok.kind hk hn hm go
  · rcases hk with hk | hk
    · exact wpAny_loadName_cell I.ok.kind hk hc hcell go
    · rcases hx with k | k
      · have:X.env.scope.names.lookup x=some .free:=hk
        rw[k] at this; cases this
      · have:X.env.scope.names.lookup x=some .free:=hk
        rw[k] at this; cases this
def ipI(f:Int->Int->Int):TIp:=λx y H Q=>∃i j,x = .int i/\y = .int j/\Q (.int (f i j)) H
theorem Zmk:PIp X .Add (ipI λi j=>i+j):=by
  intro pins s σ H x y v u Q I r1 r2 h
  obtain ⟨i,j,e1,e2,q⟩:=h
  subst e1; subst e2
  obtain ⟨t,rfl⟩:=r1
  obtain ⟨t',rfl⟩:=r2
  exact iadd_int ⟨.int _,H,I.tok _,⟨_,rfl⟩,q⟩
end
section
variable{X:Cx}{pos:Pos}
def Zn6(c:TT)(tb:TS):TS:=λD σ H=>∃W:Nat->St->Hp->Prop,(∃m,W m σ H)/\∀m σ H,W m σ H →
  c σ H λb H1=>if b=true then ∃N:St->Hp->Prop,(∀σ' H',N σ' H'->∃m',m'<m/\W m' σ' H')/\tb { D with nx:=N,ct:=N,bk:=D.nx } σ H1 else D.nx σ H1
theorem ZcN{c:Expr}{body:List Stmt}{tc:TT}{tb:TS}(hp:PassesOwn (model X.prog X.w) X.A X.env X.xe)(hc:PT X c tc)(hb:PSs X body tb):PS X (.While c body [] pos) (Zn6 tc tb):=by
  intro pins s σ H D I h
  obtain ⟨W,⟨m0,w0⟩,turn⟩:=h
  refine wpAny_While (codeAny_whileLoop (λn s'=>∃σ' H',Inv X pins σ' H' s'/\W n σ' H') ?_ m0 ⟨σ,H,I,w0⟩)
  rintro n s1 ⟨σ1,H1,I1,w1⟩
  refine wpAny_passesOwn hp (thn (hc pins s1 σ1 H1 _ I1 (turn n σ1 H1 w1)) λb s2 ⟨H2,I2,q2⟩=>?_)
  cases b with
  | true =>
    obtain ⟨N,hN,q2⟩:=q2
    rw[if_pos rfl]
    refine wpAny_passesOwn hp (thn (hb pins s2 σ1 H2 _ I2 q2) λf s3 q3=>?_)
    cases f with
    | next =>
      obtain ⟨σ3,H3,I3,n3⟩:=q3
      obtain ⟨m',hm,w3⟩:=hN σ3 H3 n3
      exact ⟨m',hm,σ3,H3,I3,w3⟩
    | cont =>
      obtain ⟨σ3,H3,I3,n3⟩:=q3
      obtain ⟨m',hm,w3⟩:=hN σ3 H3 n3
      exact ⟨m',hm,σ3,H3,I3,w3⟩
    | brk=>exact q3
    | ret v=>exact q3
  | false =>
    rw[if_neg Qj]
    exact wpAny_execs_nil ⟨σ1,H2,I2,q2⟩
end
structure It where
  go:Nat->Hp->Prop
  yld:Nat->Hp->V->Hp->Prop
  stop:Nat->Hp->Prop
def ZiE(X:Cx)(pins:List (Addr×Obj))(H:Hp)(b:Addr):Prop :=
  H b=none/\b≠X.env.locals/\b∉X.fs/\(b∈X.ex\/X.s₀.heap.objs.size<=b)/\(∀x c,X.env.cells.lookup x=some c->c≠b)/\∀p∈X.pn++pins,p.1≠b
theorem Inv.fpOk{X:Cx}{pins:List (Addr×Obj)}{σ:St}{H H':Hp}{s:Shared}{b:Addr}(I:Inv X pins σ H s)(hb:s.heap.objs.size<=b)(hn:H' b=none):ZiE X pins H' b:=by
  refine ⟨hn,Wn (Q6 I.lt hb),I.nofs hb,.inr (Q2 I.sz hb),λx c e z=>?_,λp hp z=>?_⟩
  · obtain ⟨v,q⟩:=I.cell x c e
    exact absurd (Q6 q.lt (by rw[z]; exact hb)) (Qv _)
  · exact absurd (Q6 (Heap.lt_size (I.pin p hp).1) (by rw[z]; exact hb)) (Qv _)
structure Turn (P:Program) (w:World) (K:PySem.W.Frag) (tg:Expr) (J:It) (fp:List Addr) (it:Addr) (tn:Nat->Heap->Prop):Prop where
  mem:it∈fp
  obj:∀i h,tn i h->∀b∈fp,∃o,h.get? b=some o/\∀v,o.data ≠ .cell v
  keep:∀i h h',tn i h->(∀b∈fp,∀o,h.get? b=some o->h'.get? b=some o)->tn i h'
  item:∀(X:Cx),X.prog=P->X.w=w->X.K=K->X.calm=true->∀(i:Nat) (pins:List (Addr×Obj)) (s:Shared) (σ:St) (H:Hp) (E:Value->Shared->Prop),Inv X pins σ H s->(∀b∈fp,ZiE X pins H b)->tn i s.heap->J.go i H →
    wpAny (model P w) X.A (pyNext (.ref it)) (λr s1=>∃u,r=some u ∧
      wpAny (model P w) X.A (letOwnedTupleGo tg (.ref it) u) (λ_ s2=>∃x H',Inv X pins σ H' s2/\RelV x u/\J.yld i H x H'/\tn (i+1) s2.heap/\∀b∈fp,H' b=none) E s1) E s
  done:∀(X:Cx),X.prog=P->X.w=w->X.K=K->X.calm=true->∀(i:Nat) (pins:List (Addr×Obj)) (s:Shared) (σ:St) (H:Hp) (E:Value->Shared->Prop),Inv X pins σ H s->(∀b∈fp,ZiE X pins H b)->tn i s.heap->J.stop i H →
    wpAny (model P w) X.A (pyNext (.ref it)) (λr s1=>r=none/\Inv X pins σ H s1) E s
  self:∀(A:Around) (i:Nat) (s:Shared) (Q:Value->Shared->Prop) (E:Value->Shared->Prop),tn i s.heap->Q (.ref it) s->wpAny (model P w) A (pyIter (.ref it)) Q E s
abbrev TI:=St->Hp->(It->Hp->Prop)->Prop
def PIE(X:Cx)(pins:List (Addr×Obj))(σ:St)(tg:Expr)(R:It->Hp->Prop)(itv:Value)(s2:Shared):Prop :=
  ∃(it:Addr) (fp:List Addr) (tn:Nat->Heap->Prop) (J:It) (H':Hp),itv = .ref it/\Inv X pins σ H' s2/\Turn X.prog X.w X.K tg J fp it tn/\tn 0 s2.heap/\(∀b∈fp,ZiE X pins H' b)/\R J H'
def PI(X:Cx)(tg iter:Expr)(wi:TI):Prop :=
  ∀(pins:List (Addr×Obj)) (s:Shared) (σ:St) (H:Hp) (R:It->Hp->Prop),Inv X pins σ H s->wi σ H R →
    wpAny (model X.prog X.w) X.A (eval iter X.env) (λv s1=>wpAny (model X.prog X.w) X.A (pyIter v) (PIE X pins σ tg R) X.xe s1) X.xe s
theorem Zlf{M:Model}{A:Around}{E:Value->Shared->Prop}{s:Shared}{tg:Expr}{it:Addr}{u:Value}{o:Obj}{n:String}{vs:Array Value}{Q:Unit->Shared->Prop}(ho:s.heap.get? it=some o)(hc:o.cls = .type n)(hd:o.data = .fields vs)
    (hn:["enumerate", "zip", "dict_itemiterator", "dict_reverseitemiterator", "odict_iterator", "itertools.zip_longest", "itertools.pairwise"].contains n=false) (hQ:Q () s):wpAny M A (letOwnedTupleGo tg (.ref it) u) Q E s:=by
  unfold letOwnedTupleGo
  cases tg <;> first
    | exact wpAny_pure hQ
    | (cases u <;> first
        | exact wpAny_pure hQ
        | (refine wpAny_bind (wpAny_load ho ?_)
           rw[hc,hd]
           show wpAny M A (if (["enumerate", "zip", "dict_itemiterator", "dict_reverseitemiterator", "odict_iterator", "itertools.zip_longest", "itertools.pairwise"].contains n&&vs[0]?==some (rawInt _))=true then _ else _) Q E s
           rw[if_neg (by intro h; rw[hn,Bool.false_and] at h; cases h)]
           exact wpAny_pure hQ))
def Itl(K:PySem.W.Frag)(a:Addr):It :=
  ⟨λi H=>∃xs x,SqL K H a xs/\xs[i]?=some x,λi H x H'=>H'=H/\∀xs,SqL K H a xs->xs[i]?=some x,λi H=>∃xs,SqL K H a xs/\xs.length<=i⟩
def Itr(lo:Int)(n:Nat):It:=⟨λi _=>i<n,λi H x H'=>H'=H/\x = .int (lo+i),λi _=>n<=i⟩
theorem Zjq{P:Program}{w:World}{K:PySem.W.Frag}{tg:Expr}(a it:Addr):Turn P w K tg (Itl K a) [it] it (λi h=>h.IsListIter it a i) where
  mem:=by simp
  obj:=λi h st b hb=>by
    have e:b=it:=by simpa using hb
    subst e
    obtain ⟨o,e,c,d⟩:=st
    exact ⟨o,e,λv z=>by rw[d] at z; cases z⟩
  keep:=λi h h' st k=>st.at λo e=>k it (by simp) o e
  item:=by
    intro X hP hw hK hc i pins s σ H E I hf st hg
    subst hP hw hK
    obtain ⟨xs,x,hq,hx⟩:=hg
    obtain ⟨its,rv,p,hz⟩:=I.list hq
    obtain ⟨u,hu,ru⟩:=rv.get hx
    obtain ⟨f0,f1,f2,f3,f4,f5⟩:=hf it (by simp)
    refine wpAny_pyNext_list_item st p.isList (x:=u) (by simpa using hu) λh' st' sb=>?_
    have I1:Inv X pins σ H { s with heap:=h' }:=I.turned (t':=s.toks) (λb o hb e=>(sb.2 b hb).trans e) f0 f1 f3 f4 f5
    obtain ⟨o,e,c,d⟩:=id st'
    exact ⟨u,rfl,Zlf (s:={ s with heap:=h' }) e c d (by decide) ⟨x,H,I1,ru,⟨rfl,λys hy=>by rw[I.list_inj hy hq]; exact hx⟩,st',λb hb=>(hf b hb).1⟩⟩
  done:=by
    intro X hP hw hK hc i pins s σ H E I hf st hg
    subst hP hw hK
    obtain ⟨xs,hq,hx⟩:=hg
    obtain ⟨its,rv,p,hz⟩:=I.list hq
    obtain ⟨f0,f1,f2,f3,f4,f5⟩:=hf it (by simp)
    have hl:=rv.length
    exact wpAny_pyNext_list_end (I.ok.hd hc) st p.isList (by simp; omega) λh' eb=>⟨rfl,I.turned (t':=s.toks) (λb o hb e=>eb b o hb e) f0 f1 f3 f4 f5⟩
  self:=λ_ _ _ _ _ st h=>wpAny_pyIter_listiter st h
theorem ZiF{P:Program}{w:World}{K:PySem.W.Frag}{tg:Expr}(it:Addr)(lo:Int)(n:Nat):Turn P w K tg (Itr lo n) [it] it (λi h=>IsRangeIter h it (lo+(i:Nat)*1) ((n:Int)-(i:Nat)) 1) where
  mem:=by simp
  obj:=λi h st b hb=>by
    have e:b=it:=by simpa using hb
    subst e
    exact ⟨_,st,λv z=>by
      have z':Data.fields _=Data.cell v:=z
      cases z'⟩
  keep:=λi h h' st k=>k it (by simp) _ st
  item:=by
    intro X hP hw hK hc i pins s σ H E I hf st hg
    subst hP hw hK
    obtain ⟨f0,f1,f2,f3,f4,f5⟩:=hf it (by simp)
    have W:=Walks.range (prog:=X.prog) (w:=X.w) (I.ok.hd hc) it lo 1 n
    refine W.item i s _ _ hg st λv h' tk hv st' kk=>?_
    obtain ⟨t,rfl⟩:=hv
    have I1:Inv X pins σ H { s with heap:=h',toks:=tk }:=I.turned (λb o hb e=>kk b o (by simpa using hb) e) f0 f1 f3 f4 f5
    refine ⟨_,rfl,Zlf (s:={ s with heap:=h',toks:=tk }) (n := "range_iterator") st' rfl rfl (by decide) ⟨.int (lo+i),H,I1,⟨t,?_⟩,⟨rfl,rfl⟩,st',λb hb=>(hf b hb).1⟩⟩
    rw[Wo]
  done:=by
    intro X hP hw hK hc i pins s σ H E I hf st hg
    subst hP hw hK
    obtain ⟨f0,f1,f2,f3,f4,f5⟩:=hf it (by simp)
    exact wpAny_pyNext_range_end (I.ok.hd hc) st (by have:n<=i:=hg; omega) λh' eb=>⟨rfl,I.turned (t':=s.toks) (λb o hb e=>eb b o hb e) f0 f1 f3 f4 f5⟩
  self:=λ_ _ _ _ _ st h=>wpAny_pyIter_rangeiter st h
end L2
namespace L2
open PySem PySem.Spec PyProof.Rows
section
variable{X:Cx}{tg:Expr}
def Zpg(K:PySem.W.Frag)(tl:TE):TI:=λσ H R=>tl σ H λx H1=>∃a,x = .ref a/\(∃xs,SqL K H1 a xs)/\R (Itl K a) H1
theorem Zbi{l:Expr}{tl:TE}(hl:PE X l tl):PI X tg l (Zpg X.K tl):=by
  intro pins s σ H R I h
  refine thn (hl pins s σ H _ I h) λv s1 ⟨x,H1,I1,r1,q1⟩=>?_
  obtain ⟨a,e,⟨xs,hq⟩,q⟩:=q1
  subst e
  cases r1
  obtain ⟨its,rv,p,hz⟩:=I1.list hq
  refine wpAny_pyIter_list p.isList ?_
  refine ⟨s1.heap.objs.size,[s1.heap.objs.size],_,_,H1,rfl,I1.kept (t':=s1.toks) λb o e=>Heap.get?_push_of_some _ e,Zjq a _,⟨_,Heap.get?_push_size _ rfl,rfl,rfl⟩,λb hb=>?_,q⟩
  have e:b=s1.heap.objs.size:=by simpa using hb
  subst e
  exact I1.fpOk (Q1 _) (I1.hok.fresh (Q1 _))
theorem Zia{pins:List (Addr×Obj)}{σ:St}{H:Hp}{s:Shared}{R:It->Hp->Prop}{E:Value->Shared->Prop}{lo hi:Int}{t u v:Tok}{tk:Nat}(I:Inv X pins σ H s)(h1:-(2^62)<=lo)(h2:lo<2^62)(h3:-(2^62)<=hi)(h4:hi<2^62)
    (q:R (Itr lo (hi-lo).toNat) H):wpAny (model X.prog X.w) X.A (pyIter (.ref s.heap.objs.size)) (PIE X pins σ tg R) E { s with heap:=s.heap.push { cls:=.type "range", data:=.fields #[.int lo t,.int hi u,.int 1 v] },toks:=tk }:=by
  refine wpAny_pyIter_range (IsRange.new ..) (small_one h1 h2 h3 h4) ?_
  have I1:Inv X pins σ H { s with heap:=s.heap.push { cls:=.type "range", data:=.fields #[.int lo t,.int hi u,.int 1 v] },toks:=tk }:=I.kept λb o e=>Heap.get?_push_of_some _ e
  refine ⟨(s.heap.push { cls:=.type "range", data:=.fields #[.int lo t,.int hi u,.int 1 v] }).objs.size,[(s.heap.push { cls:=.type "range", data:=.fields #[.int lo t,.int hi u,.int 1 v] }).objs.size],_,_,H,rfl,
    I1.kept (t':=tk) λb o e=>Heap.get?_push_of_some _ e,ZiF _ lo (hi-lo).toNat,?_,λb hb=>?_,q⟩
  · have e1:lo+((0:Nat):Int)*1=lo:=by simp
    have e2:(((hi-lo).toNat:Nat):Int)-((0:Nat):Int)=Builtin.Range.rangeSize lo hi 1:=by rw[rangeSize_one]; split <;> omega
    show IsRangeIter _ _ (lo+((0:Nat):Int)*1) ((((hi-lo).toNat:Nat):Int)-((0:Nat):Int)) 1
    rw[e1,e2]
    exact Heap.get?_push_size _ rfl
  · have e:b=(s.heap.push { cls:=.type "range", data:=.fields #[.int lo t,.int hi u,.int 1 v] }).objs.size:=by simpa using hb
    subst e
    exact I1.fpOk (Q1 _) (I1.hok.fresh (Q1 _))
def Zph(ta:TA):TI:=λσ H R=>ta σ H λvs H1=>∃j:Int,vs=[.int j] /\ -(2^62)<=j/\j<2^62/\R (Itr 0 j.toNat) H1
def Zpi(ta:TA):TI:=λσ H R=>ta σ H λvs H1=>∃i j:Int,vs=[.int i,.int j]/\(-(2^62)<=i/\i<2^62 /\ -(2^62)<=j/\j<2^62)/\R (Itr i (j-i).toNat) H1
theorem ZaJ{a:Expr}{ta:TA}{p pos:Pos}(hg:Gl X "range") (hm:X.mg "range" = none) (ha:PA X [a] ta) (hs:starEach [a] X.env=[(false,eval a X.env)]:=by rfl):PI X tg (.Call (.Name "range" p) [a] [] pos) (Zph ta):=by
  intro pins s σ H R I h
  refine Call_ (Zc0 I hg hm boot_range (PyProof.Rows.callWith_type1 (thn (ha pos pins s σ H _ I h) λus s1 ⟨vs,H1,I1,r1,q1⟩=>?_) hs rfl))
  obtain ⟨j,e,q1,q2,q⟩:=q1
  subst e
  cases r1 with
  | cons r rr =>
    cases rr
    obtain ⟨t,rfl⟩:=r
    exact call_range_1 (Zia I1 (by omega) (by omega) q1 q2 (by simpa using q))
theorem Zev{a b:Expr}{ta:TA}{p pos:Pos}(hg:Gl X "range") (hm:X.mg "range" = none) (ha:PA X [a,b] ta) (hs:starEach [a,b] X.env=[(false,eval a X.env),(false,eval b X.env)]:=by rfl) (hs2:starEach [b] X.env=[(false,eval b X.env)]:=by rfl) :
    PI X tg (.Call (.Name "range" p) [a,b] [] pos) (Zpi ta):=by
  intro pins s σ H R I h
  refine Call_ (Zc0 I hg hm boot_range (PyProof.Rows.callWith_type1 (thn (ha pos pins s σ H _ I h) λus s1 ⟨vs,H1,I1,r1,q1⟩=>?_) (by rw[hs,hs2]) (by rw[hs2]; rfl)))
  obtain ⟨i,j,e,⟨q1,q2,q3,q4⟩,q⟩:=q1
  subst e
  cases r1 with
  | cons r rr =>
    cases rr with
    | cons r' rr =>
      cases rr
      obtain ⟨t,rfl⟩:=r
      obtain ⟨t',rfl⟩:=r'
      exact call_range_2 (Zia I1 q1 q2 q3 q4 q)
def Zqc(wi:TI)(g:TG)(tb:TS):TS:=λD σ H=>wi σ H λJ H1=>∃W:Nat->Nat->St->Hp->Prop,(∃m,W 0 m σ H1)/\∀i m σ H,W i m σ H →
  (J.stop i H/\D.nx σ H)\/(J.go i H/\∃N:St->Hp->Prop,(∀σ' H',N σ' H'->∃m',m'<m/\W (i+1) m' σ' H')/\∀x H',J.yld i H x H'->g x σ H' λσ2 H2=>tb { D with nx:=N,ct:=N,bk:=D.nx } σ2 H2)
def Zib(fp:List Addr)(h:Heap):List (Addr×Obj):=fp.filterMap λb=>(h.get? b).map λo=>(b,o)
theorem Zbb{fp:List Addr}{h:Heap}{b:Addr}{o:Obj}(hb:b∈fp)(e:h.get? b=some o):(b,o)∈Zib fp h:=Uw.mpr ⟨b,hb,by rw[e]; rfl⟩
theorem Zjr{fp:List Addr}{h:Heap}{p:Addr×Obj}(hp:p∈Zib fp h):p.1∈fp/\h.get? p.1=some p.2:=by
  obtain ⟨b,hb,e⟩:=Uw.mp hp
  cases q:h.get? b with
  | none=>rw[q] at e; cases e
  | some o =>
    rw[q] at e
    have e':(b,o)=p:=Option.some.inj e
    subst e'
    exact ⟨hb,q⟩
theorem Inv.pinned{pins:List (Addr×Obj)}{σ:St}{H:Hp}{s:Shared}{fp:List Addr}(I:Inv X pins σ H s)(hf:∀b∈fp,ZiE X pins H b)(ho:∀b∈fp,∃o,s.heap.get? b=some o/\∀v,o.data ≠ .cell v):Inv X (pins++Zib fp s.heap) σ H s :=
  I.pins_of λp hp=>(Qu.mp hp).elim (λz=>I.pin p (Qg _ z)) λz=>by
    obtain ⟨hb,e⟩:=Zjr z
    obtain ⟨f0,f1,f2,_⟩:=hf p.1 hb
    obtain ⟨o,e',d⟩:=ho p.1 hb
    rw[e] at e'; cases e'
    exact ⟨e,f0,f1,f2,d⟩
theorem Inv.unpinned{pins pl:List (Addr×Obj)}{σ:St}{H:Hp}{s:Shared}(I:Inv X (pins++pl) σ H s):Inv X pins σ H s:=I.pins_of λp hp=>I.pin p (Qg _ (Uh _ hp))
theorem Za7{iter:Expr}{body:List Stmt}{wi:TI}{g:TG}{tb:TS}{pos:Pos}(hp:PassesOwn (model X.prog X.w) X.A X.env X.xe)(hc:X.calm=true)(hi:PI X tg iter wi)(hg:PG X tg g)(hb:PSs X body tb)
    (hs:∀x,foldedSetIterable iter X.env x=pure x:=by intro _; rfl):PS X (.For tg iter body [] pos) (Zqc wi g tb):=by
  intro pins s σ H D I h
  refine wpAny_For (thn (hi pins s σ H _ I h) λv s1 h1=>thn h1 λitv s2 h2=>?_) hs
  obtain ⟨it,fp,tn,J,H2,e,I2,T,st2,f2,W,⟨m0,w0⟩,turn⟩:=h2
  subst e
  have stat:∀ {H':Hp},(∀b∈fp,H' b=none)->∀b∈fp,ZiE X pins H' b:=λhn b hb=>⟨hn b hb,(f2 b hb).2⟩
  refine codeAny_forLoop_any (λn s'=>∃i σ' H',Inv X pins σ' H' s'/\tn i s'.heap/\(∀b∈fp,H' b=none)/\W i n σ' H') ?_ m0 ⟨0,σ,H2,I2,st2,λb hb=>(f2 b hb).1,w0⟩
  rintro n s3 ⟨i,σ3,H3,I3,st3,fr3,w3⟩
  rcases turn i n σ3 H3 w3 with ⟨stop,qn⟩ | ⟨go,N,hN,step⟩
  · refine wpAny_passesOwn hp (thn (T.done X rfl rfl rfl hc i pins s3 σ3 H3 X.xe I3 (stat fr3) st3 stop) λr s4 ⟨hr,I4⟩=>?_)
    subst hr
    exact wpAny_execs_nil ⟨σ3,H3,I4,qn⟩
  · refine wpAny_passesOwn hp (thn (T.item X rfl rfl rfl hc i pins s3 σ3 H3 X.xe I3 (stat fr3) st3 go) λr s4 ⟨u,hr,h4⟩=>?_)
    subst hr
    refine wpAny_passesOwn hp (thn h4 λ_ s5 ⟨x,H5,I5,r5,y5,st5,fr5⟩=>?_)
    have I5':=I5.pinned (stat fr5) (T.obj _ _ st5)
    refine wpAny_passesOwn hp (thn (hg _ s5 σ3 H5 x u _ I5' r5 (step x H5 y5)) λ_ s6 ⟨σ6,H6,I6,q6⟩=>?_)
    refine wpAny_passesOwn hp (thn (hb _ s6 σ6 H6 _ I6 q6) λf s7 q7=>?_)
    have again:∀ {σ7:St} {H7:Hp},Inv X (pins++Zib fp s5.heap) σ7 H7 s7->N σ7 H7->∃m,m<n/\∃i σ' H',Inv X pins σ' H' s7/\tn i s7.heap/\(∀b∈fp,H' b=none)/\W i m σ' H':=fun {σ7 H7} I7 n7=>by
      obtain ⟨m',hm,w7⟩:=hN σ7 H7 n7
      refine ⟨m',hm,i+1,σ7,H7,I7.unpinned,T.keep _ _ _ st5 λb hb o e=>(I7.pin (b,o) (Qg _ (Qg _ (Zbb hb e)))).1,λb hb=>?_,w7⟩
      obtain ⟨o,e,d⟩:=T.obj _ _ st5 b hb
      exact (I7.pin (b,o) (Qg _ (Qg _ (Zbb hb e)))).2.1
    cases f with
    | next=>obtain ⟨σ7,H7,I7,n7⟩:=q7; exact again I7 n7
    | cont=>obtain ⟨σ7,H7,I7,n7⟩:=q7; exact again I7 n7
    | brk=>obtain ⟨σ7,H7,I7,q7⟩:=q7; exact ⟨σ7,H7,I7.unpinned,q7⟩
    | ret v=>obtain ⟨x7,σ7,H7,I7,r7,q7⟩:=q7; exact ⟨x7,σ7,H7,I7.unpinned,r7,q7⟩
end
theorem Zfz{K:PySem.W.Frag}{a:Addr}{xs:List V}{g:TG}{tb:TS}{D:Ends}{σ:St}{H:Hp}(Pv:Nat->St->Hp->Prop)(h0:Pv 0 σ H)(hl:∀i σ H,i<=xs.length->Pv i σ H->SqL K H a xs)
    (hs:∀i x σ H,xs[i]?=some x->Pv i σ H->g x σ H λσ2 H2=>tb { D with nx:=Pv (i+1),ct:=Pv (i+1),bk:=D.nx } σ2 H2) (hd:∀σ H,Pv xs.length σ H->D.nx σ H) :
    ∃W:Nat->Nat->St->Hp->Prop,(∃m,W 0 m σ H)/\∀i m σ H,W i m σ H →
      ((Itl K a).stop i H/\D.nx σ H)\/((Itl K a).go i H/\∃N:St->Hp->Prop,(∀σ' H',N σ' H'->∃m',m'<m/\W (i+1) m' σ' H')/\∀x H',(Itl K a).yld i H x H'->g x σ H' λσ2 H2=>tb { D with nx:=N,ct:=N,bk:=D.nx } σ2 H2):=by
  refine ⟨λi m σ H=>m=xs.length-i/\i<=xs.length/\Pv i σ H,⟨xs.length,by simp,Qd _,h0⟩,?_⟩
  rintro i m σ H ⟨rfl,hi,p⟩
  have q:=hl i σ H hi p
  by_cases hlt:i<xs.length
  · refine .inr ⟨⟨xs,xs[i],q,by simp[hlt]⟩,Pv (i+1),λσ' H' p'=>⟨xs.length-(i+1),by omega,rfl,hlt,p'⟩,λx H' y=>?_⟩
    obtain ⟨e,y⟩:=y
    subst e
    exact hs i x σ _ (y xs q) p
  · have e:i=xs.length:=by omega
    subst e
    exact .inl ⟨⟨xs,q,Q1 _⟩,hd σ H p⟩
theorem ZaP{lo:Int}{n:Nat}{g:TG}{tb:TS}{D:Ends}{σ:St}{H:Hp}(Pv:Nat->St->Hp->Prop)(h0:Pv 0 σ H)
    (hs:∀i σ H,i<n->Pv i σ H->g (.int (lo+i)) σ H λσ2 H2=>tb { D with nx:=Pv (i+1),ct:=Pv (i+1),bk:=D.nx } σ2 H2) (hd:∀σ H,Pv n σ H->D.nx σ H) :
    ∃W:Nat->Nat->St->Hp->Prop,(∃m,W 0 m σ H)/\∀i m σ H,W i m σ H →
      ((Itr lo n).stop i H/\D.nx σ H)\/((Itr lo n).go i H/\∃N:St->Hp->Prop,(∀σ' H',N σ' H'->∃m',m'<m/\W (i+1) m' σ' H')/\∀x H',(Itr lo n).yld i H x H'->g x σ H' λσ2 H2=>tb { D with nx:=N,ct:=N,bk:=D.nx } σ2 H2):=by
  refine ⟨λi m σ H=>m=n-i/\i<=n/\Pv i σ H,⟨n,by simp,Qd _,h0⟩,?_⟩
  rintro i m σ H ⟨rfl,hi,p⟩
  by_cases hlt:i<n
  · refine .inr ⟨hlt,Pv (i+1),λσ' H' p'=>⟨n-(i+1),by omega,rfl,hlt,p'⟩,λx H' y=>?_⟩
    obtain ⟨e,y⟩:=y
    subst e y
    exact hs i σ _ hlt p
  · have e:i=n:=by omega
    subst e
    exact .inl ⟨Q1 _,hd σ H p⟩
end L2
namespace L2
open PySem PySem.Spec PyProof.Rows
abbrev R2:=V->V->Hp->VK->Prop
def OpR(X:Cx)(f:Value->Value->Sem Value)(r:R2):Prop :=
  ∀(pins:List (Addr×Obj)) (s:Shared) (σ:St) (H:Hp) (x y:V) (v u:Value) (Q:VK),Inv X pins σ H s->RelV x v->RelV y u->r x y H Q →
    wpAny (model X.prog X.w) X.A (f v u) (EP X pins σ Q) X.xe s
def UnR(X:Cx)(f:Value->Sem Value)(r:V->Hp->VK->Prop):Prop :=
  ∀(pins:List (Addr×Obj)) (s:Shared) (σ:St) (H:Hp) (x:V) (v:Value) (Q:VK),Inv X pins σ H s->RelV x v->r x H Q →
    wpAny (model X.prog X.w) X.A (f v) (EP X pins σ Q) X.xe s
def CallR(X:Cx)(f:Value)(r:List V->Hp->VK->Prop):Prop :=
  ∀(pins:List (Addr×Obj)) (s:Shared) (σ:St) (H:Hp) (xs:List V) (us:List Value) (Q:VK),Inv X pins σ H s->Vals xs us->r xs H Q →
    wpAny (model X.prog X.w) X.A (call f us) (EP X pins σ Q) X.xe s
def tOp(r:R2)(ta tb:TE):TE:=λσ H Q=>ta σ H λx H1=>tb σ H1 λy H2=>r x y H2 Q
def tUn(r:V->Hp->VK->Prop)(ta:TE):TE:=λσ H Q=>ta σ H λx H1=>r x H1 Q
inductive rI (C:Int->Int->Prop) (g:Int->Int->V) (x y:V) (H:Hp) (Q:VK):Prop
  | mk (i j:Int) (_:x = .int i) (_:y = .int j) (_:C i j) (_:Q (g i j) H):rI C g x y H Q
inductive rI0 (g:Int->Int->V) (x y:V) (H:Hp) (Q:VK):Prop
  | mk (i j:Int) (_:x = .int i) (_:y = .int j) (_:Q (g i j) H):rI0 g x y H Q
def rU(g:Int->V):V->Hp->VK->Prop:=λx H Q=>∃i,x = .int i/\Q (g i) H
section
variable{X:Cx}{a b c:Expr}{ta tb tc:TE}{pos:Pos}
theorem Zpj(ha:PE X a ta)(hb:PE X b tb){pins:List (Addr×Obj)}{s:Shared}{σ:St}{H:Hp}{R:V->V->Hp->Prop}(I:Inv X pins σ H s)
    (h:ta σ H λx H1=>tb σ H1 λy H2=>R x y H2) {Q:Value->Shared->Prop} {f:Value->Value->Sem Value}
    (hf:∀v u s2 x y H2,Inv X pins σ H2 s2->RelV x v->RelV y u->R x y H2->wpAny (model X.prog X.w) X.A (f v u) Q X.xe s2) :
    wpAny (model X.prog X.w) X.A (eval a X.env) (λv s₁=>wpAny (model X.prog X.w) X.A (eval b X.env) (λu s₂=>wpAny (model X.prog X.w) X.A (f v u) Q X.xe s₂) X.xe s₁) X.xe s:=by
  refine thn (ha pins s σ H _ I h) λv s1 ⟨x,H1,I1,r1,q1⟩=>?_
  refine thn (hb pins s1 σ H1 _ I1 q1) λu s2 ⟨y,H2,I2,r2,q2⟩=>?_
  exact hf v u s2 x y H2 I2 r1 r2 q2
theorem Zai{op:Operator}{r:R2}(ho:OpR X (binaryOp op) r)(ha:PE X a ta)(hb:PE X b tb):PE X (.BinOp a op b pos) (tOp r ta tb):=by
  intro pins s σ H Q I h
  exact wpAny_BinOp (Zpj ha hb I h λv u s2 x y H2 I2 rx ry q=>ho pins s2 σ H2 x y v u Q I2 rx ry q)
theorem ZdJ{op:UnaryOp}{r:V->Hp->VK->Prop}(ho:UnR X (unaryOp op) r)(ha:PE X a ta):PE X (.UnaryOp op a pos) (tUn r ta):=by
  intro pins s σ H Q I h
  exact UnaryOp_ (thn (ha pins s σ H _ I h) λv s1 ⟨x,H1,I1,r1,q1⟩=>ho pins s1 σ H1 x v Q I1 r1 q1)
theorem opI{f:Value->Value->Sem Value}{C:Int->Int->Prop}{g:Int->Int->Int}
    (rule:∀(i j:Int) (t u:Tok) (s:Shared) (Q:Value->Shared->Prop) (E:Value->Shared->Prop),C i j->Q (.int (g i j) s.toks) { s with toks:=s.toks+1 }->wpAny (model X.prog X.w) X.A (f (.int i t) (.int j u)) Q E s) :
    OpR X f (rI C λi j => .int (g i j)):=by
  intro pins s σ H x y v u Q I rx ry h
  obtain ⟨i,j,rfl,rfl,hc,q⟩:=h
  obtain ⟨t,rfl⟩:=rx
  obtain ⟨t',rfl⟩:=ry
  exact rule i j t t' s _ _ hc ⟨.int (g i j),H,I.tok _,⟨_,rfl⟩,q⟩
theorem ZpO{f:Value->Value->Sem Value}{g:Int->Int->Int}
    (rule:∀(i j:Int) (t u:Tok) (s:Shared) (Q:Value->Shared->Prop) (E:Value->Shared->Prop),Q (.int (g i j) s.toks) { s with toks:=s.toks+1 }->wpAny (model X.prog X.w) X.A (f (.int i t) (.int j u)) Q E s) :
    OpR X f (rI0 λi j => .int (g i j)):=by
  intro pins s σ H x y v u Q I rx ry h
  obtain ⟨i,j,rfl,rfl,q⟩:=h
  obtain ⟨t,rfl⟩:=rx
  obtain ⟨t',rfl⟩:=ry
  exact rule i j t t' s _ _ ⟨.int (g i j),H,I.tok _,⟨_,rfl⟩,q⟩
theorem Zo4{f:Value->Value->Sem Value}{g:Int->Int->Bool}
    (rule:∀(i j:Int) (t u:Tok) (s:Shared) (Q:Value->Shared->Prop) (E:Value->Shared->Prop),Q (.bool (g i j)) s->wpAny (model X.prog X.w) X.A (f (.int i t) (.int j u)) Q E s) :
    OpR X f (rI0 λi j => .bl (g i j)):=by
  intro pins s σ H x y v u Q I rx ry h
  obtain ⟨i,j,rfl,rfl,q⟩:=h
  obtain ⟨t,rfl⟩:=rx
  obtain ⟨t',rfl⟩:=ry
  exact rule i j t t' s _ _ ⟨.bl (g i j),H,I,rfl,q⟩
def Zqd(i j:Int):Prop:=0<j/\j<1073741824
def CMul(i j:Int):Prop:=(-(2^64)<i/\i<2^64)\/(-(2^64)<j/\j<2^64)
theorem CMul.ok{i j:Int}(h:CMul i j):IntMulOk i j:=by
  rcases h with ⟨h1,h2⟩ | ⟨h1,h2⟩
  · exact .of_left (intBits_le_64 h1 h2)
  · exact .of_right (intBits_le_64 h1 h2)
theorem ZaY:OpR X (binaryOp .Add) (rI0 λi j => .int (i+j)):=ZpO λ_ _ _ _ _ _ _ q=>add_int q
theorem Zc1:OpR X (binaryOp .Sub) (rI0 λi j => .int (i-j)):=ZpO λ_ _ _ _ _ _ _ q=>sub_int q
theorem Zb7:OpR X (binaryOp .Mult) (rI CMul λi j => .int (i*j)):=opI λ_ _ _ _ _ _ _ hc q=>mul_int q hc.ok
theorem Zhe:OpR X (binaryOp .FloorDiv) (rI Zqd λi j => .int (i/j)):=opI λi j _ _ _ _ _ hc q=>by
  have h1:(0:Int)<j:=hc.1
  have h2:j<1073741824:=hc.2
  exact floordiv_int (by omega) (by rw[Ux i (by omega)]; exact q) (.inl (PyProof.noPylong_small (by omega)))
theorem ZaQ:OpR X (binaryOp .Mod) (rI (λ_ j=>0<j) λi j => .int (i%j)):=opI λi j _ _ _ _ _ hc q=>by
  have h1:(0:Int)<j:=hc
  exact mod_int' (by omega) (by rw[Qx i (by omega)]; exact q)
theorem ZaD:OpR X (binaryOp .Mod) (rI (λ_ j=>j≠0) λi j => .int (i.fmod j)):=opI λ_ _ _ _ _ _ _ hc q=>mod_int' hc q
theorem unI{f:Value->Sem Value}{g:Int->Int}
    (rule:∀(i:Int) (t:Tok) (s:Shared) (Q:Value->Shared->Prop) (E:Value->Shared->Prop),Q (.int (g i) s.toks) { s with toks:=s.toks+1 }->wpAny (model X.prog X.w) X.A (f (.int i t)) Q E s) :
    UnR X f (rU λi => .int (g i)):=by
  intro pins s σ H x v Q I rx h
  obtain ⟨i,rfl,q⟩:=h
  obtain ⟨t,rfl⟩:=rx
  exact rule i t s _ _ ⟨.int (g i),H,I.tok _,⟨_,rfl⟩,q⟩
theorem Zb8:UnR X (unaryOp .USub) (rU λi => .int (-i)):=unI λ_ _ _ _ _ q=>neg_int q
end
def ZpP:V->V->Bool
  | .non,.non=>true | .non,.int _=>true | .int _,.non=>true | .non,.bl _=>true | .bl _,.non=>true | .non,.str _=>true | .str _,.non=>true
  | .int _,.int _=>true | .bl _,.bl _=>true | .str _,.str _=>true | .byt _,.byt _=>true
  | .int _,.str _=>true | .str _,.int _=>true | .bl _,.str _=>true | .str _,.bl _=>true
  | _,_=>false
def rEq:R2:=λx y H Q=>ZpP x y=true/\Q (.bl (decide (x=y))) H
def rNe:R2:=λx y H Q=>ZpP x y=true/\Q (.bl (!decide (x=y))) H
theorem Zhf{i j:Int}:decide (V.int i=V.int j)=(i==j):=by
  rw[Uy]
  simp
theorem Zml{i j:Bool}:decide (V.bl i=V.bl j)=(i==j):=by
  rw[Uy]
  simp
theorem Zjs{i j:Str}:decide (V.str i=V.str j)=(i==j):=by
  rw[Uy]
  simp
theorem Zjt{i j:Array UInt8}:decide (V.byt i=V.byt j)=(i.toList==j.toList):=by
  rw[Uy]
  cases i
  cases j
  simp
section
variable{X:Cx}{a b c:Expr}{ta tb tc:TE}{pos:Pos}
theorem ZaI{pins:List (Addr×Obj)}{σ:St}{H:Hp}{s:Shared}{Q:VK}{k k':Bool}(I:Inv X pins σ H s)(q:Q (.bl k) H)(e:k=k'):EP X pins σ Q (.bool k') s:=by
  subst e
  exact ⟨.bl k,H,I,rfl,q⟩
theorem Za8:OpR X (compareOp .Eq) rEq:=by
  intro pins s σ H x y v u Q I rx ry h
  obtain ⟨hs,q⟩:=h
  cases x with
  | non =>
    cases rx
    cases y with
    | non=>cases ry; exact PySem.EqNone.eq_none_none (ZaI I q (by simp))
    | bl j=>cases ry; exact PySem.EqNone.eq_none_bool (ZaI I q (by simp))
    | int j=>obtain ⟨t',rfl⟩:=ry; exact PySem.EqNone.eq_none_int (ZaI I q (by simp))
    | str j=>obtain ⟨t',rfl⟩:=ry; exact PySem.EqNone.eq_none_str (ZaI I q (by simp))
    | _=>exact absurd (show false=true from hs) Qj
  | bl i =>
    cases rx
    cases y with
    | non=>cases ry; exact PySem.EqNone.eq_bool_none (ZaI I q (by simp))
    | bl j=>cases ry; exact eq_bool (ZaI I q Zml)
    | str j=>obtain ⟨t',rfl⟩:=ry; exact PySem.EqMixed.eq_bool_str (ZaI I q (by simp))
    | _=>exact absurd (show false=true from hs) Qj
  | int i =>
    obtain ⟨t,rfl⟩:=rx
    cases y with
    | non=>cases ry; exact PySem.EqNone.eq_int_none (ZaI I q (by simp))
    | int j=>obtain ⟨t',rfl⟩:=ry; exact eq_int (ZaI I q Zhf)
    | str j=>obtain ⟨t',rfl⟩:=ry; exact PySem.EqMixed.eq_int_str (ZaI I q (by simp))
    | _=>exact absurd (show false=true from hs) Qj
  | str i =>
    obtain ⟨t,rfl⟩:=rx
    cases y with
    | non=>cases ry; exact PySem.EqNone.eq_str_none (ZaI I q (by simp))
    | bl j=>cases ry; exact PySem.EqMixed.eq_str_bool (ZaI I q (by simp))
    | int j=>obtain ⟨t',rfl⟩:=ry; exact PySem.EqMixed.eq_str_int (ZaI I q (by simp))
    | str j=>obtain ⟨t',rfl⟩:=ry; exact eq_str (ZaI I q Zjs)
    | _=>exact absurd (show false=true from hs) Qj
  | byt i =>
    obtain ⟨t,rfl⟩:=rx
    cases y with
    | byt j=>obtain ⟨t',rfl⟩:=ry; exact PySem.W.eq_bytes (ZaI I q Zjt)
    | _=>exact absurd (show false=true from hs) Qj
  | _=>cases y <;> exact absurd (show false=true from hs) Qj
theorem Zgt:OpR X (compareOp .NotEq) rNe:=by
  intro pins s σ H x y v u Q I rx ry h
  obtain ⟨hs,q⟩:=h
  cases x with
  | non =>
    cases rx
    cases y with
    | non=>cases ry; exact PySem.EqNone.ne_none_none (ZaI I q (by simp))
    | bl j=>cases ry; exact PySem.EqNone.ne_none_bool (ZaI I q (by simp))
    | int j=>obtain ⟨t',rfl⟩:=ry; exact PySem.EqNone.ne_none_int (ZaI I q (by simp))
    | str j=>obtain ⟨t',rfl⟩:=ry; exact PySem.EqNone.ne_none_str (ZaI I q (by simp))
    | _=>exact absurd (show false=true from hs) Qj
  | bl i =>
    cases rx
    cases y with
    | non=>cases ry; exact PySem.EqNone.ne_bool_none (ZaI I q (by simp))
    | bl j=>cases ry; exact ne_bool (ZaI I q (congrArg not Zml))
    | str j=>obtain ⟨t',rfl⟩:=ry; exact PySem.EqMixed.ne_bool_str (ZaI I q (by simp))
    | _=>exact absurd (show false=true from hs) Qj
  | int i =>
    obtain ⟨t,rfl⟩:=rx
    cases y with
    | non=>cases ry; exact PySem.EqNone.ne_int_none (ZaI I q (by simp))
    | int j=>obtain ⟨t',rfl⟩:=ry; exact ne_int (ZaI I q (congrArg not Zhf))
    | str j=>obtain ⟨t',rfl⟩:=ry; exact PySem.EqMixed.ne_int_str (ZaI I q (by simp))
    | _=>exact absurd (show false=true from hs) Qj
  | str i =>
    obtain ⟨t,rfl⟩:=rx
    cases y with
    | non=>cases ry; exact PySem.EqNone.ne_str_none (ZaI I q (by simp))
    | bl j=>cases ry; exact PySem.EqMixed.ne_str_bool (ZaI I q (by simp))
    | int j=>obtain ⟨t',rfl⟩:=ry; exact PySem.EqMixed.ne_str_int (ZaI I q (by simp))
    | str j=>obtain ⟨t',rfl⟩:=ry; exact ne_str (ZaI I q (congrArg not Zjs))
    | _=>exact absurd (show false=true from hs) Qj
  | byt i =>
    obtain ⟨t,rfl⟩:=rx
    cases y with
    | byt j=>obtain ⟨t',rfl⟩:=ry; exact PySem.W.ne_bytes (ZaI I q (congrArg not Zjt))
    | _=>exact absurd (show false=true from hs) Qj
  | _=>cases y <;> exact absurd (show false=true from hs) Qj
theorem Zhg:OpR X (compareOp .Lt) (rI0 λi j => .bl (decide (i<j))):=Zo4 λ_ _ _ _ _ _ _ q=>lt_int q
theorem Zn7:OpR X (compareOp .LtE) (rI0 λi j => .bl (decide (i<=j))):=Zo4 λ_ _ _ _ _ _ _ q=>le_int q
theorem ZfA:OpR X (compareOp .Gt) (rI0 λi j => .bl (decide (j<i))):=Zo4 λ_ _ _ _ _ _ _ q=>gt_int q
theorem Zpk:OpR X (compareOp .GtE) (rI0 λi j => .bl (decide (j<=i))):=Zo4 λ_ _ _ _ _ _ _ q=>ge_int q
theorem OpR.or{f:Value->Value->Sem Value}{r r':R2}(h:OpR X f r)(h':OpR X f r'):OpR X f (λx y H Q=>r x y H Q\/r' x y H Q):=by
  intro pins s σ H x y v u Q I rx ry q
  rcases q with q | q
  · exact h pins s σ H x y v u Q I rx ry q
  · exact h' pins s σ H x y v u Q I rx ry q
theorem Zar(b:Expr){op:CmpOp}(h:op ≠ .In:=by decide)(h2:op ≠ .NotIn:=by decide):behindInMarks op b=false:=by
  have e1:(op==CmpOp.In)=false:=by cases op <;> first | rfl | exact absurd rfl h
  have e2:(op==CmpOp.NotIn)=false:=by cases op <;> first | rfl | exact absurd rfl h2
  cases b <;> simp[behindInMarks,e1,e2]
theorem Zbz{op:CmpOp}{r:R2}(ho:OpR X (compareOp op) r)(ha:PE X a ta)(hb:PE X b tb)(hm:behindInMarks op b=false):PE X (.Compare a [op] [b] pos) (tOp r ta tb):=by
  intro pins s σ H Q I h
  exact wpAny_Compare1 (Zpj ha hb I h λv u s2 x y H2 I2 rx ry q=>ho pins s2 σ H2 x y v u Q I2 rx ry q) hm
def Zpl(t:TE):TT:=λσ H Q=>t σ H λx H'=>∃k,x = .bl k/\Q k H'
theorem Zaq{op:CmpOp}{r:R2}(ho:OpR X (compareOp op) r)(ha:PE X a ta)(hb:PE X b tb)(hm:behindInMarks op b=false):PT X (.Compare a [op] [b] pos) (Zpl (tOp r ta tb)):=by
  intro pins s σ H Q I h
  refine wpAny_isTrue_Compare1 (thn (ha pins s σ H _ I h) λv s1 ⟨x,H1,I1,r1,q1⟩=>thn (hb pins s1 σ H1 _ I1 q1) λu s2 ⟨y,H2,I2,r2,q2⟩ =>
    thn (ho pins s2 σ H2 x y v u _ I2 r1 r2 q2) λc s3 ⟨z,H3,I3,r3,k,e,q3⟩=>?_) hm
  subst e
  cases r3
  exact wpAny_truthy_bool ⟨H3,I3,q3⟩
theorem Zic:(sizeLine:Nat)<2^63:=by rw[sizeLine_eq]; decide
theorem ZfB{x:V}{us:List Value}(r:Vals [x] us):∃u,us=[u]/\RelV x u:=by
  cases r with
  | cons r1 r2=>cases r2; exact ⟨_,rfl,r1⟩
theorem Zju{x y:V}{us:List Value}(r:Vals [x,y] us):∃u w',us=[u,w']/\RelV x u/\RelV y w':=by
  cases r with
  | cons r1 r2 =>
    cases r2 with
    | cons r3 r4=>cases r4; exact ⟨_,_,rfl,r1,r3⟩
theorem Zid:CallR X (.builtin "abs") (λxs H Q=>∃i,xs=[.int i]/\Q (.int (if i<0 then -i else i)) H):=by
  intro pins s σ H xs us Q I r h
  obtain ⟨i,rfl,q⟩:=h
  obtain ⟨u,rfl,t,rfl⟩:=ZfB r
  exact call_abs_int λu tk=>⟨.int (if i<0 then -i else i),H,I.tok _,⟨_,rfl⟩,q⟩
theorem Zjv(hc:X.calm=true):CallR X (.builtin "max") (λxs H Q=>∃i j,xs=[.int i,.int j]/\Q (.int (if j>i then j else i)) H):=by
  intro pins s σ H xs us Q I r h
  obtain ⟨i,j,rfl,q⟩:=h
  obtain ⟨u,w',rfl,⟨t,rfl⟩,⟨t',rfl⟩⟩:=Zju r
  refine max_two_ints (I.ok.hd hc) λh' tk k=>⟨_,H,I.kept k,?_,q⟩
  by_cases hj:j>i
  · rw[if_pos hj,if_pos hj]; exact ⟨_,rfl⟩
  · rw[if_neg hj,if_neg hj]; exact ⟨_,rfl⟩
theorem Zjw(hc:X.calm=true):CallR X (.builtin "min") (λxs H Q=>∃i j,xs=[.int i,.int j]/\Q (.int (if j<i then j else i)) H):=by
  intro pins s σ H xs us Q I r h
  obtain ⟨i,j,rfl,q⟩:=h
  obtain ⟨u,w',rfl,⟨t,rfl⟩,⟨t',rfl⟩⟩:=Zju r
  refine min_two_ints (I.ok.hd hc) λh' tk k=>⟨_,H,I.kept k,?_,q⟩
  by_cases hj:j<i
  · rw[if_pos hj,if_pos hj]; exact ⟨_,rfl⟩
  · rw[if_neg hj,if_neg hj]; exact ⟨_,rfl⟩
theorem Zgu:CallR X (.type "int") (λxs H Q=>(∃i,xs=[.int i]/\Q (.int i) H)\/∃k,xs=[.bl k]/\Q (.int (if k then 1 else 0)) H):=by
  intro pins s σ H xs us Q I r h
  rcases h with ⟨i,rfl,q⟩ | ⟨k,rfl,q⟩
  · obtain ⟨u,rfl,t,rfl⟩:=ZfB r
    exact call_int_int ⟨.int i,H,I,⟨_,rfl⟩,q⟩
  · obtain ⟨u,rfl,r1⟩:=ZfB r
    cases r1
    exact call_int_bool ⟨.int (if k then 1 else 0),H,I.tok _,⟨_,rfl⟩,q⟩
end
end L2
namespace L2
open PySem PySem.Spec PyProof.Rows
structure ObjM (h:Heap) (x dx C:Addr) (mA:Str->Option Value):Prop where
  obj:h.get? x=some (PySem.W.instObj C dx)
  ns:h.Ns1 dx mA
  ne:dx≠x
theorem Zjx{h:Heap}{dx:Addr}{mA:Str->Option Value}(n:h.Ns1 dx mA):∃od,h.get? dx=some od/\∀name,PySem.W.lookIn name od=some (mA name):=by
  obtain ⟨o,es,ep,ho,hd,hk,_,hm⟩:=n
  refine ⟨o,ho,λname=>?_⟩
  have e:=hm name
  unfold nsFind findBy at e
  rw[<-Array.find?_toList] at e
  unfold PySem.W.lookIn
  rw[hd]
  dsimp only
  split
  · rename_i y q
    rw[q] at e
    exact congrArg some e
  · rename_i q
    rw[q] at e
    have a:es.toList.any (·.refKey)=false:=by
      rw[List.any_eq_false]
      intro y hy
      obtain ⟨z,t,hkey⟩:=hk y (Array.mem_toList_iff.mp hy)
      simp[DictEntry.refKey,hkey]
    have a':¬es.toList.any (·.refKey)=true:=by rw[a]; exact Qj
    rw[if_neg a']
    exact congrArg some e
theorem ObjM.look{h:Heap}{x dx C:Addr}{mA:Str->Option Value}(I:ObjM h x dx C mA):∃od,PySem.W.InstAt h x (PySem.W.instObj C dx) C (some od)/\∀name,PySem.W.lookIn name od=some (mA name) :=
  let ⟨od,ho,hl⟩:=Zjx I.ns
  ⟨od,⟨I.obj,rfl,rfl,ho⟩,hl⟩
section
variable{prog:Program}{w:World}{A:Around}{E:Value->Shared->Prop}{s:Shared}{K:PySem.W.Frag}{x dx C f:Addr}{mA:Str->Option Value}{name:Str}{v:Value}
theorem ZmQ{expr:Bool}{Q:Value->Shared->Prop}(X:K.In s.heap)(I:ObjM s.heap x dx C mA)(hg:PySem.W.plainGet K C name=true)(hh:PySem.W.hasDictIn K C=true)
    (ha:PySem.W.findIn K (.ref C) name=some none) (hv:mA name=some v) (hv':PySem.W.handedIn v=true) (h:Q v { s with toks:=s.toks+1 }) :
    wpAny (model prog w) A (getAttr (.ref x) name expr) Q E s:=by
  obtain ⟨od,J,hl⟩:=I.look
  exact PySem.W.get_value X J (PySem.W.plainGet_of hg).1 (PySem.W.findObj_own hh ha rfl (by rw[hl,hv])) hv' h
theorem Zlg{pl:Sem Bool}{Q:Value×List Value->Shared->Prop}(X:K.In s.heap)(I:ObjM s.heap x dx C mA)(hg:PySem.W.plainGet K C name=true)
    (hf:PySem.W.findIn K (.ref C) name=some (some (.ref f))) (ht:PySem.W.isFn K (.ref f)=true) (hv:mA name=none) (h:Q (.ref f,[.ref x]) s) :
    wpAny (model prog w) A (getMethod (.ref x) name pl) Q E s:=by
  obtain ⟨od,J,hl⟩:=I.look
  exact PySem.W.method_fn X J (PySem.W.plainGet_of hg).1 (PySem.W.plainGet_of hg).2 hf (beq_iff_eq.mp ht) (by show (PySem.W.lookIn name od).map (·.isSome)=some false; rw[hl,hv]; rfl) h
theorem ZmR{ns:List Str}{Q:Unit->Shared->Prop}(X:K.In s.heap)(I:ObjM s.heap x dx C mA)
    (hs:PySem.W.findIn K (.ref C) "__setattr__" = some (some (.builtin "object.__setattr__"))) (hp:PySem.W.plainOver K C=true) (ht:PySem.W.takerIn K C name=some none) (hh:PySem.W.hasDictIn K C=true)
    (hw:PySem.Within mA ns) (hsz:ns.length<=sizeLine)
    (h:∀h',ObjM h' x dx C (λy=>if y=name then some v else mA y)->Heap.SameBut dx s.heap h'->Q () { s with heap:=h',toks:=s.toks+2 }) :
    wpAny (model prog w) A (setAttr (.ref x) name v) Q E s:=by
  obtain ⟨od,J,hl⟩:=I.look
  refine PySem.W.set_plain X J hs (PySem.W.osa_open (s:={ s with toks:=s.toks+1 }) (r:=none) X J hp ht λb=>?_)
  obtain ⟨cd,hc,hd'⟩:=PySem.W.any_some hh
  have hx:s.heap.get? x=some ⟨.ref C,some dx,.plain,#[]⟩:=I.obj
  refine wpAny_bind (wpAny_pure (wpAny_bind (wpAny_bind (wpAny_loadPart hx (wpAny_bind (PySem.W.Looks.here (s:={ s with toks:=s.toks+1 }) (PySem.W.looks_clsIn X hc) ?_))))))
  rw[hd']
  refine wpAny_pure (a:=some dx) (wpAny_bind (wpAny_pure (wpAny_bind ?_)))
  refine wpAny_nsSet1 (s:={ s with toks:=s.toks+1 }) I.ns λh' hn2 hs2=>?_
  obtain ⟨oD,esD,epD,hoD,hdD,hcD⟩:=hn2.count (PySem.Within.cons name v hw)
  refine wpAny_bind (wpAny_lookBehind hoD (by rw[hdD]; exact pastItsLine_dict (Q2 hcD (by rw[Wg]; omega))) ?_)
  exact wpAny_pure (h _ ⟨(hs2.2 _ (Ne.symm I.ne)).trans I.obj,hn2,I.ne⟩ hs2)
theorem Zlh{R:Result->Shared->Prop}{vs:List Value}{kw:List (Str×Value)}(X:K.In s.heap)(hm:PySem.W.makesIn K C=true)
    (hi:PySem.W.findIn K (.ref C) "__init__" = some (some (.ref f))) (hf:PySem.W.typeIn K (.ref f)=some (.type "function"))
    (h:codeAny (model prog w) (A.under (.builtin "type.__call__" ⟨.ref C::vs,kw⟩)) (.call (.ref f) ⟨.ref (s.heap.objs.size+1)::vs,kw⟩) (PySem.W.InitBack (s.heap.objs.size+1) R)
      { s with heap:=(s.heap.push PySem.W.emptyDict).push (PySem.W.instObj C s.heap.objs.size) }) :
    codeAny (model prog w) A (.call (.ref C) ⟨vs,kw⟩) R s:=by
  obtain ⟨hh,g,d,t,os⟩:=s
  exact PySem.W.make_core (PySem.W.makes_of X hm) (PySem.W.looks_findIn X hi) (λself=>PySem.W.bind_fn X self hf) (.inl rfl) h
theorem Zjy{R:Result->Shared->Prop}(X:K.In s.heap)(hm:PySem.W.makesIn K C=true)
    (hi:PySem.W.findIn K (.ref C) "__init__" = some (some (.builtin "object.__init__")))
    (hb:∀self,PySem.W.Looks (model prog w) s.heap (bindSpecial (.builtin "object.__init__") self) (.builtin "object.__init__", [self]))
    (h:codeAny (model prog w) (A.under (.builtin "type.__call__" ⟨[.ref C],[]⟩)) (.call (.builtin "object.__init__") ⟨[.ref (s.heap.objs.size+1)],[]⟩) (PySem.W.InitBack (s.heap.objs.size+1) R)
      { s with heap:=(s.heap.push PySem.W.emptyDict).push (PySem.W.instObj C s.heap.objs.size) }) :
    codeAny (model prog w) A (.call (.ref C) ⟨[],[]⟩) R s:=by
  obtain ⟨hh,g,d,t,os⟩:=s
  exact PySem.W.make_core (PySem.W.makes_of X hm) (PySem.W.looks_findIn X hi) hb (.inr ⟨rfl,rfl⟩) h
end
def Zgv(f:Str)(v:V):List (Str×V)->List (Str×V)
  | []=>[(f,v)]
  | (g,x)::r=>if g=f then (g,v)::r else (g,x)::Zgv f v r
theorem Zce(f g:Str)(v:V):∀fs:List (Str×V),(Zgv f v fs).lookup g=if g=f then some v else fs.lookup g
  | []=>by
    show List.lookup g [(f,v)]=_
    by_cases h:g=f
    · have hb:(g==f)=true:=beq_iff_eq.mpr h
      simp only[List.lookup,hb,if_pos h]
    · have hb:(g==f)=false:=beq_eq_false_iff_ne.mpr h
      simp only[List.lookup,hb,if_neg h]
  | (k,x)::r=>by
    have ih:=Zce f g v r
    rw[show Zgv f v ((k,x)::r)=(if k=f then (k,v)::r else (k,x)::Zgv f v r) from rfl]
    by_cases hk:k=f
    · rw[if_pos hk]
      by_cases h:g=k
      · have hb:(g==k)=true:=beq_iff_eq.mpr h
        simp only[List.lookup,hb,if_pos (h.trans hk)]
      · have hb:(g==k)=false:=beq_eq_false_iff_ne.mpr h
        simp only[List.lookup,hb,if_neg (λe:g=f=>h (e.trans hk.symm))]
    · rw[if_neg hk]
      by_cases h:g=k
      · have hb:(g==k)=true:=beq_iff_eq.mpr h
        simp only[List.lookup,hb,if_neg (λe:g=f=>hk (h.symm.trans e))]
      · have hb:(g==k)=false:=beq_eq_false_iff_ne.mpr h
        simp only[List.lookup,hb]
        exact ih
theorem Zew(f:Str)(v:V):∀fs:List (Str×V),f∈(Zgv f v fs).map (·.1)/\∀g,g∈fs.map (·.1)->g∈(Zgv f v fs).map (·.1)
  | []=>⟨by simp[Zgv],λg h=>by simp at h⟩
  | (k,x)::r=>by
    obtain ⟨i1,i2⟩:=Zew f v r
    rw[show Zgv f v ((k,x)::r)=(if k=f then (k,v)::r else (k,x)::Zgv f v r) from rfl]
    by_cases hk:k=f
    · rw[if_pos hk]
      subst hk
      exact ⟨by simp,λg h=>by simpa using h⟩
    · rw[if_neg hk]
      refine ⟨?_,λg h=>?_⟩
      · rw[W1]
        exact Wd _ i1
      · rw[W1] at h ⊢
        rcases Q8.mp h with e | e
        · exact Q8.mpr (.inl e)
        · exact Wd _ (i2 g e)
theorem Zex(f:Str)(v:V):∀fs:List (Str×V),(Zgv f v fs).length<=fs.length+1
  | []=>by simp[Zgv]
  | (k,x)::r=>by
    have ih:=Zex f v r
    rw[show Zgv f v ((k,x)::r)=(if k=f then (k,v)::r else (k,x)::Zgv f v r) from rfl]
    by_cases hk:k=f
    · rw[if_pos hk,Wg,Wg]; omega
    · rw[if_neg hk,Wg,Wg]; omega
theorem RelO.some_of{v:V}{o:Option Value}(r:RelO (some v) o):∃u,o=some u/\RelV v u:=by
  cases o with
  | none=>exact (show False from r).elim
  | some u=>exact ⟨u,rfl,r⟩
theorem RelO.none_of{o:Option Value}(r:RelO none o):o=none:=by
  cases o with
  | none=>rfl
  | some u=>exact (show False from r).elim
theorem Zjz{v:V}{u:Value}(r:RelV v u):PySem.W.handedIn u=true:=by
  cases v with
  | non=>cases (show u=Value.none from r); rfl
  | bl b=>cases (show u=Value.bool b from r); rfl
  | int i=>obtain ⟨t,e⟩:=(show ∃t,u=Value.int i t from r); cases e; rfl
  | str x=>obtain ⟨t,e⟩:=(show ∃t,u=Value.str x t from r); cases e; rfl
  | byt b=>obtain ⟨t,e⟩:=(show ∃t,u=Value.bytes b t from r); cases e; rfl
  | flt b=>obtain ⟨t,e⟩:=(show ∃t,u=Value.float b t from r); cases e; rfl
  | ref a=>cases (show u=Value.ref a from r); rfl
  | ty n=>cases (show u=Value.type n from r); rfl
section
variable{P:Program}{w:World}{H H':Hp}{h h':Heap}{a C dx:Addr}{fs fs':List (Str×V)}
theorem Zey(hok:HOk P w H h)(e:H a=some (.ins C dx fs)):∃mA,ObjM h a dx C mA/\(∀f,RelO (fs.lookup f) (mA f))/\PySem.Within mA (fs.map (·.1))/\fs.length<=1000/\H dx=some (.own a):=by
  obtain ⟨d,z,ne,ob,mA,n,r,q⟩:=(show ObjOk P w H h a (.ins C dx fs) from hok a _ e)
  exact ⟨mA,⟨ob,n,ne⟩,r,q,z,d⟩
end
structure Cls (K:PySem.W.Frag) (C:Addr):Prop where
  pg:PySem.W.plainGet K C Str.empty=true
  hd:PySem.W.hasDictIn K C=true
  po:PySem.W.plainOver K C=true
  sa:PySem.W.findIn K (.ref C) "__setattr__" = some (some (.builtin "object.__setattr__"))
theorem Cls.get{K:PySem.W.Frag}{C:Addr}(c:Cls K C)(f:Str):PySem.W.plainGet K C f=true:=c.pg
def NoAttr(K:PySem.W.Frag)(C:Addr)(f:Str):Prop:=PySem.W.findIn K (.ref C) f=some none
theorem NoAttr.taker{K:PySem.W.Frag}{C:Addr}{f:Str}(n:NoAttr K C f):PySem.W.takerIn K C f=some none:=by
  unfold PySem.W.takerIn
  rw[show PySem.W.findIn K (.ref C) f=some none from n]
  rfl
structure Con (K:PySem.W.Frag) (C:Addr) (f:Str) (v:V) (u:Value):Prop where
  at_:PySem.W.findIn K (.ref C) f=some (some u)
  rel:RelV v u
  get:PySem.W.specialIn K u "__get__" = some none
  cp:PySem.W.copiedNames.contains f=false
structure Meth (K:PySem.W.Frag) (C:Addr) (m:Str) (f:Addr):Prop where
  at_:PySem.W.findIn K (.ref C) m=some (some (.ref f))
  fn:PySem.W.isFn K (.ref f)=true
  kp:PySem.W.keepIn K (.ref f)=true
section
variable{X:Cx}{pins:List (Addr×Obj)}{σ:St}{H:Hp}{s:Shared}{a C dx:Addr}{fs:List (Str×V)}{f:Str}{v:V}{A:Around}{E:Value->Shared->Prop}
theorem ZiG{b:Bool}{Q:Value->Shared->Prop}(I:Inv X pins σ H s)(e:H a=some (.ins C dx fs))(c:Cls X.K C)(n:NoAttr X.K C f)(l:fs.lookup f=some v)
    (h:∀u s',Inv X pins σ H s'->RelV v u->Q u s'):wpAny (model X.prog X.w) A (getAttr (.ref a) f b) Q E s:=by
  obtain ⟨mA,O,r,_,_,_⟩:=Zey I.hok e
  obtain ⟨u,hu,ru⟩:=RelO.some_of (v:=v) (o:=mA f) (by rw[<-l]; exact r f)
  exact ZmQ I.kIn O (c.get f) c.hd n hu (Zjz ru) (h u _ (I.tok _) ru)
theorem Zfq{m:Str}{g:Addr}{pl:Sem Bool}{Q:Value×List Value->Shared->Prop}(I:Inv X pins σ H s)(e:H a=some (.ins C dx fs))(c:Cls X.K C)(k:Meth X.K C m g)(l:fs.lookup m=none)
    (h:Q (.ref g,[.ref a]) s):wpAny (model X.prog X.w) A (getMethod (.ref a) m pl) Q E s:=by
  obtain ⟨mA,O,r,_,_,_⟩:=Zey I.hok e
  have hn:mA m=none:=RelO.none_of (by rw[<-l]; exact r m)
  exact Zlg I.kIn O (c.get m) k.at_ k.fn hn h
theorem ZiH{y:V}{u:Value}{Q:Unit->Shared->Prop}(I:Inv X pins σ H s)(e:H a=some (.ins C dx fs))(c:Cls X.K C)(n:NoAttr X.K C f)(hl:fs.length<1000)(ry:RelV y u)
    (h:∀s',Inv X pins σ (upd H a (.ins C dx (Zgv f y fs))) s'->Q () s'):wpAny (model X.prog X.w) A (setAttr (.ref a) f u) Q E s:=by
  obtain ⟨mA,O,r,wi,_,ho⟩:=Zey I.hok e
  have hz:(fs.map (·.1)).length<=sizeLine:=by rw[Q0,sizeLine_eq]; omega
  refine ZmR I.kIn O c.sa c.po n.taker c.hd wi hz λh' O' sb=>h _ ?_
  have hd:∃o,h'.get? dx=some o:=let ⟨o,_,_,e',_⟩:=O'.ns; ⟨o,e'⟩
  refine I.write (x:=a) (e:=dx) (by rw[e]; exact True.intro) (.inr ho) (λb q hb z=>(sb.2 b hb).trans z) hd ?_
  refine ⟨by rw[Zap O.ne]; exact ho,?_,O.ne,O'.obj,_,O'.ns,λg=>?_,λg hg=>?_⟩
  · have:=Zex f y fs; omega
  · show RelO ((Zgv f y fs).lookup g) (if g=f then some u else mA g)
    rw[Zce]
    by_cases q:g=f
    · rw[if_pos q,if_pos q]; exact ry
    · rw[if_neg q,if_neg q]; exact r g
  · by_cases q:g=f
    · rw[q]; exact (Zew f y fs).1
    · refine (Zew f y fs).2 g (wi g λz=>hg ?_)
      show (if g=f then some u else mA g)=none
      rw[if_neg q]; exact z
theorem Inv.made(I:Inv X pins σ H s):Inv X pins σ (upd (upd H s.heap.objs.size (.own (s.heap.objs.size+1))) (s.heap.objs.size+1) (.ins C s.heap.objs.size []))
    { s with heap:=(s.heap.push PySem.W.emptyDict).push (PySem.W.instObj C s.heap.objs.size) }:=by
  have e1:(s.heap.push PySem.W.emptyDict).get? s.heap.objs.size=some PySem.W.emptyDict:=Heap.get?_push_size s.heap rfl
  have e2:((s.heap.push PySem.W.emptyDict).push (PySem.W.instObj C s.heap.objs.size)).get? (s.heap.objs.size+1)=some (PySem.W.instObj C s.heap.objs.size):=by
    have:=Heap.get?_push_size (s.heap.push PySem.W.emptyDict) (o:=PySem.W.instObj C s.heap.objs.size) rfl
    rwa [Heap.size_push] at this
  have e3:(s.heap.push PySem.W.emptyDict).Ns s.heap.objs.size (λ_=>none):=⟨PySem.W.emptyDict,#[],_,e1,rfl,(λe he=>absurd he (by simp)),λ_=>rfl⟩
  have I1:=I.laid (a:=s.heap.objs.size) (o:=.own (s.heap.objs.size+1)) (h':=s.heap.push PySem.W.emptyDict) (t':=s.toks) (λb u q=>Heap.get?_push_of_some _ q) (Q1 _) ⟨_,e1⟩
  refine I1.laid (a:=s.heap.objs.size+1) (o:=.ins C s.heap.objs.size []) (t':=s.toks) (λb u q=>Heap.get?_push_of_some _ q) (Uz (Heap.size_push _ _)) ?_
  have ne:s.heap.objs.size≠s.heap.objs.size+1:=Qa (U6 _)
  refine ⟨by rw[Zap ne,Zae],Qd _,ne,e2,λ_=>none,(Heap.Ns1.of_empty e3).at λo q=>Heap.get?_push_of_some _ q,λ_=>True.intro,λy hy=>absurd rfl hy⟩
theorem ZmS{prog:Program}{w:World}{env:Env}{e:Expr}{f:Str}{pos:Pos}{s:Shared}{Q:Value->Shared->Prop}(hb:attributeBase e f env (eval e env)=eval e env)
    (h:wpAny (model prog w) A (eval e env) (λo s₁=>wpAny (model prog w) A (getAttr o f true) Q E s₁) E s):wpAny (model prog w) A (eval (.Attribute e f pos) env) Q E s :=
  Attribute_any_ h (by rw[arm_eval_Attribute,hb])
end
def Zqe(K:PySem.W.Frag)(ta:TE)(f:Str):TE:=λσ H Q=>ta σ H λx H1=>∃a C dx fs v,x = .ref a/\H1 a=some (.ins C dx fs)/\Cls K C/\NoAttr K C f/\fs.lookup f=some v/\Q v H1
def Zqf(K:PySem.W.Frag)(ta tv:TE)(f:Str):TS:=λD σ H=>tv σ H λy H1=>ta σ H1 λx H2=>∃a C dx fs,x = .ref a/\H2 a=some (.ins C dx fs)/\Cls K C/\NoAttr K C f/\fs.length<1000 ∧
  D.nx σ (upd H2 a (.ins C dx (Zgv f y fs)))
section
variable{X:Cx}{o e value:Expr}{f:Str}{pos pos' tpos:Pos}{ta tv:TE}
theorem Zez(he:PE X e ta)(hb:attributeBase e f X.env (eval e X.env)=eval e X.env):PE X (.Attribute e f pos) (Zqe X.K ta f):=by
  intro pins s σ H Q I h
  refine ZmS hb (thn (he pins s σ H _ I h) λu s1 ⟨x,H1,I1,rx,a,C,dx,fs,v,ex,ea,c,n,l,q⟩=>?_)
  subst ex
  obtain rfl:u=Value.ref a:=rx
  exact ZiG I1 ea c n l λu' s2 I2 ru=>⟨v,H1,I2,ru,q⟩
theorem Zn8(ha:PE X o ta)(hv:PE X value tv)(hs:swapsWith value (some (.Attribute o f pos')) pos.line X.env=pure false):PS X (.Assign [.Attribute o f pos'] value pos) (Zqf X.K ta tv f):=by
  intro pins s σ H D I h
  refine plainObj_wpAny_Assign_Attribute (thn (hv pins s σ H _ I h) λu s1 ⟨y,H1,I1,ry,q⟩=>thn (ha pins s1 σ H1 _ I1 q) λov s2 ⟨x,H2,I2,rx,a,C,dx,fs,ex,ea,c,n,l,q2⟩=>?_) hs
  subst ex
  obtain rfl:ov=Value.ref a:=rx
  exact ZiH I2 ea c n l ry λs3 I3=>⟨σ,_,I3,q2⟩
end
section
variable{X:Cx}{pins:List (Addr×Obj)}{σ:St}{H:Hp}{s:Shared}{A:Around}{E:Value->Shared->Prop}{Q:Value->Shared->Prop}{c:Value}{b:Bool}
inductive Zie (K:PySem.W.Frag) (H:Hp):V->Value->Prop where
  | non:Zie K H .non (.type "NoneType")
  | bl (x:Bool):Zie K H (.bl x) (.type "bool")
  | int (i:Int):Zie K H (.int i) (.type "int")
  | str (x:Str):Zie K H (.str x) (.type "str")
  | flt (x:UInt64):Zie K H (.flt x) (.type "float")
  | lst {a:Addr} {xs:List V} (e:H a=some (.lst xs)):Zie K H (.ref a) (.type "list")
  | frz {a:Addr} {o:Obj} {xs:List V} (e:H a=some (.frz o (.lst xs))):Zie K H (.ref a) (.type "list")
  | tup {a:Addr} {xs:List V} (e:H a=some (.tup xs)):Zie K H (.ref a) (.type "tuple")
  | dK {a:Addr} {kvs:List (Key×V)} (e:H a=some (.dK kvs)):Zie K H (.ref a) (.type "dict")
  | dT {a:Addr} {kvs:List (List Key×V)} (e:H a=some (.dT kvs)):Zie K H (.ref a) (.type "dict")
  | ins {a C dx:Addr} {fs:List (Str×V)} (e:H a=some (.ins C dx fs)) (cl:Cls K C) (ha:PySem.W.findIn K (.ref C) "__class__" = some (some (.builtin "object.__class__")))
      (hn:PySem.W.specialIn K (.builtin "object.__class__") "__get__" = some (some (.builtin "getset_descriptor.__get__"))) (htk:PySem.W.takesIn K (.builtin "object.__class__")=some true)
      (hm:PySem.W.mroIn K C (.type "object")=some true):Zie K H (.ref a) (.ref C)
theorem ZjA{x:V}{u t:Value}(I:Inv X pins σ H s)(rx:RelV x u)(ty:Zie X.K H x t)(e:PySem.W.kitOne X.K t c=some b)(h:∀tk,Q (.bool b) { s with toks:=tk }) :
    wpAny (model X.prog X.w) A (call (.builtin "isinstance") [u,c]) Q E s:=by
  cases ty with
  | non=>cases (show u=Value.none from rx); exact PySem.W.kia_one PySem.W.kitx_none I.kIn True.intro e (λz=>nomatch z) h
  | bl y=>cases (show u=Value.bool y from rx); exact PySem.W.kia_one PySem.W.kitx_bool I.kIn True.intro e (λz=>nomatch z) h
  | int i=>obtain ⟨t,q⟩:=(show ∃t,u=Value.int i t from rx); cases q; exact PySem.W.kia_one PySem.W.kitx_int I.kIn True.intro e (λz=>nomatch z) h
  | str y=>obtain ⟨t,q⟩:=(show ∃t,u=Value.str y t from rx); cases q; exact PySem.W.kia_one PySem.W.kitx_str I.kIn True.intro e (λz=>nomatch z) h
  | flt y=>obtain ⟨t,q⟩:=(show ∃t,u=Value.float y t from rx); cases q; exact PySem.W.kia_one PySem.W.kitx_float I.kIn True.intro e (λz=>nomatch z) h
  | @lst a xs ea =>
    cases (show u=Value.ref a from rx)
    obtain ⟨_,_,n,_,h1⟩:=(show ObjOk X.prog X.w H s.heap a (.lst xs) from I.hok a _ ea)
    exact PySem.W.kia_one PySem.W.kitx_list I.kIn ⟨_,h1,rfl⟩ e (λz=>nomatch z) h
  | @frz a ob xs ea =>
    cases (show u=Value.ref a from rx)
    obtain ⟨_,_,_,n,_,h1⟩:=(show ObjOk X.prog X.w H s.heap a (.frz ob (.lst xs)) from I.hok a _ ea)
    exact PySem.W.kia_one PySem.W.kitx_list I.kIn ⟨_,h1,rfl⟩ e (λz=>nomatch z) h
  | @tup a xs ea =>
    cases (show u=Value.ref a from rx)
    obtain ⟨_,_,_,p⟩:=(show ObjOk X.prog X.w H s.heap a (.tup xs) from I.hok a _ ea)
    obtain ⟨o,h1,h2,_⟩:=p
    exact PySem.W.kia_one PySem.W.kitx_tuple I.kIn ⟨o,h1,h2⟩ e (λz=>nomatch z) h
  | @dK a kvs ea =>
    cases (show u=Value.ref a from rx)
    obtain ⟨_,_,vs,_,p⟩:=(show ObjOk X.prog X.w H s.heap a (.dK kvs) from I.hok a _ ea)
    obtain ⟨o,es,ep,h1,h2,_⟩:=p
    exact PySem.W.kia_one PySem.W.kitx_dict I.kIn ⟨o,h1,h2.1⟩ e (λz=>nomatch z) h
  | @dT a kvs ea =>
    cases (show u=Value.ref a from rx)
    obtain ⟨_,_,xs,_,o,es,ep,h1,h2,_⟩:=(show ObjOk X.prog X.w H s.heap a (.dT kvs) from I.hok a _ ea)
    exact PySem.W.kia_one PySem.W.kitx_dict I.kIn ⟨o,h1,h2.1⟩ e (λz=>nomatch z) h
  | @ins a C dx fs ea cl ha hn htk hm =>
    cases (show u=Value.ref a from rx)
    obtain ⟨mA,O,_⟩:=Zey I.hok ea
    obtain ⟨od,J,_⟩:=O.look
    exact PySem.W.kia_one (PySem.W.kitx_own (cl.get _) cl.hd ha hn htk hm) I.kIn J e (λz=>nomatch z) h
end
end L2
namespace L2
open PySem PySem.Spec PyProof.Rows
structure Room (k:Nat) (A:Around):Prop where
  hd:A.handled=none
  dp:A.depth+3*k+5<recursionLimit
  un:A.units+16*k+200<cLine
theorem Room.mono{j k:Nat}{A:Around}(r:Room k A)(h:j<=k):Room j A:=⟨r.hd,by have:=r.dp; omega,by have:=r.un; omega⟩
theorem Room.deeper{k:Nat}{A:Around}(r:Room (k+1) A)(env:Env):Room k (A.deeper env) :=
  ⟨r.hd,by have:=r.dp; show A.depth+1+3*k+5<_; omega,by have:=r.un; show A.units+3+16*k+200<_; omega⟩
theorem Room.in1{k:Nat}{A:Around}(r:Room (k+1) A):Room k A.in1 :=
  ⟨r.hd,by have:=r.dp; show A.depth+3*k+5<_; omega,by have:=r.un; show A.units+1+16*k+200<_; omega⟩
theorem ZiI{A:Around}{C:Addr}{us:List Value}{kw:List (Str×Value)}:(A.under (.builtin "type.__call__" ⟨.ref C::us,kw⟩)).depth=A.depth+1:=by
  first | rfl | simp[Around.under,Code.weight,Code.isCreation,Code.isGuard,Code.isCaller,Code.frames,Code.isFrame,guardIds]
theorem ZiJ{A:Around}{C:Addr}{us:List Value}{kw:List (Str×Value)}:(A.under (.builtin "type.__call__" ⟨.ref C::us,kw⟩)).units=A.units+1:=by
  first | rfl | simp[Around.under,Code.cUnits,Code.frames,Code.isFrame]
theorem Room.make{k:Nat}{A:Around}(r:Room (k+1) A)(C:Addr)(us:List Value)(kw:List (Str×Value)):Room k (A.under (.builtin "type.__call__" ⟨.ref C::us,kw⟩)) :=
  ⟨r.hd,by have:=r.dp; rw[ZiI]; omega,by have:=r.un; rw[ZiJ]; omega⟩
theorem Room.depth{k:Nat}{A:Around}(r:Room k A):A.depth<recursionLimit:=by have:=r.dp; omega
theorem Room.units{k:Nat}{A:Around}(r:Room k A):A.units+64<cLine:=by have:=r.un; omega
def ZpQ:TA:=λ_ H Q=>Q [] H
def Zn9(ta:TE)(tr:TA):TA:=λσ H Q=>ta σ H λx H1=>tr σ H1 λxs H2=>Q (x::xs) H2
section
variable{X:Cx}{e:Expr}{es:List Expr}{te:TE}{t:TA}{pos:Pos}
theorem Zad:PA X [] ZpQ:=λ_ _ _ _ H Q I h=>Calls.spliced_nil ⟨[],H,I,.nil,h⟩
theorem Zaa(ha:PE X e te)(hr:PA X es t)(hs:starEach (e::es) X.env=(false,eval e X.env)::starEach es X.env:=by rfl):PA X (e::es) (Zn9 te t):=by
  intro pos pins s σ H Q I h
  rw[hs]
  show wpAny _ _ (spliced ((false,eval e X.env)::backTo pos (starEach es X.env))) _ _ s
  refine Calls.spliced_cons (thn (ha pins s σ H _ I h) λu s1 ⟨x,H1,I1,r1,q1⟩=>?_)
  exact thn (hr pos pins s1 σ H1 _ I1 q1) λus s2 ⟨xs,H2,I2,r2,q2⟩=>⟨x::xs,H2,I2,.cons r1 r2,q2⟩
def Zqg(t:TA):TE:=λσ H Q=>t σ H λxs H1=>xs.length<=sizeLine/\∀p,H1 p=none->Q (.ref p) (upd H1 p (.tup xs))
def Zqh(t:TA):TE:=λσ H Q=>t σ H λxs H1=>xs.length<=sizeLine/\∀p,H1 p=none->Q (.ref p) (upd H1 p (.lst xs))
theorem ZaB{x1}(h:PA X es t):PE X (.Tuple es x1 pos) (Zqg t):=by
  intro pins s σ H Q I hq
  refine wpAny_Tuple_spliced (thn (h pos pins s σ H _ I hq) λus s1 ⟨xs,H1,I1,r,z,q⟩=>⟨by rw[<-r.length]; exact z,?_⟩)
  have hf:H1 s1.heap.objs.size=none:=I1.hok.fresh (Q1 _)
  refine ⟨.ref s1.heap.objs.size,upd H1 s1.heap.objs.size (.tup xs),I1.laid (t':=s1.toks) (λb u e=>Heap.get?_push_of_some _ e) (Q1 _) ?_,rfl,q _ hf⟩
  exact ⟨z,us,r,⟨_,Heap.get?_push_size _ rfl,rfl,_,rfl⟩⟩
theorem Zb9(h:PA X es t):PE X (.List es pos) (Zqh t):=by
  intro pins s σ H Q I hq
  refine wpAny_List_spliced (thn (h pos pins s σ H _ I hq) λus s1 ⟨xs,H1,I1,r,z,q⟩=>⟨by rw[<-r.length]; exact z,?_⟩)
  have hf:H1 s1.heap.objs.size=none:=I1.hok.fresh (Q1 _)
  refine ⟨.ref s1.heap.objs.size,upd H1 s1.heap.objs.size (.lst xs),I1.laid (t':=s1.toks) (λb u e=>Heap.get?_push_of_some _ e) (Q1 _) ?_,rfl,q _ hf⟩
  exact ⟨z,us,0,r,Heap.get?_push_size _ rfl⟩
end
abbrev Sp:=List V->Hp->VK->XK->Prop
abbrev CXT:=List Env->Hp->Shared->XK->Value->Shared->Prop
structure Env0 (P:Program) (w:World) (K:PySem.W.Frag) (mg:Str->Option Value) (base:Heap) (A:Around) (outer:List Env) (s:Shared) (H:Hp):Prop where
  frames:A.frames=some outer
  mod:Mod K mg base
  bs:∀b o,base.get? b=some o->s.heap.get? b=some o/\H b=none
  bsz:base.objs.size<=s.heap.objs.size
  funs:s.heap.FunFrames base outer
  frf:∀b∈frs outer,H b=none
  hok:HOk P w H s.heap
  bare:AllBare s.gens
def CE(outer:List Env)(P:Program)(w:World)(H:Hp)(s:Shared)(Q:VK)(u:Value)(s':Shared):Prop :=
  ∃v H',s'.os=s.os/\AllBare s'.gens/\Un (frs outer) [] H H' s.heap s'.heap/\HOk P w H' s'.heap/\RelV v u/\Q v H'
def CR(CX:CXT)(outer:List Env)(P:Program)(w:World)(H:Hp)(s:Shared)(Q:VK)(E:XK)(r:Result)(s':Shared):Prop :=
  match r with
  | .ok (.ret u)=>CE outer P w H s Q u s'
  | .ok _=>False
  | .error e=>CX outer H s E e s'
structure FnOk (P:Program) (w:World) (K:PySem.W.Frag) (mg:Str->Option Value) (base:Heap) (CX:CXT) (k:Nat) (f:Addr) (fd:FuncData) (ps:List Str) (sp:Sp):Prop where
  len:∀vs H Q E,sp vs H Q E->vs.length=ps.length
  run:∀(A:Around) (outer:List Env) (s:Shared) (H:Hp) (args:Args) (us:List Value) (vs:List V) (Q:VK) (E:XK),Room k A->Env0 P w K mg base A outer s H->BindsTo s fd args (ps.zip us)->Vals vs us->sp vs H Q E →
    codeAny (model P w) A (.call (.ref f) args) (CR CX outer P w H s Q E) s
theorem FnOk.mono{P:Program}{w:World}{K:PySem.W.Frag}{mg:Str->Option Value}{base:Heap}{CX:CXT}{j k:Nat}{f:Addr}{fd:FuncData}{ps:List Str}{sp:Sp}(F:FnOk P w K mg base CX j f fd ps sp)(h:j<=k) :
    FnOk P w K mg base CX k f fd ps sp:=⟨F.len,λA outer s H args us vs Q E hr=>F.run A outer s H args us vs Q E (hr.mono h)⟩
theorem Env0.make{P:Program}{w:World}{K:PySem.W.Frag}{mg:Str->Option Value}{base:Heap}{A:Around}{outer:List Env}{s:Shared}{H:Hp}(e:Env0 P w K mg base A outer s H)(C:Addr)(us:List Value)(kw:List (Str×Value)) :
    Env0 P w K mg base (A.under (.builtin "type.__call__" ⟨.ref C::us,kw⟩)) outer s H:=⟨by first | exact e.frames | (simpa [Around.under,Code.envs,Code.isFrame,pushEnvs] using e.frames),e.mod,e.bs,e.bsz,e.funs,e.frf,e.hok,e.bare⟩
theorem Env0.in1{P:Program}{w:World}{K:PySem.W.Frag}{mg:Str->Option Value}{base:Heap}{A:Around}{outer:List Env}{s:Shared}{H:Hp}(e:Env0 P w K mg base A outer s H) :
    Env0 P w K mg base A.in1 outer s H:=⟨e.frames,e.mod,e.bs,e.bsz,e.funs,e.frf,e.hok,e.bare⟩
section
variable{X:Cx}{pins:List (Addr×Obj)}{σ:St}{H:Hp}{s s':Shared}
theorem Inv.env0(I:Inv X pins σ H s):Env0 X.prog X.w X.K X.mg X.base X.A X.stack s H :=
  ⟨I.ok.frames,I.ok.mod,I.bs,Q2 I.ok.bsz I.sz,I.stack,I.stkFree,I.hok,I.bare⟩
theorem Inv.after{Q:VK}{u:Value}(I:Inv X pins σ H s)(h:CE X.stack X.prog X.w H s Q u s'):EP X pins σ Q u s':=by
  obtain ⟨v,H',os,bare,un,hok,r,q⟩:=h
  obtain ⟨hh,g,d,t,os'⟩:=s'
  obtain rfl:os'=s.os:=os
  exact ⟨v,H',I.call (h':=hh) (g':=g) (d':=d) (t':=t) (ch:=[]) un hok bare (λb z=>absurd z (by simp)),r,q⟩
end
def Zoa(sp:Sp)(dvs:List V)(E:XK)(t:TA):TE:=λσ H Q=>t σ H λvs H1=>sp (vs++dvs) H1 Q E
def Zob(C:Addr)(sp:Sp)(dvs:List V)(E:XK)(t:TA):TE:=λσ H Q=>t σ H λvs H1=>∀x dx,H1 x=none->H1 dx=none->dx≠x →
  sp (.ref x::(vs++dvs)) (upd (upd H1 dx (.own x)) x (.ins C dx [])) (λv H2=>v = .non/\Q (.ref x) H2) E
def Binds(K:PySem.W.Frag)(fd:FuncData)(ps:List Str)(ds:List Value):Prop :=
  ∀(s:Shared) (us:List Value),K.In s.heap->(us++ds).length=ps.length->BindsTo s fd ⟨us,[]⟩ (ps.zip (us++ds))
theorem Binds.all{K:PySem.W.Frag}{fd:FuncData}{ps:List Str}(h:∀us:List Value,us.length=ps.length->bindArgs fd ⟨us,[]⟩=pure (ps.zip us)):Binds K fd ps []:=λs us _ hl=>by
  rw[List.append_nil] at hl ⊢
  exact .of_eq (h us hl)
def Zgw(CX:CXT)(X:Cx)(E:XK):Prop:=∀(pins:List (Addr×Obj)) (σ:St) (H:Hp) (s:Shared) (e:Value) (s':Shared),Inv X pins σ H s->CX X.stack H s E e s'->X.xe e s'
section
variable{X:Cx}{CX:CXT}{k:Nat}{f C:Addr}{fd:FuncData}{ps:List Str}{sp:Sp}{dvs:List V}{ds:List Value}{E:XK}{x m:Str}{p pos apos:Pos}{e o:Expr}{es:List Expr}{ta:TE}{t:TA}
theorem Zmm{pins:List (Addr×Obj)}{σ:St}{H:Hp}{s:Shared}{Q:VK}{us:List Value}{vs:List V}(F:FnOk X.prog X.w X.K X.mg X.base CX k f fd ps sp)(hr:Room k X.A)(hb:Binds X.K fd ps ds)(hd:Vals dvs ds)(hx:Zgw CX X E)
    (I:Inv X pins σ H s) (r:Vals vs us) (h:sp (vs++dvs) H Q E):wpAny (model X.prog X.w) X.A (call (.ref f) us) (EP X pins σ Q) X.xe s:=by
  have r2:Vals (vs++dvs) (us++ds):=r.append hd
  have hl:(us++ds).length=ps.length:=by rw[<-r2.length]; exact F.len _ _ _ _ h
  refine wpAny_call (codeAny_mono (F.run X.A X.stack s H ⟨us,[]⟩ (us++ds) (vs++dvs) Q E hr I.env0 (hb s us I.kIn hl) r2 h) λr s' hq=>?_)
  cases r with
  | error e=>exact hx pins σ H s e s' I hq
  | ok fl =>
    cases fl with
    | ret u=>exact I.after hq
    | next=>exact False.elim hq
    | brk=>exact False.elim hq
    | cont=>exact False.elim hq
theorem ZmT(F:FnOk X.prog X.w X.K X.mg X.base CX k f fd ps sp)(hr:Room k X.A)(hg:Gl X x)(hm:X.mg x=some (.ref f))(hk:PySem.W.keepIn X.K (.ref f)=true)(hb:Binds X.K fd ps ds)(hd:Vals dvs ds)(hx:Zgw CX X E)
    (ha:PA X (e::es) t) (hdb:(x==("__debug__" : Str))=false:=by decide) (he:starEach (e::es) X.env=(false,eval e X.env)::starEach es X.env:=by rfl) (hpl:(backTo pos (starEach es X.env)).any (·.1)=false:=by rfl) :
    PE X (.Call (.Name x p) (e::es) [] pos) (Zoa sp dvs E t):=by
  intro pins s σ H Q I h
  refine wpAny_Call_Name_kw (ZdI I hg hm ?_ hdb)
  refine PySem.W.callWith_K (h₀:=X.base) I.ok.mod.kin hk (thn (ha pos pins s σ H _ I h) λus s1 ⟨vs,H1,I1,r,q⟩=>⟨I1.kIn,?_⟩) he hpl
  exact Zmm F hr hb hd hx I1 r q
structure Mk (K:PySem.W.Frag) (C f:Addr):Prop where
  makes:PySem.W.makesIn K C=true
  init:PySem.W.findIn K (.ref C) "__init__" = some (some (.ref f))
  fn:PySem.W.isFn K (.ref f)=true
  kp:PySem.W.keepIn K (.ref C)=true
theorem Zli{pins:List (Addr×Obj)}{σ:St}{H:Hp}{s:Shared}{Q:VK}{us:List Value}{vs:List V}(M:Mk X.K C f)(F:FnOk X.prog X.w X.K X.mg X.base CX k f fd ps sp)(hr:Room (k+1) X.A)(hb:Binds X.K fd ps ds)(hd:Vals dvs ds)
    (hx:Zgw CX X E) (I:Inv X pins σ H s) (r:Vals vs us)
    (h:∀x dx,H x=none->H dx=none->dx≠x->sp (.ref x::(vs++dvs)) (upd (upd H dx (.own x)) x (.ins C dx [])) (λv H2=>v = .non/\Q (.ref x) H2) E) :
    wpAny (model X.prog X.w) X.A (call (.ref C) us) (EP X pins σ Q) X.xe s:=by
  have hq:=h (s.heap.objs.size+1) s.heap.objs.size (I.hok.fresh (U7 _)) (I.hok.fresh (Q1 _)) (Qa (U6 _))
  have I2:=Inv.made (C:=C) I
  have r2:Vals (V.ref (s.heap.objs.size+1)::(vs++dvs)) (Value.ref (s.heap.objs.size+1)::(us++ds)):=.cons rfl (r.append hd)
  have hl:(Value.ref (s.heap.objs.size+1)::us++ds).length=ps.length:=by
    have e:=r2.length
    rw[F.len _ _ _ _ hq] at e
    exact e.symm
  refine wpAny_call (Zlh (f:=f) I.kIn M.makes M.init (beq_iff_eq.mp M.fn) (codeAny_mono (F.run _ X.stack _ _ ⟨Value.ref (s.heap.objs.size+1)::us,[]⟩ (Value.ref (s.heap.objs.size+1)::(us++ds)) _ _ E (hr.make C us [])
    (I2.env0.make C us []) (hb _ (Value.ref (s.heap.objs.size+1)::us) I2.kIn hl) r2 hq) λr s' hq'=>?_))
  cases r with
  | error e=>exact hx pins σ _ _ e s' I2 hq'
  | ok fl =>
    cases fl with
    | ret u =>
      obtain ⟨v,H',I3,rv,ev,q3⟩:=I2.after hq'
      subst ev
      exact ⟨rv,⟨V.ref (s.heap.objs.size+1),H',I3,rfl,q3⟩⟩
    | next=>exact False.elim hq'
    | brk=>exact False.elim hq'
    | cont=>exact False.elim hq'
theorem ZmU(M:Mk X.K C f)(F:FnOk X.prog X.w X.K X.mg X.base CX k f fd ps sp)(hr:Room (k+1) X.A)(hg:Gl X x)(hm:X.mg x=some (.ref C))(hb:Binds X.K fd ps ds)(hd:Vals dvs ds)(hx:Zgw CX X E)
    (ha:PA X (e::es) t) (hdb:(x==("__debug__" : Str))=false:=by decide) (he:starEach (e::es) X.env=(false,eval e X.env)::starEach es X.env:=by rfl) (hpl:(backTo pos (starEach es X.env)).any (·.1)=false:=by rfl) :
    PE X (.Call (.Name x p) (e::es) [] pos) (Zob C sp dvs E t):=by
  intro pins s σ H Q I h
  refine wpAny_Call_Name_kw (ZdI I hg hm ?_ hdb)
  refine PySem.W.callWith_K (h₀:=X.base) I.ok.mod.kin M.kp (thn (ha pos pins s σ H _ I h) λus s1 ⟨vs,H1,I1,r,q⟩=>⟨I1.kIn,?_⟩) he hpl
  exact Zli M F hr hb hd hx I1 r q
end
section
variable{X:Cx}{CX:CXT}{k:Nat}{f C:Addr}{fd:FuncData}{ps ks:List Str}{sp:Sp}{E:XK}{x m:Str}{p pos apos kpos:Pos}{e o:Expr}{es:List Expr}{kws:List Keyword}{te ta:TE}{t tk:TA}{nm:Option Str}
structure KBinds (K:PySem.W.Frag) (fd:FuncData) (ps ks:List Str) (g:List Value->List Value->List Value) (gV:List V->List V->List V):Prop where
  to:∀(s:Shared) (us ws:List Value),K.In s.heap->(g us ws).length=ps.length->BindsTo s fd ⟨us,ks.zip ws⟩ (ps.zip (g us ws))
  rel:∀ {vs:List V} {us:List Value} {zs:List V} {ws:List Value},Vals vs us->Vals zs ws->Vals (gV vs zs) (g us ws)
variable{g:List Value->List Value->List Value}{gV:List V->List V->List V}
end
structure FnScope (N P:List Str) (sc:Scope):Prop where
  kind:sc.kind = .function
  co:sc.isCoroutine=false
  gen:sc.isGenerator=false
  nd:N.Nodup
  pre:N.take P.length=P
  par:∀x∈P,sc.names.lookup x=some .local\/sc.names.lookup x=some .cell
  nofree:∀y∈sc.names,y.2 ≠ .free
theorem Zgx{kindOf:Str->Option NameKind}{x:Str}:∀ {binds:List (Str×Value)} {m:Str->Option Value},(∀v,(x,v)∉binds)->bindL kindOf binds m x=m x
  | [],_,_=>rfl
  | (n,v)::r,m,h=>by
    unfold bindL
    rw[Zgx λw hw=>h w (Wd _ hw)]
    split
    · have:x≠n:=by rintro rfl; exact h v Qw
      simp[this]
    · rfl
theorem Zgy{kindOf:Str->Option NameKind}{x:Str}:∀ {binds:List (Str×Value)} {m:Str->Option Value},(∀v,(x,v)∉binds)->bindC kindOf binds m x=m x
  | [],_,_=>rfl
  | (n,v)::r,m,h=>by
    unfold bindC
    rw[Zgy λw hw=>h w (Wd _ hw)]
    split
    · rfl
    · have:x≠n:=by rintro rfl; exact h v Qw
      simp[this]
theorem Zgz{kindOf:Str->Option NameKind}{x:Str}{v:Value}:∀ {P:List Str} {vs:List Value} {i:Nat} {m:Str->Option Value},P.Nodup->P[i]?=some x->vs[i]?=some v->kindOf x=some .local →
    bindL kindOf (P.zip vs) m x=some v
  | [],_,_,_,_,h,_,_=>by simp at h
  | _::_,[],_,_,_,_,h,_=>by simp at h
  | p::P,w::vs,0,m,nd,h1,h2,hk=>by
    simp at h1 h2; subst h1; subst h2
    show bindL kindOf ((p,w)::P.zip vs) m p=_
    unfold bindL
    rw[Zgx λv hv=>(List.nodup_cons.mp nd).1 (List.of_mem_zip hv).1,if_pos hk]
    simp
  | p::P,w::vs,i+1,m,nd,h1,h2,hk=>by
    show bindL kindOf ((p,w)::P.zip vs) m x=_
    unfold bindL
    exact Zgz (i:=i) (List.nodup_cons.mp nd).2 (by simpa using h1) (by simpa using h2) hk
theorem ZgA{kindOf:Str->Option NameKind}{x:Str}{v:Value}:∀ {P:List Str} {vs:List Value} {i:Nat} {m:Str->Option Value},P.Nodup->P[i]?=some x->vs[i]?=some v->kindOf x≠some .local →
    bindC kindOf (P.zip vs) m x=some v
  | [],_,_,_,_,h,_,_=>by simp at h
  | _::_,[],_,_,_,_,h,_=>by simp at h
  | p::P,w::vs,0,m,nd,h1,h2,hk=>by
    simp at h1 h2; subst h1; subst h2
    show bindC kindOf ((p,w)::P.zip vs) m p=_
    unfold bindC
    rw[Zgy λv hv=>(List.nodup_cons.mp nd).1 (List.of_mem_zip hv).1,if_neg hk]
    simp
  | p::P,w::vs,i+1,m,nd,h1,h2,hk=>by
    show bindC kindOf ((p,w)::P.zip vs) m x=_
    unfold bindC
    exact ZgA (i:=i) (List.nodup_cons.mp nd).2 (by simpa using h1) (by simpa using h2) hk
def start(N:List Str)(vs:List V):St:=vs.map some++List.replicate (N.length-vs.length) none
def ZmV(CX:CXT)(P:Program)(w:World)(K:PySem.W.Frag)(mg:Str->Option Value)(base:Heap)(N:List Str)(qual:Str)(scope:Scope)(f:Addr)(cd:Value)(A:Around)(outer:List Env)(s:Shared)(H:Hp)(E:XK):Cx where
  prog:=P
  w:=w
  K:=K
  mg:=mg
  base:=base
  A:=A.deeper (envOfC qual scope s.heap.objs.size f cd)
  N:=N
  s₀:=s
  H₀:=H
  env:=envOfC qual scope s.heap.objs.size f cd
  outer:=outer
  stack:=envOfC qual scope s.heap.objs.size f cd::outer
  ex:=[]
  calm:=true
  fn:=λ_=>true
  pn:=[]
  xe:=λe s'=>wpAny (model P w) (A.deeper (envOfC qual scope s.heap.objs.size f cd)) (leaving (envOfC qual scope s.heap.objs.size f cd) e) (λ_ s''=>CX outer H s E e s'') (λe' s''=>CX outer H s E e' s'') s'
theorem Zif{sc:Scope}{n:Nat}{x:Str}(h:sc.names.lookup x=some .cell):∃c,(cellsFrom n sc.names []).lookup x=some c:=by
  have q:=PySem.W.cellsFrom_some sc.names n [] (.inl h)
  exact Option.isSome_iff_exists.mp q
theorem ZjB{CX:CXT}{P:Program}{w:World}{K:PySem.W.Frag}{mg:Str->Option Value}{base:Heap}{N ps:List Str}{qual:Str}{scope:Scope}{f:Addr}{cd:Value}{A:Around}{outer:List Env}{s s1:Shared}{H:Hp}{E:XK}{us:List Value}{vs:List V}
    (S:FnScope N ps scope) (hd:A.handled=none) (e0:Env0 P w K mg base A outer s H) (hl:vs.length=ps.length) (r:Vals vs us)
    (x:InCallC s s.heap.objs.size (bindL (envOfC qual scope s.heap.objs.size f cd).kindOf (ps.zip us) λ_=>none) (cellsFrom (s.heap.objs.size+1) scope.names []) (bindC (envOfC qual scope s.heap.objs.size f cd).kindOf (ps.zip us) λ_=>none) s1) :
    Inv (ZmV CX P w K mg base N qual scope f cd A outer s H E) [] (start N vs) H s1:=by
  have hpl:ps.length<=N.length:=by have:=congrArg List.length S.pre; rw[Ql] at this; omega
  obtain ⟨h1,tk,rfl,hk⟩:=x.done
  have noA:∀b:Addr,b∉(ZmV CX P w K mg base N qual scope f cd A outer s H E).ex:=λb z=>absurd (show b∈([]:List Addr) from z) (by simp)
  refine ⟨⟨e0.mod,S.kind,rfl,rfl,Q1 _,λy z c h1 h2=>?_,λy hy=>?_,λy c _ h=>?_,λ_=>hd,Around.frames_deeper e0.frames,.inr ⟨rfl,rfl⟩,λb z=>absurd z (noA b),e0.bs,e0.bsz,λb _ _=>noA b,λb z=>absurd z (noA b),e0.funs,e0.frf⟩,
    rfl,e0.bare,Un.kept hk,⟨_,x.toInCall.ns,λi y v h1 h2 h3=>?_⟩,λy c h=>⟨_,x.cell y c h⟩,e0.hok.fresh (Q1 _),λy c h=>?_,λp hp=>absurd (show p∈([]:List (Addr×Obj)) from hp) (by simp),e0.hok.kept hk,?_⟩
  · exact name_of_addr x.apart (PySem.mem_of_lookup h1) (PySem.mem_of_lookup h2)
  · have hy:scope.names.lookup y=some .cell\/scope.names.lookup y=some .free:=hy
    rcases hy with hy | hy
    · exact Zif hy
    · exact absurd rfl (S.nofree _ (PySem.mem_of_lookup hy))
  · exact Qt (x.above y c (PySem.mem_of_lookup h))
  · have hi:i<vs.length:=by
      unfold start at h2
      by_cases hi:i<vs.length
      · exact hi
      · rw[W3 (by simpa using hi)] at h2
        rw[List.getElem?_replicate] at h2
        split at h2 <;> cases h2
    have ha:vs[i]?=some v:=by
      unfold start at h2
      rw[W2 (by simpa using hi),Qh] at h2
      cases e:vs[i]? with
      | none=>rw[e] at h2; cases h2
      | some a=>rw[e] at h2; cases h2; rfl
    obtain ⟨u,hu,rv⟩:=r.get ha
    have hp:ps[i]?=some y:=by
      rw[<-S.pre,List.getElem?_take_of_lt (by omega)]; exact h1
    have ndP:ps.Nodup:=by rw[<-S.pre]; exact S.nd.sublist (List.take_sublist _ _)
    refine ⟨u,rv,?_⟩
    rcases S.par y (Q9 hp) with k | k
    · exact .inl ⟨k,Zgz ndP hp hu k⟩
    · obtain ⟨c,e⟩:=Zif (n:=s.heap.objs.size+1) k
      refine .inr ⟨.inl k,c,e,?_⟩
      have q:=x.cell y c e
      rw[ZgA ndP hp hu (by show scope.names.lookup y≠_; rw[k]; decide)] at q
      exact q
  · exact e0.hok.fresh (Qt (x.above y c (PySem.mem_of_lookup h)))
  · unfold start
    show _=N.length
    rw[Qc,Q0,U8]
    omega
theorem ZmW{CX:CXT}{P:Program}{w:World}{K:PySem.W.Frag}{mg:Str->Option Value}{base:Heap}{k:Nat}{f:Addr}{name qual:Str}{params:Arguments}{body:List Stmt}{scope:Scope}{dV kV doc pm cdv ct oc:Value}{an od:Option Addr}
    {osl:Array (Option Value)} {N ps:List Str} {sp:Sp} (lk:K.lookup f=some ⟨oc,od,.func (PySem.W.fnOf name qual params body scope dV kV doc pm an cdv ct),osl⟩) (hcd:PySem.W.codeIn K cdv qual=true) (S:FnScope N ps scope)
    (len:∀vs H Q E,sp vs H Q E->vs.length=ps.length)
    (hbody:∀(A:Around) (outer:List Env) (s:Shared) (H:Hp) (vs:List V) (Q:VK) (E:XK),Room k (A.deeper (envOfC qual scope s.heap.objs.size f cdv))->sp vs H Q E →
      ∃t,PSs (ZmV CX P w K mg base N qual scope f cdv A outer s H E) body t/\t { nx:=λ_ H'=>Q .non H',rt:=Q } (start N vs) H) :
    FnOk P w K mg base CX (k+1) f (PySem.W.fnOf name qual params body scope dV kV doc pm an cdv ct) ps sp:=by
  refine ⟨len,λA outer s H args us vs Q E hr e0 hb r hsp=>?_⟩
  have hl:=len _ _ _ _ hsp
  have KX:K.In s.heap:=e0.mod.kin.keeps λb o e=>(e0.bs b o e).1
  have lim:s.heap.NoLimit:=e0.mod.nolimit.keeps λb o e=>(e0.bs b o e).1
  have hkind:∀y∈ps.zip us,scope.names.lookup y.1=some .local\/(scope.names.lookup y.1=some .cell/\((cellsFrom (s.heap.objs.size+1) scope.names []).lookup y.1).isSome=true):=λ⟨n,v⟩ hy=>by
    rcases S.par n (List.of_mem_zip hy).1 with q | q
    · exact .inl q
    · exact .inr ⟨q,PySem.W.cellsFrom_some _ _ _ (.inl q)⟩
  refine codeAny_call_function hr.depth (KX _ _ lk) rfl S.co S.gen rfl (PySem.W.codeRec_of KX hcd) (hb _ _ _ _ ?_)
  refine wpAny_newFunctionEnv_cells S.kind hkind λenv he s1 x=>?_
  subst he
  refine ⟨lim.keeps x.toInCall.keep,codeAny_func ?_⟩
  obtain ⟨t,ht,hq⟩:=hbody A outer s H vs Q E (hr.deeper _) hsp
  have I:Inv (ZmV CX P w K mg base N qual scope f cdv A outer s H E) [] (start N vs) H s1:=ZjB S hr.hd e0 hl r x
  refine wpAny_mono (ht [] s1 (start N vs) H _ I hq) (λfl s' hs=>?_) λe s' hs=>hs
  have fin:∀ {σ':St} {H':Hp} {v:V} {u:Value},Inv (ZmV CX P w K mg base N qual scope f cdv A outer s H E) [] σ' H' s'->RelV v u->Q v H'->CE outer P w H s Q u s' :=
    fun {σ' H' v u} J rv q=>⟨v,H',J.os,J.bare,J.base,J.hok,rv,q⟩
  cases fl with
  | ret u =>
    obtain ⟨v,σ',H',J,rv,q⟩:=hs
    exact fin J rv q
  | next =>
    obtain ⟨σ',H',J,q⟩:=hs
    exact fin (v:=V.non) (u:=Value.none) J rfl q
  | brk =>
    obtain ⟨_,_,_,q⟩:=hs
    exact False.elim q
  | cont =>
    obtain ⟨_,_,_,q⟩:=hs
    exact False.elim q
end L2
namespace L2
open PySem PySem.Spec PyProof.Rows
section
variable{X:Cx}{x:Str}{p pos:Pos}{e:Expr}{es:List Expr}{t:TA}{id T:String}{r:List V->Hp->VK->Prop}
def tCB(r:List V->Hp->VK->Prop)(t:TA):TE:=λσ H Q=>t σ H λvs H1=>r vs H1 Q
theorem Zas(hc:CallR X (.builtin id) r)(hg:Gl X x)(hm:X.mg x=none)(hv:bootBuiltins x=some (.builtin id))(ha:PA X (e::es) t)(hn:x ≠ "__name__" := by decide) (hdb:(x==("__debug__" : Str))=false:=by decide)
    (he:starEach (e::es) X.env=(false,eval e X.env)::starEach es X.env:=by rfl) (hpl:(backTo pos (starEach es X.env)).any (·.1)=false:=by rfl):PE X (.Call (.Name x p) (e::es) [] pos) (tCB r t):=by
  intro pins s σ H Q I h
  refine wpAny_Call_Name_kw (Zc0 I hg hm hv ?_ hn hdb)
  exact PyProof.Rows.callWith_builtin1 (thn (ha pos pins s σ H _ I h) λus s1 ⟨vs,H1,I1,r1,q1⟩=>hc pins s1 σ H1 vs us Q I1 r1 q1) he hpl
theorem Zca(hc:CallR X (.type T) r)(hg:Gl X x)(hm:X.mg x=none)(hv:bootBuiltins x=some (.type T))(ha:PA X (e::es) t)(hn:x ≠ "__name__" := by decide) (hdb:(x==("__debug__" : Str))=false:=by decide)
    (he:starEach (e::es) X.env=(false,eval e X.env)::starEach es X.env:=by rfl) (hpl:(backTo pos (starEach es X.env)).any (·.1)=false:=by rfl):PE X (.Call (.Name x p) (e::es) [] pos) (tCB r t):=by
  intro pins s σ H Q I h
  refine wpAny_Call_Name_kw (Zc0 I hg hm hv ?_ hn hdb)
  exact PyProof.Rows.callWith_type1 (thn (ha pos pins s σ H _ I h) λus s1 ⟨vs,H1,I1,r1,q1⟩=>hc pins s1 σ H1 vs us Q I1 r1 q1) he hpl
end
end L2
namespace HT
open PySem PyProof.Rows
section
open PySem.SeqAt
open PySem.AutoSeq1 (wpAny_loadPart')
open PySem.MeetsSeq PySem.MeetsSeq2 PySem.MeetsSeq3
end
section
variable{prog:Program}{w:World}{A:Around}{E:Value->Shared->Prop}{s:Shared}
theorem cat_tup{t b:Addr}{vs ws:List Value}{Q:Value->Shared->Prop}(ht:IsTup s.heap t vs.toArray)(hb:IsTup s.heap b ws.toArray)(hv:vs≠[])
    (h1:ws=[]->Q (.ref t) s) (h2:ws≠[]->Q (.ref s.heap.objs.size) { s with heap:=s.heap.push { cls:=.type "tuple", data:=.seq (vs++ws).toArray } })
    (hsz:vs.length+ws.length<=sizeLine):wpAny (model prog w) A (binaryOp .Add (.ref t) (.ref b)) Q E s:=by
  obtain ⟨⟨cls,dd,data,sl⟩,ho,hc,n,hd⟩:=id ht
  obtain ⟨⟨cls2,dd2,data2,sl2⟩,ho2,hc2,n2,hd2⟩:=id hb
  simp only at hc hd hc2 hd2
  subst hc hd hc2 hd2
  have e:vs.toArray++ws.toArray=(vs++ws).toArray:=by simp
  by_cases hw:ws=[]
  · exact concat_meets ⟨_,ho,rfl⟩ ⟨_,ho2,rfl⟩ noFill_tuple_add seq_tuple_add PySem.F.slot_tuple_add PySem.F.entry_tuple_add (PySem.F.args_tuple_add_2 _ _)
      (tuple_addW1 t b vs.toArray ws.toArray n n2 dd dd2 sl sl2 (by simpa using hv) (by simp[hw])) ⟨ho,ho2,h1 hw⟩
  · refine concat_meets ⟨_,ho,rfl⟩ ⟨_,ho2,rfl⟩ noFill_tuple_add seq_tuple_add PySem.F.slot_tuple_add PySem.F.entry_tuple_add (PySem.F.args_tuple_add_2 _ _)
      (tuple_addW2 t b vs.toArray ws.toArray n n2 dd dd2 sl sl2 (by simpa using hv) (by simpa using hw) (by rw[Qb,Qb]; exact hsz)) ⟨ho,ho2,?_⟩
    rw[e]
    exact h2 hw
def sIx(n d:Nat):Option Int->Nat
  | none=>d
  | some v=>if v<0 then (v+(n:Int)).toNat else min v.toNat n
theorem sIx_none(n d:Nat):sIx n d none=d:=rfl
theorem sIx_nat(n d k:Nat):sIx n d (some (k:Int))=min k n:=by
  show (if (k:Int)<0 then ((k:Int)+(n:Int)).toNat else min (k:Int).toNat n)=min k n
  rw[if_neg (by omega),Q7]
theorem Zoc(n d:Nat)(hd:d<=n)(o:Option Int):sIx n d o<=n:=by
  cases o with
  | none=>exact hd
  | some v =>
    show (if v<0 then (v+(n:Int)).toNat else min v.toNat n)<=n
    by_cases hv:v<0
    · rw[if_pos hv]; omega
    · rw[if_neg hv]; exact Nat.min_le_right _ _
theorem ZjC(v:Int)(n d:Nat):(if v<0 then max (v+(n:Int)) 0 else min v (n:Int))=((sIx n d (some v):Nat):Int):=by
  show (if v<0 then max (v+(n:Int)) 0 else min v (n:Int))=(((if v<0 then (v+(n:Int)).toNat else min v.toNat n):Nat):Int)
  by_cases hv:v<0
  · simp only[if_pos hv]; omega
  · simp only[if_neg hv]; omega
theorem ZiK(lo hi:Option Int)(n:Nat):Builtin.Slice.sliceAdjust lo hi 1 (n:Int)=(((sIx n 0 lo:Nat):Int),((sIx n n hi:Nat):Int)):=by
  have h1:¬((1:Int)<0):=by omega
  unfold Builtin.Slice.sliceAdjust
  simp only[h1,if_false]
  refine Prod.ext ?_ ?_
  · cases lo with
    | none=>rfl
    | some v=>exact ZjC v n 0
  · cases hi with
    | none=>rfl
    | some v=>exact ZjC v n n
theorem ZiL(i j:Nat):Builtin.Slice.slicePlaces (i:Int) (j:Int) 1=j-i:=by
  unfold Builtin.Slice.slicePlaces
  have h1:(1:Int)>0:=by omega
  simp only[h1,if_true,Int.ediv_one]
  split <;> omega
theorem Zfr{v:Value}{o:Option Int}{Q:Option Int->Shared->Prop}(p:IsPart v o)(h:Q o s):wpAny (model prog w) A (Builtin.Slice.slicePartIndex v) Q E s:=by
  cases p with
  | none=>exact slicePart_none h
  | int i t=>exact slicePart_int h
theorem Zeh{sl:Addr}{vl vu:Value}{lo hi:Option Int}{n:Nat}{Q:Int×Int×Nat->Shared->Prop}(hs:s.heap.IsSliceOf sl vl vu .none)(pl:IsPart vl lo)(pu:IsPart vu hi)
    (h:Q (((sIx n 0 lo:Nat):Int),1,sIx n n hi-sIx n 0 lo) s):wpAny (model prog w) A (Builtin.Slice.sliceApplied (.ref sl) (pure (n:Int))) Q E s:=by
  obtain ⟨os,hos,hcs,hds⟩:=id hs
  unfold Builtin.Slice.sliceApplied Builtin.Slice.sliceFields
  refine wpAny_bind (wpAny_bind (wpAny_field hos hds (x:=vl) rfl (wpAny_bind (wpAny_field hos hds (x:=vu) rfl (wpAny_bind (wpAny_field hos hds (x:=.none) rfl (wpAny_pure ?_)))))))
  refine wpAny_bind (slicePart_none ?_)
  show wpAny _ _ (if ((1:Int)==0)=true then _ else _) _ _ s
  rw[if_neg (by decide)]
  refine wpAny_bind (Zfr pl (wpAny_bind (Zfr pu (wpAny_bind (wpAny_pure ?_)))))
  show wpAny _ _ (match Builtin.Slice.sliceAdjust lo hi 1 (n:Int) with | (lo,hi)=>pure (lo,(1:Int),Builtin.Slice.slicePlaces lo hi 1)) _ _ s
  rw[ZiK lo hi n]
  show wpAny _ _ (pure (((sIx n 0 lo:Nat):Int),(1:Int),Builtin.Slice.slicePlaces ((sIx n 0 lo:Nat):Int) ((sIx n n hi:Nat):Int) 1)) _ _ s
  rw[ZiL]
  exact wpAny_pure h
theorem Zlj(xs:Array Value)(i k:Nat):((List.range k).filterMap λ(m:Nat)=>xs[((i:Int)+(m:Int)*1).toNat]?).toArray=((xs.toList.drop i).take k).toArray:=by
  have e:(λ(m:Nat)=>xs[((i:Int)+(m:Int)*1).toNat]?)=λm=>xs[i+m]?:=by
    funext m
    have:((i:Int)+(m:Int)*1).toNat=i+m:=by omega
    rw[this]
  rw[e]
  have:=pick_run xs i k
  rw[List.filterMap_map] at this
  have e2:((λx=>xs[x]?)∘λx=>i+x)=λm=>xs[i+m]?:=rfl
  rw[e2] at this
  rw[this]
theorem getItem_tuple_cut{t sl:Addr}{items:Array Value}{vl vu:Value}{lo hi:Option Int}{Q:Value->Shared->Prop}(ht:IsTup s.heap t items)(hs:s.heap.IsSliceOf sl vl vu .none)(pl:IsPart vl lo)(pu:IsPart vu hi)
    (hw:¬(sIx items.size 0 lo=0/\sIx items.size items.size hi=items.size))
    (h:Q (.ref s.heap.objs.size) { s with heap:=s.heap.push { cls:=.type "tuple", data:=.seq ((items.toList.drop (sIx items.size 0 lo)).take (sIx items.size items.size hi-sIx items.size 0 lo)).toArray } })
    (hsz:items.size<=sizeLine):wpAny (model prog w) A (getItem (.ref t) (.ref sl)) Q E s:=by
  have htake:sizeOk (.seq ((items.toList.drop (sIx items.size 0 lo)).take (sIx items.size items.size hi-sIx items.size 0 lo)).toArray):=by
    show ((items.toList.drop (sIx items.size 0 lo)).take (sIx items.size items.size hi-sIx items.size 0 lo)).toArray.size<=sizeLine
    rw[Qb,Ql,Wp,Uv]
    omega
  have hj:sIx items.size items.size hi<=items.size:=Zoc _ _ (Q1 _) hi
  obtain ⟨os,hos,hcs,hds⟩:=id hs
  have hTs:s.TypeIs (.ref sl) "slice" := ⟨os,hos,hcs⟩
  unfold getItem
  try with_reducible refine wpAny_holding ?_
  first | refine wpAny_bind (wpAny_pure ?_) | skip
  refine wpAny_bind (wpAny_sequenceKey ht.typeIs (by decide) ?_)
  refine wpAny_bind (wpAny_callSpecial?_slot (name:=Str.ofString "__getitem__") ht.typeIs PyProof.Rows.slot_tuple_getitem
    (wpAny_call_entry PyProof.Rows.slot_tuple_getitem ht.typeIs entry_tuple_getitem ?_ (args_tuple_getitem _ _)))
  show wpAny _ _ (Builtin.Tuple.tupleItemsOf (.ref t) >>= _) _ _ s
  refine wpAny_bind (tupleItemsOf_ ht ?_)
  refine wpAny_bind (wpAny_typeOf hTs ?_)
  rw[if_pos (by decide)]
  refine wpAny_bind (Zeh hs pl pu ?_)
  have hno:¬((((sIx items.size 0 lo:Nat):Int)==0&&(1:Int)==1&&(sIx items.size items.size hi-sIx items.size 0 lo)==items.size)=true):=by
    intro q
    rw[Bool.and_eq_true,Bool.and_eq_true] at q
    have q1:((sIx items.size 0 lo:Nat):Int)=0:=eq_of_beq q.1.1
    have q2:sIx items.size items.size hi-sIx items.size 0 lo=items.size:=eq_of_beq q.2
    exact hw ⟨by omega,by omega⟩
  show wpAny _ _ (if (((sIx items.size 0 lo:Nat):Int)==0&&(1:Int)==1&&(sIx items.size items.size hi-sIx items.size 0 lo)==items.size)=true then _ else _) _ _ s
  rw[if_neg hno,Zlj]
  first
    | exact wpAny_bind (m:=Builtin.Tuple.tupleExact _) (wpAny_newObj_type (wpAny_pure ⟨_,rfl,wpAny_pure h⟩) htake)
    | exact wpAny_bind (m:=Builtin.Tuple.tupleExact _) (wpAny_newObj_type (wpAny_bind (wpAny_pure (wpAny_pure ⟨_,rfl,wpAny_pure h⟩))) htake)
    | exact wpAny_bind (wpAny_bind (m:=Builtin.Tuple.tupleExact _) (wpAny_newObj_type (wpAny_pure (wpAny_pure ⟨_,rfl,wpAny_pure h⟩)) htake))
    | exact wpAny_bind (wpAny_bind (m:=Builtin.Tuple.tupleExact _) (wpAny_newObj_type (wpAny_pure ⟨_,rfl,wpAny_pure h⟩) htake))
end
end HT
namespace L2
open PySem PySem.Spec PyProof.Rows
abbrev TO:=St->Hp->(Option Int->Hp->Prop)->Prop
def PO(X:Cx)(e:Option Expr)(t:TO):Prop :=
  ∀(pins:List (Addr×Obj)) (s:Shared) (σ:St) (H:Hp) (Q:Option Int->Hp->Prop),Inv X pins σ H s->t σ H Q →
    wpAny (model X.prog X.w) X.A (evalPart e X.env) (λu s'=>∃o H',Inv X pins σ H' s'/\IsPart u o/\Q o H') X.xe s
def ZmX:TO:=λ_ H Q=>Q none H
def Zpm(t:TE):TO:=λσ H Q=>t σ H λx H1=>∃i,x = .int i/\Q (some i) H1
section
variable{X:Cx}{e:Expr}{te:TE}{lo hi:Option Expr}{tl th:TO}{pos p2:Pos}
theorem Zc5:PO X none ZmX:=by
  intro pins s σ H Q I h
  rw[evalPart_none]
  exact wpAny_pure ⟨none,H,I,.none,h⟩
theorem Zcf(h:PE X e te):PO X (some e) (Zpm te):=by
  intro pins s σ H Q I hw
  rw[evalPart_some]
  refine thn (h pins s σ H _ I hw) λu s1 ⟨x,H1,I1,r1,q1⟩=>?_
  obtain ⟨i,rfl,q⟩:=q1
  obtain ⟨t,rfl⟩:=r1
  exact ⟨some i,H1,I1,.int i t,q⟩
def SlR(X:Cx)(r:V->Option Int->Option Int->Hp->VK->Prop):Prop :=
  ∀(pins:List (Addr×Obj)) (s:Shared) (σ:St) (H:Hp) (x:V) (v vl vu:Value) (lo hi:Option Int) (sl:Addr) (Q:VK),Inv X pins σ H s->RelV x v->s.heap.IsSliceOf sl vl vu .none->IsPart vl lo->IsPart vu hi->r x lo hi H Q →
    ∃T id,typeLookup (.type T) "__getitem__" = pure (some (.builtin id))/\s.TypeIs v T/\wpAny (model X.prog X.w) X.A (getItem v (.ref sl)) (EP X pins σ Q) X.xe s
theorem SlR.or{r r':V->Option Int->Option Int->Hp->VK->Prop}(h:SlR X r)(h':SlR X r'):SlR X (λx lo hi H Q=>r x lo hi H Q\/r' x lo hi H Q):=by
  intro pins s σ H x v vl vu lo hi sl Q I rx hs pl pu q
  rcases q with q | q
  · exact h pins s σ H x v vl vu lo hi sl Q I rx hs pl pu q
  · exact h' pins s σ H x v vl vu lo hi sl Q I rx hs pl pu q
def tSl(r:V->Option Int->Option Int->Hp->VK->Prop)(te:TE)(tl th:TO):TE:=λσ H Q=>te σ H λx H1=>tl σ H1 λl H2=>th σ H2 λu H3=>r x l u H3 Q
theorem ZbU{r:V->Option Int->Option Int->Hp->VK->Prop}(hr:SlR X r)(he:PE X e te)(hl:PO X lo tl)(hu:PO X hi th):PE X (.Subscript e (.Slice lo hi none p2) pos) (tSl r te tl th):=by
  intro pins s σ H Q I h
  refine Subscript_ (thn (he pins s σ H _ I h) λv s1 ⟨x,H1,I1,r1,q1⟩=>?_)
  refine wpAny_Slice (thn (hl pins s1 σ H1 _ I1 q1) λvl s2 ⟨l,H2,I2,pl,q2⟩=>thn (hu pins s2 σ H2 _ I2 q2) λvu s3 ⟨u,H3,I3,pu,q3⟩=>?_)
  rw[evalPart_none]
  refine wpAny_pure ?_
  have I4:Inv X pins σ H3 { s3 with heap:=s3.heap.push { cls:=.type "slice", data:=.fields #[vl,vu,.none] } }:=I3.kept (t':=s3.toks) λb ob q=>Heap.get?_push_of_some _ q
  obtain ⟨T,id,hT,ht,hg⟩:=hr pins { s3 with heap:=s3.heap.push { cls:=.type "slice", data:=.fields #[vl,vu,.none] } } σ H3 x v vl vu l u s3.heap.objs.size Q I4 r1 (Heap.IsSliceOf.new ..) pl pu q3
  show wpAny (model X.prog X.w) X.A (subscriptTail e (.Slice lo hi none p2) v (.ref s3.heap.objs.size)) (EP X pins σ Q) X.xe { s3 with heap:=s3.heap.push { cls:=.type "slice", data:=.fields #[vl,vu,.none] } }
  exact tail_any (ops:=[.ref s3.heap.objs.size,v]) ht hT hg (by with_unfolding_all rfl)
def Zfs(xs:List V)(lo hi:Option Int):List V:=(xs.drop (HT.sIx xs.length 0 lo)).take (HT.sIx xs.length xs.length hi-HT.sIx xs.length 0 lo)
theorem ZeA(xs:List V)(lo hi:Option Int):(Zfs xs lo hi).length<=xs.length:=by
  unfold Zfs
  rw[Ql,Wp]
  omega
def ZpR(K:PySem.W.Frag):V->Option Int->Option Int->Hp->VK->Prop:=λx lo hi H Q=>∃a xs,x = .ref a/\SqT K H a xs ∧
  ¬(HT.sIx xs.length 0 lo=0/\HT.sIx xs.length xs.length hi=xs.length)/\∀p,H p=none->Q (.ref p) (upd H p (.tup (Zfs xs lo hi)))
theorem Zod:SlR X (ZpR X.K):=by
  intro pins s σ H x v vl vu lo hi sl Q I rx hs pl pu h
  obtain ⟨a,xs,rfl,hx,hw,q⟩:=h
  cases rx
  obtain ⟨its,r,ht,hz⟩:=I.tuple hx
  have hlen:its.toArray.size=xs.length:=by rw[Qb]; exact r.length.symm
  refine ⟨"tuple", _,PyProof.Rows.slot_tuple_getitem.lookup,ht.typeIs,?_⟩
  refine HT.getItem_tuple_cut ht hs pl pu (by rw[hlen]; exact hw) ?_ (by rw[hlen]; exact hz)
  rw[hlen]
  refine ⟨.ref s.heap.objs.size,_,I.laid (t':=s.toks) (o:=.tup (Zfs xs lo hi)) (λb ob q=>Heap.get?_push_of_some _ q) (Q1 _) ?_,rfl,q _ (I.hok.fresh (Q1 _))⟩
  exact ⟨Q2 (ZeA xs lo hi) hz,_,(r.drop (HT.sIx xs.length 0 lo)).take (HT.sIx xs.length xs.length hi-HT.sIx xs.length 0 lo),IsTup.new _ _⟩
def Zpn(K:PySem.W.Frag):R2:=λx y H Q=>∃a b xs ys,x = .ref a/\y = .ref b/\SqT K H a xs/\SqT K H b ys/\xs≠[]/\xs.length+ys.length<=sizeLine ∧
  (ys=[]->Q (.ref a) H)/\(ys≠[]->∀p,H p=none->Q (.ref p) (upd H p (.tup (xs++ys))))
theorem Vals.nil_iff{xs:List V}{us:List Value}(r:Vals xs us):us=[]↔xs=[]:=by
  cases r with
  | nil=>simp
  | cons _ _=>simp
theorem ZmY:OpR X (binaryOp .Add) (Zpn X.K):=by
  intro pins s σ H x y v u Q I rx ry h
  obtain ⟨a,b,xs,ys,rfl,rfl,ha,hb,hx,hz,q1,q2⟩:=h
  cases rx
  cases ry
  obtain ⟨its,r1,p1,_⟩:=I.tuple ha
  obtain ⟨its2,r2,p2,_⟩:=I.tuple hb
  refine HT.cat_tup p1 p2 (λz=>hx (r1.nil_iff.mp z)) (λz=>⟨.ref a,H,I,rfl,q1 (r2.nil_iff.mp z)⟩) (λz=>?_) (by rw[<-r1.length,<-r2.length]; exact hz)
  refine ⟨.ref s.heap.objs.size,_,I.laid (t':=s.toks) (o:=.tup (xs++ys)) (λb ob q=>Heap.get?_push_of_some _ q) (Q1 _) ?_,rfl,q2 (λw=>z (r2.nil_iff.mpr w)) _ (I.hok.fresh (Q1 _))⟩
  exact ⟨by rw[Qc]; exact hz,_,r1.append r2,IsTup.new _ _⟩
end
end L2
namespace L2
open PySem PySem.Spec PyProof.Rows
def ixN(n:Nat)(i:Int):Option Nat:=if 0<=i then (if i<n then some i.toNat else none) else if -(n:Int)<=i then some (i+n).toNat else none
def atI{α:Type}(xs:List α)(i:Int):Option α:=(ixN xs.length i).bind λj=>xs[j]?
theorem ZjD{n:Nat}{i:Int}{j:Nat}(h:ixN n i=some j):seqIndex? i n=some j/\j<n /\ -(n:Int)<=i/\i<n:=by
  unfold ixN at h
  by_cases h0:0<=i
  · rw[if_pos h0] at h
    by_cases h1:i<n
    · rw[if_pos h1] at h
      have e:i.toNat=j:=Option.some.inj h
      exact ⟨by rw[seqIndex_of h0 h1,e],by omega,by omega,h1⟩
    · rw[if_neg h1] at h; cases h
  · rw[if_neg h0] at h
    by_cases h1:-(n:Int)<=i
    · rw[if_pos h1] at h
      have e:(i+n).toNat=j:=Option.some.inj h
      exact ⟨by rw[seqIndex_neg (by omega) h1,e],by omega,h1,by omega⟩
    · rw[if_neg h1] at h; cases h
theorem ZjE{α:Type}{xs:List α}{i:Int}{v:α}(h:atI xs i=some v):∃j,seqIndex? i xs.length=some j/\xs[j]?=some v/\j<xs.length /\ -(xs.length:Int)<=i/\i<xs.length:=by
  unfold atI at h
  cases e:ixN xs.length i with
  | none=>rw[e] at h; cases h
  | some j =>
    rw[e] at h
    obtain ⟨h1,h2,h3,h4⟩:=ZjD e
    exact ⟨j,h1,h,h2,h3,h4⟩
theorem Za5{α:Type}{xs:List α}{j:Nat}{v:α}(h:xs[j]?=some v):atI xs (j:Int)=some v:=by
  have hj:j<xs.length:=(Qf.mp h).1
  have e:ixN xs.length (j:Int)=some j:=by
    unfold ixN
    rw[if_pos (by omega),if_pos (by omega)]; simp
  unfold atI; rw[e]; exact h
def ZmZ(b:Expr):Prop:=∀o i,subscripted b false o i=operate [o,i] (getItem o i)
def IxR(X:Cx)(r:R2):Prop :=
  ∀(value slice:Expr) (pins:List (Addr×Obj)) (s:Shared) (σ:St) (H:Hp) (x y:V) (v u:Value) (Q:VK),Inv X pins σ H s->RelV x v->RelV y u->r x y H Q →
    subscripted slice false v u=operate [v,u] (getItem v u)->wpAny (model X.prog X.w) X.A (subscriptTail value slice v u) (EP X pins σ Q) X.xe s
def MtR(X:Cx)(id:String)(r:V->List V->Hp->VK->Prop):Prop :=
  ∀(pins:List (Addr×Obj)) (s:Shared) (σ:St) (H:Hp) (x:V) (xs:List V) (v:Value) (us:List Value) (Q:VK),Inv X pins σ H s->RelV x v->Vals xs us->r x xs H Q →
    wpAny (model X.prog X.w) X.A (call (.builtin id) (v::us)) (EP X pins σ Q) X.xe s
section
variable{X:Cx}{a b:Expr}{ta tb:TE}{pos:Pos}
theorem IxR.or{r r':R2}(h:IxR X r)(h':IxR X r'):IxR X (λx y H Q=>r x y H Q\/r' x y H Q):=by
  intro value slice pins s σ H x y v u Q I rx ry q hs
  rcases q with q | q
  · exact h value slice pins s σ H x y v u Q I rx ry q hs
  · exact h' value slice pins s σ H x y v u Q I rx ry q hs
theorem MtR.or{id:String}{r r':V->List V->Hp->VK->Prop}(h:MtR X id r)(h':MtR X id r'):MtR X id (λx xs H Q=>r x xs H Q\/r' x xs H Q):=by
  intro pins s σ H x xs v us Q I rx rs q
  rcases q with q | q
  · exact h pins s σ H x xs v us Q I rx rs q
  · exact h' pins s σ H x xs v us Q I rx rs q
theorem Zak{r:R2}(hr:IxR X r)(ha:PE X a ta)(hb:PE X b tb)(hs:ZmZ b):PE X (.Subscript a b pos) (tOp r ta tb):=by
  intro pins s σ H Q I h
  exact Subscript_ (Zpj ha hb I h λv u s2 x y H2 I2 rx ry q=>hr a b pins s2 σ H2 x y v u Q I2 rx ry q (hs _ _))
inductive Zpo (K:PySem.W.Frag) (x y:V) (H:Hp) (Q:VK):Prop
  | mk (p:Addr) (xs:List V) (i:Int) (v:V) (_:x = .ref p) (_:y = .int i) (_:SqL K H p xs) (_:atI xs i=some v) (_:Q v H):Zpo K x y H Q
inductive Zo5 (K:PySem.W.Frag) (x y:V) (H:Hp) (Q:VK):Prop
  | mk (p:Addr) (xs:List V) (i:Int) (v:V) (_:x = .ref p) (_:y = .int i) (_:SqT K H p xs) (_:atI xs i=some v) (_:Q v H):Zo5 K x y H Q
theorem Zau:IxR X (Zpo X.K):=by
  intro value slice pins s σ H x y v u Q I rx ry h hs
  obtain ⟨p,xs,i,z,rfl,rfl,hq,he,q⟩:=h
  cases rx
  obtain ⟨t,rfl⟩:=ry
  obtain ⟨its,r,pl,hz⟩:=I.list hq
  obtain ⟨j,h1,h2,h3,h4,h5⟩:=ZjE he
  obtain ⟨w,ew,rw'⟩:=r.get h2
  have hl:=r.length
  have hn:=Zic
  have fin:EP X pins σ Q w s:=⟨z,H,I,rw',q⟩
  by_cases h0:0<=i
  · have hj:i.toNat=j:=by
      rw[seqIndex_of h0 h5] at h1
      exact Option.some.inj h1
    exact item_listR pl.isList h0 (by omega) (by rw[hj]; simpa using ew) fin hs
  · have hj:(i+(its.toArray.size:Int)).toNat=j:=by
      rw[seqIndex_neg (by omega) h4] at h1
      rw[Qb,<-hl]
      exact Option.some.inj h1
    exact subscriptTail_builtinR (x:=w) pl.isList.typeIs slot_list_getitem.lookup
      (wpAny_getItem_list_neg (Q:=λr s'=>r=w/\EP X pins σ Q r s') pl.isList (by omega) (by rw[Qb] <;> omega) (by omega) (by rw[hj]; simpa using ew) ⟨rfl,fin⟩) hs
theorem Zal:IxR X (Zo5 X.K):=by
  intro value slice pins s σ H x y v u Q I rx ry h hs
  obtain ⟨p,xs,i,z,rfl,rfl,hq,he,q⟩:=h
  cases rx
  obtain ⟨t,rfl⟩:=ry
  obtain ⟨its,r,pl,hz⟩:=I.tuple hq
  obtain ⟨j,h1,h2,h3,h4,h5⟩:=ZjE he
  obtain ⟨w,ew,rw'⟩:=r.get h2
  have hl:=r.length
  have hn:=Zic
  have fin:EP X pins σ Q w s:=⟨z,H,I,rw',q⟩
  exact subscriptTail_builtinR (x:=w) pl.typeIs slot_tuple_getitem.lookup
    (getItem_tuple (j:=j) (Q:=λr s'=>r=w/\EP X pins σ Q r s') pl (by omega) (by omega) (by rw[Qb,<-hl]; exact h1) (by simpa using ew) ⟨rfl,fin⟩) hs
theorem ZiM(its:List Value)(n j:Nat)(u:Value):Obj.mapSeq (·.setIfInBounds j u) { cls:=.type "list", data:=.seq its.toArray n }={ cls:=.type "list", data:=.seq (its.set j u).toArray n }:=by
  simp[Obj.mapSeq]
theorem Inv.lst{pins:List (Addr×Obj)}{σ:St}{H:Hp}{s:Shared}{p:Addr}{xs:List V}(I:Inv X pins σ H s)(h:H p=some (.lst xs)) :
    ∃(its:List Value) (n:Nat),Vals xs its/\s.heap.get? p=some { cls:=.type "list", data:=.seq its.toArray n }/\xs.length<=sizeLine:=by
  obtain ⟨z,its,n,r,e⟩:=I.hok p _ h
  exact ⟨its,n,r,e,z⟩
theorem Inv.lstUpd{pins:List (Addr×Obj)}{σ:St}{H:Hp}{s:Shared}{p:Addr}{xs ys:List V}{its its':List Value}{n n':Nat}{f:Obj->Obj}(I:Inv X pins σ H s)(h:H p=some (.lst xs))
    (ho:s.heap.get? p=some { cls:=.type "list", data:=.seq its.toArray n }) (hf:f { cls:=.type "list", data:=.seq its.toArray n }={ cls:=.type "list", data:=.seq its'.toArray n' }) (r:Vals ys its') (hz:ys.length<=sizeLine) (t:Nat) :
    Inv X pins σ (upd H p (.lst ys)) { s with heap:=s.heap.update p f,toks:=t }:=by
  have e:(s.heap.update p f).get? p=some { cls:=.type "list", data:=.seq its'.toArray n' }:=by
    rw[Heap.get?_update_self f ho (by rw[hf] <;> rfl),hf]
  refine I.write (x:=p) (e:=p) (by rw[h]; trivial) (.inl rfl) (λb u hb q=>(Heap.get?_update_other _ _ (Ne.symm hb)).trans q) ⟨_,e⟩ ?_
  exact ⟨hz,its',n',r,e⟩
inductive Zoe (o i v:V) (H:Hp) (Q:Hp->Prop):Prop
  | mk (p:Addr) (xs:List V) (k:Int) (j:Nat) (_:o = .ref p) (_:i = .int k) (_:H p=some (.lst xs)) (_:ixN xs.length k=some j) (_:Q (upd H p (.lst (xs.set j v)))):Zoe o i v H Q
theorem Zba:ZpN X Zoe:=by
  intro pins s σ H o i v ov iv u Q I ro ri rv h
  obtain ⟨p,xs,k,j,rfl,rfl,hp,hj,q⟩:=h
  cases ro
  obtain ⟨t,rfl⟩:=ri
  obtain ⟨its,n,r,ho,hz⟩:=I.lst hp
  obtain ⟨h1,h2,h3,h4⟩:=ZjD hj
  have hl:=r.length
  have hn:=Zic
  have I':Inv X pins σ (upd H p (.lst (xs.set j v))) { s with heap:=s.heap.update p (Obj.mapSeq (·.setIfInBounds j u)) } :=
    I.lstUpd hp ho (ZiM its n j u) (r.set rv j) (by rw[We]; exact hz) s.toks
  by_cases h0:0<=k
  · have hk:k.toNat=j:=by
      rw[seqIndex_of h0 h4] at h1
      exact Option.some.inj h1
    exact PySem.W.ki_setAt ho h0 (by omega) (by rw[Qb,<-hl]; exact h4) (by rw[hk]; exact ⟨_,I',q⟩)
  · have hk:(k+(its.toArray.size:Int)).toNat=j:=by
      rw[seqIndex_neg (by omega) h3] at h1
      rw[Qb,<-hl]
      exact Option.some.inj h1
    exact PySem.W.ki_setBack ho (by omega) (by rw[Qb,<-hl]; exact h3) (by omega) (by rw[hk]; exact ⟨_,I',q⟩)
theorem ZgB(lo hi:Option Int)(n:Nat):(sliceBounds lo hi none n).1=((HT.sIx n 0 lo:Nat):Int)/\(sliceBounds lo hi none n).2.1=((HT.sIx n n hi:Nat):Int)/\(sliceBounds lo hi none n).2.2=1:=by
  refine ⟨?_,?_,rfl⟩
  · cases lo with
    | none=>simp[sliceBounds,HT.sIx]
    | some i =>
      simp only[sliceBounds,HT.sIx,Option.getD_none,show (1:Int)>0 by decide,if_true]
      by_cases h:i<0
      · simp only[h,if_true] <;> omega
      · simp only[h,if_false] <;> omega
  · cases hi with
    | none=>simp[sliceBounds,HT.sIx]
    | some i =>
      simp only[sliceBounds,HT.sIx,Option.getD_none,show (1:Int)>0 by decide,if_true]
      by_cases h:i<0
      · simp only[h,if_true] <;> omega
      · simp only[h,if_false] <;> omega
theorem ZfC(its:List Value)(lo hi:Option Int):slicePick its.toArray lo hi none=((its.drop (HT.sIx its.length 0 lo)).take (HT.sIx its.length its.length hi-HT.sIx its.length 0 lo)).toArray:=by
  obtain ⟨h1,h2,h3⟩:=ZgB lo hi its.toArray.size
  unfold slicePick
  rw[h1,h2,h3]
  simp only[sliceRange_one,pick_run,Qb] <;> rfl
def ZpS(K:PySem.W.Frag):V->Option Int->Option Int->Hp->VK->Prop:=λx lo hi H Q=>∃a xs,x = .ref a/\SqL K H a xs/\∀p,H p=none->Q (.ref p) (upd H p (.lst (Zfs xs lo hi)))
theorem ZdK:SlR X (ZpS X.K):=by
  intro pins s σ H x v vl vu lo hi sl Q I rx hs pl pu h
  obtain ⟨a,xs,rfl,hx,q⟩:=h
  cases rx
  obtain ⟨its,r,ht,hz⟩:=I.list hx
  have hlen:=r.length
  refine ⟨"list", _,slot_list_getitem.lookup,ht.isList.typeIs,?_⟩
  refine wpAny_getItem_list_slice ht.isList hs pl pu .none (by simp) ?_ (by rw[Qb] <;> omega)
  rw[ZfC,<-hlen]
  refine ⟨.ref s.heap.objs.size,_,I.laid (t':=s.toks) (o:=.lst (Zfs xs lo hi)) (λb ob q=>Heap.get?_push_of_some _ q) (Q1 _) ?_,rfl,q _ (I.hok.fresh (Q1 _))⟩
  exact ⟨Q2 (ZeA xs lo hi) hz,_,0,(r.drop (HT.sIx xs.length 0 lo)).take (HT.sIx xs.length xs.length hi-HT.sIx xs.length 0 lo),Heap.get?_push_size _ rfl⟩
theorem Zan:CallR X (.builtin "len") (λxs H Q=>∃p ys,xs=[.ref p]/\(SqL X.K H p ys\/SqT X.K H p ys)/\Q (.int ys.length) H):=by
  intro pins s σ H xs us Q I r h
  obtain ⟨p,ys,rfl,hq,q⟩:=h
  obtain ⟨u,rfl,rx⟩:=ZfB r
  cases rx
  have hn:=Zic
  rcases hq with hq | hq
  · obtain ⟨its,r',pl,hz⟩:=I.list hq
    have hlen:=r'.length
    exact Calls.call_len_list pl.isList (by simp only[Qb] <;> omega) ⟨.int ys.length,H,I.tok _,⟨s.toks+1,by rw[Qb,hlen]⟩,q⟩
  · obtain ⟨its,r',pl,hz⟩:=I.tuple hq
    have hlen:=r'.length
    exact len_tuple pl (by simp only[Qb] <;> omega) ⟨.int ys.length,H,I.tok _,⟨s.toks+1,by rw[Qb,hlen]⟩,q⟩
theorem CallR.or{f:Value}{r r':List V->Hp->VK->Prop}(h:CallR X f r)(h':CallR X f r'):CallR X f (λxs H Q=>r xs H Q\/r' xs H Q):=by
  intro pins s σ H xs us Q I rs q
  rcases q with q | q
  · exact h pins s σ H xs us Q I rs q
  · exact h' pins s σ H xs us Q I rs q
theorem Zct:CallR X (.type "list") (λxs H Q=>∃p ys,xs=[.ref p]/\(SqL X.K H p ys\/SqT X.K H p ys)/\∀l,H l=none->Q (.ref l) (upd H l (.lst ys))):=by
  intro pins s σ H xs us Q I r h
  obtain ⟨p,ys,rfl,hq,q⟩:=h
  obtain ⟨u,rfl,rx⟩:=ZfB r
  cases rx
  have fin:∀(its:List Value),Vals ys its->ys.length<=sizeLine->∀(h':Heap) (c':Nat),(∀b o',s.heap.get? b=some o'->h'.get? b=some o') →
      h'.get? s.heap.objs.size=some { cls:=.type "list", dict:=none,data:=.seq its.toArray c',slots:=#[] }->EP X pins σ Q (.ref s.heap.objs.size) { s with heap:=h' }:=λits r' hz h' c' kp e =>
    ⟨.ref s.heap.objs.size,_,I.laid (t':=s.toks) kp (Q1 _) (show ObjOk X.prog X.w _ h' _ (.lst ys) from ⟨hz,its,c',r',e⟩),rfl,q _ (I.hok.fresh (Q1 _))⟩
  rcases hq with hq | hq
  · obtain ⟨its,r',pl,hz⟩:=I.list hq
    have hlen:=r'.length
    obtain ⟨o,ho,hc,n,hd⟩:=pl.isList
    exact call_list_seq p (.inl rfl) ho hc hd (λh' c' kp e=>fin its r' hz h' c' kp e) (by simp only[Qb] <;> omega)
  · obtain ⟨its,r',pl,hz⟩:=I.tuple hq
    have hlen:=r'.length
    obtain ⟨o,ho,hc,n,hd⟩:=pl
    exact call_list_seq p (.inr rfl) ho hc hd (λh' c' kp e=>fin its r' hz h' c' kp e) (by simp only[Qb] <;> omega)
def tyV(K:PySem.W.Frag)(T:String)(x:V)(H:Hp):Prop:=match x with
  | .str _=>T = "str"
  | .int _=>T = "int"
  | .ref p=>(T = "list" /\ ∃xs,SqL K H p xs)\/(T = "tuple" /\ ∃o,K.lookup p=some o/\o.cls = .type "tuple" /\ o.dict=none) ∨
      (T = "dict" /\ ((∃kvs,H p=some (.dK kvs))\/∃kvs,H p=some (.dT kvs)))\/(T = "set" /\ ∃S n,H p=some (.set S n))
  | _=>False
theorem Zof{pins:List (Addr×Obj)}{σ:St}{H:Hp}{s:Shared}{T:String}{x:V}{v:Value}(I:Inv X pins σ H s)(r:RelV x v)(ty:tyV X.K T x H) :
    s.TypeIs v T/\∀a,v = .ref a->∃ob,s.heap.get? a=some ob/\ob.dict=none:=by
  cases x with
  | str z =>
    obtain ⟨t,rfl⟩:=r
    cases (show T = "str" from ty)
    exact ⟨typeIs_str s z t,λ_ e=>nomatch e⟩
  | int i =>
    obtain ⟨t,rfl⟩:=r
    cases (show T = "int" from ty)
    exact ⟨typeIs_int s i t,λ_ e=>nomatch e⟩
  | ref p =>
    cases r
    rcases ty with ⟨rfl,xs,hq⟩ | ⟨rfl,o,hk,hc,hd⟩ | ⟨rfl,hk⟩ | ⟨rfl,S,n,hk⟩
    · obtain ⟨its,_,pl,_⟩:=I.list hq
      refine ⟨pl.isList.typeIs,λa e=>?_⟩
      cases e
      obtain ⟨o,n,e,c,hd,_⟩:=pl
      exact ⟨o,e,hd⟩
    · refine ⟨⟨o,I.kIn p o hk,hc⟩,λa e=>?_⟩
      cases e
      exact ⟨o,I.kIn _ o hk,hd⟩
    · have z:∃o,s.heap.get? p=some o/\o.ExactDict:=by
        rcases hk with ⟨kvs,hk⟩ | ⟨kvs,hk⟩
        · obtain ⟨_,_,_,_,o,_,_,e,ex,_⟩:=I.hok p _ hk
          exact ⟨o,e,ex⟩
        · obtain ⟨_,_,_,_,o,_,_,e,ex,_⟩:=I.hok p _ hk
          exact ⟨o,e,ex⟩
      obtain ⟨o,e,ex⟩:=z
      refine ⟨⟨o,e,ex.1⟩,λa e2=>?_⟩
      cases e2
      exact ⟨o,e,ex.2.1⟩
    · obtain ⟨o,_,_,_,e,ex,_⟩:=I.hok p _ hk
      refine ⟨⟨o,e,ex.1⟩,λa e2=>?_⟩
      cases e2
      exact ⟨o,e,ex.2.1⟩
  | _=>exact False.elim ty
def tBM(K:PySem.W.Frag)(T:String)(r:V->List V->Hp->VK->Prop)(to:TE)(t:TA):TE:=λσ H Q=>to σ H λx H1=>tyV K T x H1/\t σ H1 λxs H2=>r x xs H2 Q
variable{o e:Expr}{es:List Expr}{to:TE}{t:TA}{name:Str}{apos cpos:Pos}{T id:String}{r:V->List V->Hp->VK->Prop}
theorem ZfD(pa:PlainAttrs T)(slot:Slot T name id)(hty:typeOf (.builtin id)=pure (.type "method_descriptor")) (hm:MtR X id r) (ho:PE X o to) (ha:PA X (e::es) t)
    (hbase:attributeBase o name X.env (eval o X.env)=eval o X.env:=by rfl)
    (hfew:((backTo cpos (starEach (e::es) X.env)).all (λx=>!x.1)&&(backToKw cpos (keywordEach [] X.env)).all (λx=>x.1.isSome)
      && decide ((e::es).length+([]:List Keyword).length+(if ([]:List Keyword).isEmpty then 0 else 1)<30))=true:=by rfl)
    (hline:(apos.endLine==cpos.line)=true:=by rfl) (hs:starEach (e::es) X.env=(false,eval e X.env)::starEach es X.env:=by rfl) (hplain:(backTo cpos (starEach es X.env)).any (·.1)=false:=by rfl) :
    PE X (.Call (.Attribute o name apos) (e::es) [] cpos) (tBM X.K T r to t):=by
  intro pins s σ H Q I h
  refine wpAny_Call_method_late hbase hfew hline rfl (thn (ho pins s σ H _ I h) λv s1 ⟨x,H1,I1,r1,ty,q1⟩=>?_)
  obtain ⟨h1,h2⟩:=Zof I1 r1 ty
  refine ⟨T,id,pa,slot,hty,h1,h2,?_⟩
  have hA:=ha cpos pins s1 σ H1 _ I1 q1
  rw[hs] at hA ⊢
  refine Calls.callWith_builtin (by show (false||(backTo cpos (starEach es X.env)).any (·.1))=false; rw[hplain] <;> rfl) (Calls.evalArgs_plain ?_)
  exact thn hA λus s2 ⟨vs,H2,I2,r2,q2⟩=>hm pins s2 σ H2 x vs v us Q I2 r1 r2 q2
/- xs.append(e),list.index on a module's tuple .. are MtR facts of 06m -/
end
end L2
namespace L2
open PySem PySem.Spec PyProof.Rows
def MtM(X:Cx)(id:String)(r:V->List V->Hp->VK->Prop):Prop :=
  ∀(pins:List (Addr×Obj)) (s:Shared) (σ:St) (H:Hp) (x:V) (xs:List V) (v:Value) (us:List Value) (Q:VK),Inv X pins σ H s->RelV x v->Vals xs us->r x xs H Q →
    wpAny (model X.prog X.w) X.A (call (.builtin id) (v::us)) (EP X pins σ Q) X.xe s
theorem Vals.one:∀ {x:V} {us:List Value},Vals [x] us->∃u,us=[u]/\RelV x u
  | _,_,.cons r .nil=>⟨_,rfl,r⟩
theorem Vals.reverse{xs:List V}{us:List Value}(h:Vals xs us):Vals xs.reverse us.reverse:=by
  induction h with
  | nil=>exact .nil
  | cons r t ih=>rw[List.reverse_cons,List.reverse_cons]; exact Vals.append ih (.cons r .nil)
section
variable{X:Cx}{pins:List (Addr×Obj)}{σ:St}{H:Hp}{s:Shared}{l b:Addr}{xs ys zs:List V}
theorem Inv.lset{its its':List Value}{n:Nat}{f:Array Value->Array Value}{t':Nat}(I:Inv X pins σ H s)(hH:H l=some (.lst xs))
    (e:s.heap.get? l=some { cls:=.type "list", data:=.seq its.toArray n }) (hf:f its.toArray=its'.toArray) (hv:Vals ys its') (hz:ys.length<=sizeLine) :
    Inv X pins σ (upd H l (.lst ys)) { s with heap:=s.heap.update l (Obj.mapSeq f),toks:=t' }:=by
  have q:=PySem.IsL.update e f
  rw[hf] at q
  refine I.write (x:=l) (e:=l) (by rw[hH]; exact trivial) (.inl rfl) (λb' u hb hu=>(Heap.get?_update_other s.heap (Obj.mapSeq f) (Ne.symm hb)).trans hu) ⟨_,q⟩ ?_
  exact ⟨hz,its',_,hv,q⟩
theorem Inv.lnew{its:List Value}{t':Nat}(I:Inv X pins σ H s)(hv:Vals ys its)(hz:ys.length<=sizeLine) :
    Inv X pins σ (upd H s.heap.objs.size (.lst ys)) { s with heap:=s.heap.push { cls:=.type "list", data:=.seq its.toArray },toks:=t' } :=
  I.laid (λ_ _ q=>Heap.get?_push_of_some _ q) (Q1 _) ⟨hz,its,0,hv,Heap.get?_push_size _ rfl⟩
theorem Inv.fresh(I:Inv X pins σ H s):H s.heap.objs.size=none:=I.hok.fresh (Q1 _)
theorem Inv.lstM(I:Inv X pins σ H s)(hH:H l=some (.lst xs)):xs.length<=sizeLine/\∃(its:List Value) (n:Nat),Vals xs its/\xs.length=its.length/\s.heap.get? l=some { cls:=.type "list", data:=.seq its.toArray n }:=by
  obtain ⟨z,its,n,r,e⟩:=I.hok l _ hH
  exact ⟨z,its,n,r,r.length,e⟩
theorem Zlk{n:Nat}(h:n<=sizeLine):Builtin.List.listTooLong n=false:=by
  unfold Builtin.List.listTooLong
  exact decide_eq_false (by omega)
end
section
variable{X:Cx}
inductive ZjF (x:V) (vs:List V) (H:Hp) (Q:VK):Prop
  | mk (l:Addr) (xs:List V) (y:V) (_:x = .ref l) (_:vs=[y]) (_:H l=some (.lst xs)) (_:xs.length<sizeLine) (_:Q .non (upd H l (.lst (xs++[y])))):ZjF x vs H Q
theorem Zbc:MtM X "list.append" ZjF:=by
  intro pins s σ H x vs v us Q I rx rv h
  obtain ⟨l,xs,y,rfl,rfl,hH,hz,q⟩:=h
  cases rx
  obtain ⟨u,rfl,ru⟩:=rv.one
  obtain ⟨z,its,n,r,hl,e⟩:=I.lstM hH
  refine call_meets F.slot_list_append ⟨_,e,rfl⟩ F.entry_list_append (F.args_list_append_2 _ _) (PySem.list_append l its.toArray n u (by rw[Qb]; omega)) ⟨e,?_⟩
  refine ⟨.non,_,I.lset (its':=its++[u]) hH e (by simp) (r.append (.cons ru .nil)) ?_,rfl,q⟩
  rw[Qc,List.length_singleton]
  omega
def Zm0:V->List V->Hp->VK->Prop:=λx vs H Q=>∃l b xs zs,x = .ref l/\vs=[.ref b]/\H l=some (.lst xs)/\H b=some (.lst zs)/\xs.length+zs.length<=sizeLine/\Q .non (upd H l (.lst (xs++zs)))
theorem Zog:MtM X "list.extend" Zm0:=by
  intro pins s σ H x vs v us Q I rx rv h
  obtain ⟨l,b,xs,zs,rfl,rfl,hH,hB,hz,q⟩:=h
  cases rx
  obtain ⟨u,rfl,ru⟩:=rv.one
  cases ru
  obtain ⟨z,its,n,r,hl,e⟩:=I.lstM hH
  obtain ⟨z2,its2,n2,r2,hl2,e2⟩:=I.lstM hB
  have hsz:its.toArray.size+its2.toArray.size<=sizeLine:=by rw[Qb,Qb]; omega
  have hlong:¬(!its.toArray.isEmpty&&Builtin.List.listTooLong (its.toArray.size+its2.toArray.size))=true:=by
    rw[Zlk hsz,Bool.and_false]
    exact Qj
  refine call_meets F.slot_list_extend ⟨_,e,rfl⟩ F.entry_list_extend (F.args_list_extend_2 _ _)
    (AutoSeq1.list_extend_list_list_0 l its.toArray n b its2.toArray n2 hlong (by rw[Qb]; omega) (by omega)) ⟨e,e2,?_⟩
  refine ⟨.non,_,I.lset (its':=its++its2) hH e (by simp) (r.append r2) ?_,rfl,q⟩
  rw[Qc]
  omega
def Zqi:R2:=λx y H Q=>∃l b xs zs,x = .ref l/\y = .ref b/\H l=some (.lst xs)/\H b=some (.lst zs)/\xs.length+zs.length<=sizeLine/\∀p,H p=none->Q (.ref p) (upd H p (.lst (xs++zs)))
theorem Zoh:OpR X (binaryOp .Add) Zqi:=by
  intro pins s σ H x y v u Q I rx ry h
  obtain ⟨l,b,xs,zs,rfl,rfl,hH,hB,hz,q⟩:=h
  cases rx
  cases ry
  obtain ⟨z,its,n,r,hl,e⟩:=I.lstM hH
  obtain ⟨z2,its2,n2,r2,hl2,e2⟩:=I.lstM hB
  refine PySem.P.add_list e e2 ?_ (by rw[Qb,Qb]; omega)
  have ea:its.toArray++its2.toArray=(its++its2).toArray:=by simp
  rw[ea]
  exact ⟨.ref _,_,I.lnew (t':=s.toks) (r.append r2) (by rw[Qc]; omega),rfl,q _ I.fresh⟩
end
section
variable{prog:Program}{w:World}{A:Around}{E:Value->Shared->Prop}{s:Shared}
end
section
variable{X:Cx}
end
end L2
namespace Att
open PySem PySem.W PySem.Calls PyProof.Rows
theorem ZeB{P:Params}{h:Heap}:∀(ns:List Int) (vs:List Value),WellAll P h vs (ns.map WData.int)->IntsAre vs ns:=by
  intro ns
  induction ns with
  | nil =>
    intro vs w
    rw[List.map_nil] at w
    cases w
    exact .nil
  | cons n ns ih =>
    intro vs w
    rw[W1] at w
    cases w with
    | cons a b =>
      cases a
      exact .cons _ _ (ih _ b)
theorem script_of{l:OpenLaw}{n:Nat}(hn:l.most=some n){P:Params}{h:Heap}{args:List WData}{vals:List Value}
    (hpre:l.row.toRowW.claim.pre args=true) (hwl:WellAll P h vals args) :
    ∃a vs ns,vals=[Value.ref a]/\args=[WData.list (ns.map WData.int)]/\h.get? a=some { cls:=.type "list", data:=.seq vs.toArray }/\IntsAre vs ns/\ns.length<=n:=by
  have hsh:WShape.hasAll [] args [.list .int]=true:=(pre_splitW hpre).1
  have hc:l.pre.holds [] { args:=args }=true:=(pre_splitW hpre).2
  obtain ⟨d,r,rfl,h1,h2⟩:=hasAllW_cons hsh
  obtain rfl:=hasAllW_nil h2
  obtain ⟨xs,rfl,h3⟩:=hasW_list h1
  obtain ⟨ns,rfl⟩:=items_int h3
  have hlen:ns.length<=n:=by
    unfold OpenLaw.pre at hc
    have h4:(WTm.not (.lt (.lit (.int (n:Int))) (.len (.arg 0)))).holds [] { args:=[.list (ns.map .int)] }=true:=by
      have h4:=(holds_andW hc).1
      rw[hn] at h4
      exact h4
    have h5:=condW_of h4 (w_not (w_lt w_lit (w_len_list (w_arg rfl))))
    rw[Q0] at h5
    refine Nat.le_of_not_lt λq=>?_
    have q':(n:Int)<((ns.length:Nat):Int):=by omega
    first
      | (rw[decide_eq_true q'] at h5; exact absurd h5 (by decide))
      | (simp at h5; omega)
  cases hwl with
  | cons w1 w2 =>
    cases w2
    cases w1 with
    | list ho hall=>exact ⟨_,_,ns,rfl,rfl,ho,ZeB ns _ hall,hlen⟩
theorem post_true(l:OpenLaw)(args:List WData):l.row.toRowW.claim.post args (.bool true) args=true :=
  postW_of (r:=l.row.toRowW) (X:=(true==true))
    (show WShape.has [] (.bool true) .bool=true by first | rfl | decide | simp[WShape.has,WShape.arms,WShape.armsAll])
    (show (WTm.eq .res (.lit (.bool true))).value [] { args:=args,res:=some (.bool true),after:=args }=some (.bool (true==true)) from w_eq_bool (w_res rfl) w_lit) rfl
theorem attach_call{l:OpenLaw}{n:Nat}{q:Program}{loose:List Str}{XP:(Str->Option Value)->Heap->Prop}{YP:World->Heap->Prop}{d:DefRec}
    (hn:l.most=some n) (hdf:d.params.defaults=[])
    (call:∀(w:World) (s₀ s₁:Shared) (mg mb:Str->Option Value) (fa:Addr) (o:Obj) (pm cd doc:Value) (a:Addr) (vs:List Value) (ns:List Int),
      Ground q loose [] XP w s₀ mg mb s₁.heap->YP w s₁.heap →
      s₁.heap.get? fa=some o->o.data = .func (docDef d.name d.params d.body d.scope pm cd doc)->s₁.heap.CodeRec cd d.name->mg d.name=some (.ref fa) →
      s₁.heap.get? a=some { cls:=.type "list", data:=.seq vs.toArray }->IntsAre vs ns->ns.length<=n->s₁.gens=#[] →
      codeAny (model l.prog w) callerA (.call (.ref fa) ⟨[.ref a],[]⟩) (λr s'=>r = .ok (.ret (.bool true))/\OldK s₁.heap s'.heap/\s'.os=s₁.os/\AllBare s'.gens) s₁) :
    WalkO q loose XP YP l.row.toRowW d [] (λf vs=>PySem.call f vs):=by
  intro w s₀ s₁ mg mb G Y fa o pm cd doc dV kV ho hd hcd hD hmg hg args vals as hpre hlay hrd hwl hlo
  obtain rfl:dV = .none:=Dflts.none hD hdf
  obtain rfl:kV = .none:=Dflts.noKw hD
  obtain ⟨a,vs,ns,rfl,rfl,hobj,hints,hlen⟩:=script_of hn hpre hwl
  refine enter_call (codeAny_mono (call w s₀ s₁ mg mb fa o pm cd doc a vs ns G Y ho (fd_plain hd) hcd hmg hobj hints hlen hg) λr s' hq=>?_)
  obtain ⟨rfl,h2,h3,h4⟩:=hq
  exact ⟨.inl ⟨.bool true,.bool true,[],rfl,λ_=>rfl,.bool true,post_true l _,λ_=>⟨List.Pairwise.nil,λ_ hm=>(nomatch hm)⟩⟩,h2,h3,h4⟩
section
variable{prog:Program}{w:World}{A:Around}{E:Value->Shared->Prop}{s:Shared}{K:Frag}
def ZpT(h:Heap)(L d:Addr):List (Addr×Obj):=(List.range h.objs.size).filterMap λa=>if a=L\/a=d then none else (h.get? a).map λo=>(a,o)
end
end Att
namespace L2
open PySem PySem.Spec PyProof.Rows
theorem ZgC:∀ {vs:List Value} {ns:List Int},IntsAre vs ns->Vals (ns.map V.int) vs
  | _,_,.nil => .nil
  | _,_,.cons n t h => .cons ⟨t,rfl⟩ (ZgC h)
def Zo6(H:Hp):Prop:=∀b,H b=none\/∃o xs,H b=some (.frz o (.lst xs))
theorem Zig{P:Program}{w:World}{K:PySem.W.Frag}{mg mb:Str->Option Value}{CX:CXT}{k:Nat}{fa a:Addr}{fd:FuncData}{x:Str}{sp:Sp}{s₁:Shared}{vs:List Value}{ns:List Int}
    (KX:K.In s₁.heap) (hns:s₁.heap.Ns mainGlobals mg) (hb:s₁.heap.Ns builtinsNs mb) (hbb:∀x:Str,x ≠ "__name__" -> mb x=bootBuiltins x) (hlim:s₁.heap.NoLimit) (hg:s₁.gens=#[])
    (ha:s₁.heap.get? a=some { cls:=.type "list", data:=.seq vs.toArray }) (hi:IntsAre vs ns) (hl:ns.length<=sizeLine) (hr:Room k callerA)
    (F:∀base:Heap,K.In base->base.Ns mainGlobals mg->FnOk P w K mg base CX k fa fd [x] sp) (hbind:∀(s:Shared) (u:Value),BindsTo s fd ⟨[u],[]⟩ [(x,u)])
    (hsp:∀H:Hp,Zo6 H->SqL K H a (ns.map V.int)->sp [.ref a] H (λv _=>v = .bl true) λ_ _ _=>False)
    (hCX:∀H e s',CX [] H s₁ (λ_ _ _=>False) e s'->False) :
    codeAny (model P w) callerA (.call (.ref fa) ⟨[.ref a],[]⟩) (λr s'=>r = .ok (.ret (.bool true))/\OldK s₁.heap s'.heap/\s'.os=s₁.os/\AllBare s'.gens) s₁:=by
  have rv:=ZgC hi
  have lenV:=hi.length
  have core:∀H:Hp,Zo6 H->SqL K H a (ns.map V.int)->HOk P w H s₁.heap->(∀b,H b≠none->b=a)->(H a≠none->K.lookup a=none) →
      codeAny (model P w) callerA (.call (.ref fa) ⟨[.ref a],[]⟩) (λr s'=>r = .ok (.ret (.bool true))/\OldK s₁.heap s'.heap/\s'.os=s₁.os/\AllBare s'.gens) s₁:=by
    intro H hO hS hok hA hK
    have base_of:∀ {b:Addr} {o:Obj},s₁.heap.get? b=some o->H b=none->(Zlb s₁.heap H).get? b=some o:=λe n=>Zlc e n
    have noA:∀ {b:Addr} {o:Obj} {es:Array DictEntry} {ep:Nat},s₁.heap.get? b=some o->o.data = .dict es ep->H b=none:=fun {b o es ep} e d=>by
      cases q:H b with
      | none=>rfl
      | some u =>
        have e':b=a:=hA b (by rw[q]; simp)
        subst e'
        rw[ha] at e; cases e
        have d':Data.seq vs.toArray _=Data.dict es ep:=d
        cases d'
    have nsK:∀ {b:Addr} {m:Str->Option Value},s₁.heap.Ns b m->(Zlb s₁.heap H).Ns b m:=fun {b m} ⟨o,es,ep,e,d,r⟩=>⟨o,es,ep,base_of e (noA e d),d,r⟩
    have hKb:K.In (Zlb s₁.heap H):=λb o e=>base_of (KX b o e) (by
      cases q:H b with
      | none=>rfl
      | some u =>
        have e':b=a:=hA b (by rw[q]; simp)
        subst e'
        rw[hK (by rw[q]; simp)] at e; cases e)
    have hM:Mod K mg (Zlb s₁.heap H):=⟨hKb,nsK hns,⟨mb,nsK hb,hbb⟩,let ⟨mc,h1,h2⟩:=hlim; ⟨mc,nsK h1,h2⟩⟩
    have e0:Env0 P w K mg (Zlb s₁.heap H) callerA [] s₁ H:=⟨rfl,hM,λb o e=>ZmM e,Uz (Zjm _ _),trivial,λb hb=>absurd (show b∈([]:List Addr) from hb) (by simp),hok,.of_eq hg⟩
    refine codeAny_mono ((F _ hKb (nsK hns)).run callerA [] s₁ H ⟨[.ref a],[]⟩ [.ref a] [.ref a] _ _ hr e0 (hbind s₁ (.ref a)) (.cons rfl .nil) (hsp H hO hS)) λr s' h=>?_
    cases r with
    | error e=>exact (hCX H e s' h).elim
    | ok fl =>
      cases fl with
      | next=>exact False.elim h
      | brk=>exact False.elim h
      | cont=>exact False.elim h
      | ret u =>
        obtain ⟨v,H',os,bare,un,hok',r',q⟩:=h
        have q':v = .bl true:=q
        subst q'
        obtain rfl:u=Value.bool true:=r'
        refine ⟨rfl,OldK.of_keep λb o e=>?_,os,bare⟩
        cases q:H b with
        | none=>exact un.keep b o e q (by intro z; exact absurd (show b∈([]:List Addr) from z) (by simp)) (by simp)
        | some u =>
          rcases hO b with z | ⟨ob,xs,z⟩
          · rw[q] at z; cases z
          · have z2:=un.frzs b ob _ z
            obtain ⟨e1,_⟩:=hok b _ z
            obtain ⟨e2,_⟩:=hok' b _ z2
            rw[e] at e1; cases e1
            exact e2
  cases hk:K.lookup a with
  | some o =>
    have e:=KX a o hk
    rw[ha] at e
    cases e
    refine core (λ_=>none) (λ_ => .inl rfl) (.inr ⟨_,vs.toArray,_,hk,rfl,rfl,rfl,by rw[Qb,lenV]; exact hl,by simpa using rv⟩) (λb u z=>by have z':(none:Option HO)=some u:=z; cases z') (λb z=>absurd rfl z) λz=>absurd rfl z
  | none =>
    refine core (λb=>if b=a then some (.frz { cls:=.type "list", data:=.seq vs.toArray } (.lst (ns.map V.int))) else none) (λb=>?_) (.inl (.inr ⟨{ cls:=.type "list", data:=.seq vs.toArray },if_pos rfl⟩)) (λb u z=>?_) (λb z=>?_) λ_=>hk
    · by_cases hb:b=a
      · exact .inr ⟨_,_,if_pos hb⟩
      · exact .inl (if_neg hb)
    · by_cases hb:b=a
      · have z':=(if_pos hb).symm.trans z
        cases z'
        subst hb
        exact ⟨ha,by rw[Q0]; exact hl,vs,_,rv,ha⟩
      · have z':=(if_neg hb).symm.trans z
        cases z'
    · by_cases hb:b=a
      · exact hb
      · exact absurd (if_neg hb) z
end L2
namespace L2
open PySem PySem.Spec PyProof.Rows
abbrev KOf{K:PySem.W.Frag}{h:Heap}(_:K.In h):PySem.W.Frag:=K
theorem walk_of{l:PySem.W.OpenLaw}{n k:Nat}{q:Program}{loose:List Str}{XP:(Str->Option Value)->Heap->Prop}{YP:World->Heap->Prop}{d:DefRec}{K:Params->PySem.W.Frag}{CX:World->CXT}{sp:World->Sp}{x:Str}
    (hn:l.most=some n) (hn2:n<=sizeLine) (hdf:d.params.defaults=[]) (hr:Room k callerA)
    (hY:∀(w:World) (h:Heap),YP w h->(K w.params).In h)
    (F:∀(w:World) (mg:Str->Option Value) (fa:Addr) (h:Heap),(K w.params).In h->h.Ns mainGlobals mg->mg d.name=some (.ref fa) →
      ∃fd:FuncData,(∀(s:Shared) (u:Value),BindsTo s fd ⟨[u],[]⟩ [(x,u)]) ∧
        ∀base:Heap,(K w.params).In base->base.Ns mainGlobals mg->FnOk l.prog w (K w.params) mg base (CX w) k fa fd [x] (sp w))
    (hsp:∀(w:World) (H:Hp) (a:Addr) (ns:List Int),ns.length<=n->Zo6 H->SqL (K w.params) H a (ns.map V.int)->sp w [.ref a] H (λv _=>v = .bl true) λ_ _ _=>False)
    (hCX:∀(w:World) (H:Hp) (s:Shared) (e:Value) (s':Shared),CX w [] H s (λ_ _ _=>False) e s'->False) :
    PySem.W.WalkO q loose XP YP l.row.toRowW d [] (λf vs=>PySem.call f vs):=by
  refine Att.attach_call hn hdf λw s₀ s₁ mg mb fa o pm cd doc a vs ns G Y ho hd hcd hmg hobj hints hlen hg=>?_
  have KX:=hY w _ Y
  obtain ⟨fd,hb,hF⟩:=F w mg fa _ KX G.T.g hmg
  exact Zig KX G.T.g G.T.b G.T.builtins G.T.nolimit hg hobj hints (Q2 hlen hn2) hr hF hb (λH hO hS=>hsp w H a ns hlen hO hS) λH e s'=>hCX w H s₁ e s'
end L2
/- THE LAST THEOREM (shape; LID,My.* are yours):
   My.Adr: a structure of the addresses that your layer names (classes,functions); My.Txt K t: a structure (Prop) of the equations over K;
   My.txt_mk:{K} {implicit addresses ..} (e1:nsIn K mainGlobals "law" = some (some (.ref f))) (e2:K.lookup f=some ⟨oc,od,.func (fnOf "law" "law" params body scope dV kV doc pm an cdv ct),sl⟩) (e3:codeIn K cdv "law" = true) ..:∃t,My.Txt K t
set_option maxRecDepth 100000 in
set_option maxHeartbeats 0 in
theorem PySem.Challenge.cw_LID_holds : PySem.Challenge.rw_LID.Holds := by
  w_on; o_law; k_head; (case hw=>w_witness2)
  k_fill
  refine L2.walk_of (l:=PySem.Challenge.rw_LID) (n:=63) (k:=40) (x := "script") (CX:=λw => ..) (sp:=λ_=>My.sp_law) rfl (by decide) rfl ⟨rfl,by decide,by decide⟩ (λw h Y=>PySem.W.kIn_of Y) ?F ?S ?C
  case F =>
    intro w mg fa h KX G hmg
    have T:∃t,My.Txt (L2.KOf KX) t:=by
      dsimp only[L2.KOf]                          -- K must stand as «<heap const> w.params» for k_is
      refine' My.txt_mk ?e1 ?e2 ?e3 ..
      (case e1=>PySem.W.k_is)                    -- in the order: a name -> its address -> its object -> its parts
      (case e2=>PySem.W.k_is)
      ..
    obtain ⟨t,T⟩:=T
    have e0:=hmg.symm.trans (PySem.W.mg_of KX G T.law)
    cases e0                                       -- fa is the law's own address
    exact ⟨_,λs u => .of_eq rfl,λbase kb nb=>My.law_fn T kb nb⟩     -- if «.of_eq rfl» comes too early: refine' ⟨_,?b,λbase kb nb=>My.law_fn T kb nb⟩; exact λs u => .of_eq rfl
  case S=>exact λw H a ns hl hO hS => ..
  case C=>exact ..
(the tactic k_is has no namespace: write k_is) -/
namespace L2
open PySem PySem.Spec PyProof.Rows
def ZaZ(s:Stmt)(j:Nat):Stmt:=match s with
  | .ClassDef _ _ _ body _ _ _ _ _ _ _=>body.getD j (.Pass ⟨0,0,0,0⟩)
  | _ => .Pass ⟨0,0,0,0⟩
def ZbY(s:Stmt):Arguments:=match s with
  | .FunctionDef _ a _ _ _ _ _ _ _ _=>a
  | _=>{ posonlyargs:=[],args:=[],vararg:=none,kwonlyargs:=[],kw_defaults:=[],kwarg:=none,defaults:=[] }
def Zbj(s:Stmt):List Stmt:=match s with
  | .FunctionDef _ _ b _ _ _ _ _ _ _=>b
  | _=>[]
def Zah(s:Stmt):Scope:=match s with
  | .FunctionDef _ _ _ _ _ _ sc _ _ _=>sc
  | _=>{ kind:=.function,names:=[],isGenerator:=false,isCoroutine:=false }
abbrev CX0:CXT:=λ_ _ _ _ _ _=>False
abbrev E0:XK:=λ_ _ _=>False
theorem Zm1{X:Cx}:Zgw CX0 X E0:=λ_ _ _ _ _ _ _ h=>h.elim
structure Fun (K:PySem.W.Frag) (x qual:Str) (st:Stmt) (f:Addr) (fd:FuncData):Prop where
  ex:∃(oc:Value) (od:Option Addr) (kV doc pm:Value) (an:Option Addr) (cdv ct:Value) (osl:Array (Option Value)),
    fd=PySem.W.fnOf x qual (ZbY st) (Zbj st) (Zah st) .none kV doc pm an cdv ct/\K.lookup f=some ⟨oc,od,.func fd,osl⟩/\PySem.W.codeIn K cdv qual=true
  kp:PySem.W.keepIn K (.ref f)=true
section
variable{P:Program}{w:World}{K:PySem.W.Frag}{mg:Str->Option Value}{base:Heap}
theorem Fun.ok{x qual:Str}{st:Stmt}{f:Addr}{fd:FuncData}{N ps:List Str}{k:Nat}{sp:Sp}(F:Fun K x qual st f fd)(S:FnScope N ps (Zah st))(len:∀vs H Q E,sp vs H Q E->vs.length=ps.length)
    (hbody:∀(cdv:Value) (A:Around) (outer:List Env) (s:Shared) (H:Hp) (vs:List V) (Q:VK) (E:XK),Room k (A.deeper (envOfC qual (Zah st) s.heap.objs.size f cdv))->sp vs H Q E →
      ∃t,PSs (ZmV CX0 P w K mg base N qual (Zah st) f cdv A outer s H E).nox (Zbj st) t/\t { nx:=λ_ H'=>Q .non H',rt:=Q } (start N vs) H):FnOk P w K mg base CX0 (k+1) f fd ps sp:=by
  obtain ⟨oc,od,kV,doc,pm,an,cdv,ct,osl,rfl,lk,hcd⟩:=F.ex
  refine ZmW lk hcd S len λA outer s H vs Q E hr hsp=>?_
  obtain ⟨t,h,q⟩:=hbody cdv A outer s H vs Q E hr hsp
  exact ⟨t,h.nox,q⟩
theorem Fun.binds{x qual:Str}{st:Stmt}{f:Addr}{fd:FuncData}{ps:List Str}(F:Fun K x qual st f fd)
    (h:∀(kV doc pm:Value) (an:Option Addr) (cdv ct:Value) (us:List Value),us.length=ps.length->bindArgs (PySem.W.fnOf x qual (ZbY st) (Zbj st) (Zah st) .none kV doc pm an cdv ct) ⟨us,[]⟩=pure (ps.zip us)):Binds K fd ps []:=by
  obtain ⟨oc,od,kV,doc,pm,an,cdv,ct,osl,rfl,lk,hcd⟩:=F.ex
  exact .all (h kV doc pm an cdv ct)
theorem ZjG{x qual:Str}{st:Stmt}{f:Addr}{oc:Value}{od an:Option Addr}{osl:Array (Option Value)}{kV doc pm cdv ct:Value}(l:K.lookup f=some ⟨oc,od,.func (PySem.W.fnOf x qual (ZbY st) (Zbj st) (Zah st) .none kV doc pm an cdv ct),osl⟩)
    (c:PySem.W.codeIn K cdv qual=true) (k:PySem.W.keepIn K (.ref f)=true):Fun K x qual st f (PySem.W.fnOf x qual (ZbY st) (Zbj st) (Zah st) .none kV doc pm an cdv ct):=⟨⟨oc,od,kV,doc,pm,an,cdv,ct,osl,rfl,l,c⟩,k⟩
end
theorem Zll{A:Around}{k:Nat}(hr:Room k A):A.units+1<cLine:=Qk (Nat.add_le_add_left (by decide:1<=64) _) hr.units
theorem Zbu{n:Nat}(h:n<=1000):n<sizeLine:=Qk h (by decide)
section
variable{X:Cx}
theorem pv(i:Nat){x:Str}{pos:Pos}(hN:X.N[i]?=some x:=by rfl)(hv:Vis X.env.scope x:=by first | exact Or.inl rfl | exact Or.inr (Or.inl rfl) | exact Or.inr (Or.inr rfl))(hd:(x==("__debug__" : Str))=false:=by decide)
    (hcd:(x==("__classdict__" : Str))=false:=by decide):PE X (.Name x pos) (ZnW i):=Zn3 hN hv hd hcd
end
theorem Zji{A B:Prop}(h:B):if false=true then A else B:=by
  rw[if_neg Qj]
  exact h
theorem ZiN{A B:Prop}(h:A):if true=true then A else B:=by
  rw[if_pos rfl]
  exact h
theorem Zqj{c A B:Prop}[Decidable c](h1:c->A)(h2:¬c->B):if c then A else B:=by
  by_cases h:c
  · rw[if_pos h]
    exact h1 h
  · rw[if_neg h]
    exact h2 h
def Same(H H':Hp):Prop:=∀b o,H b=some o->H' b=some o
theorem Same.refl(H:Hp):Same H H:=λ_ _ h=>h
theorem Same.trans{H H1 H2:Hp}(a:Same H H1)(b:Same H1 H2):Same H H2:=λc o h=>b c o (a c o h)
theorem Same.free{H H':Hp}(e:Same H H'){l:Addr}(h:H' l=Option.none):H l=Option.none:=by
  cases q:H l with
  | none=>rfl
  | some o =>
    rw[e l o q] at h
    cases h
theorem Same.seq{K:PySem.W.Frag}{H H':Hp}{a:Addr}{xs:List V}(e:Same H H')(h:SqL K H a xs):SqL K H' a xs:=by
  rcases h with (h | ⟨o,h⟩) | h
  · exact .inl (.inl (e _ _ h))
  · exact .inl (.inr ⟨o,e _ _ h⟩)
  · exact .inr h
end L2
set_option maxHeartbeats 4000000
namespace L2
open PySem PySem.Spec PyProof.Rows
theorem Zc6{k:Int}{n:Nat}(h:k.natAbs<2^n):Builtin.Int.intBits k<=n:=by
  unfold Builtin.Int.intBits
  split
  · exact Qd _
  · rename_i h0
    have hk:k.natAbs≠0:=by
      intro z
      apply h0
      have:k=0:=by omega
      simp[this]
    have:k.natAbs.log2<n:=(Nat.log2_lt hk).mpr h
    omega
theorem Zhh:10^150<2^600:=by decide +kernel
theorem ZbA{i j:Int}(h:i.natAbs<=10^150)(h':j.natAbs<=10^150):IntMulOk i j :=
  .of_bits (Q2 (Zc6 (n:=600) (Qk h Zhh)) (by decide)) (Q2 (Zc6 (n:=600) (Qk h' Zhh)) (by decide))
theorem Zm2{j:Int}(h:j.natAbs<=10^150):j.natAbs.log2<9000:=by
  rcases Nat.eq_zero_or_pos j.natAbs with z | z
  · rw[z]; decide
  · exact U9 ((Nat.log2_lt (Wn z)).mpr (Qk h Zhh)) (by decide)
section
variable{X:Cx}
theorem ZaA:OpR X (binaryOp .Mult) (rI IntMulOk λi j => .int (i*j)):=opI λ_ _ _ _ _ _ _ hc q=>mul_int q hc
theorem ZfE:OpR X (binaryOp .FloorDiv) (rI (λ_ j=>j≠0/\j.natAbs<=10^150) λi j => .int (i.fdiv j)):=opI λ_ _ _ _ _ _ _ hc q=>floordiv_int hc.1 q (.inl (PyProof.noPylong_of_log2 (Zm2 hc.2)))
theorem ZjH{x:Str}{T:String}{pos:Pos}(hg:Gl X x)(hm:X.mg x=none)(hv:bootBuiltins x=some (.type T))(hn:x ≠ "__name__" := by decide) (hd:(x==("__debug__" : Str))=false:=by decide):PE X (.Name x pos) (tC (.ty T)):=ZmP hg hm hv rfl hn hd
theorem Zcg:CallR X (.builtin "isinstance") (λxs H Q=>∃x T t b,xs=[x,.ty T]/\Zie X.K H x t/\PySem.W.kitOne X.K t (.type T)=some b/\Q (.bl b) H):=by
  intro pins s σ H xs us Q I r h
  obtain ⟨x,T,t,b,rfl,ty,hk,q⟩:=h
  obtain ⟨u,w',rfl,r1,r2⟩:=Zju r
  cases r2
  exact ZjA I r1 ty hk λtk=>⟨.bl b,H,I.tok _,rfl,q⟩
end
theorem ZfF(K:PySem.W.Frag)(t:Value)(h:(t==t)=true:=by rfl):PySem.W.kitOne K t t=some true:=by
  unfold PySem.W.kitOne
  rw[if_pos h]
theorem Zlm(K:PySem.W.Frag){t T:String}{b:Bool}(h0:((Value.type t)==(Value.type T))=false)(h1:PySem.W.kitMeta T=true)(h:(PySem.fastBuiltinMro t).map (·.contains (Value.type T))=some b):PySem.W.kitOne K (.type t) (.type T)=some b:=by
  unfold PySem.W.kitOne PySem.W.kitCls
  rw[if_neg (by rw[h0]; exact Qj)]
  show (if PySem.W.kitMeta T=true then PySem.W.subIn K (Value.type t) (Value.type T) else none)=some b
  rw[if_pos h1]
  exact h
theorem Zea(K:PySem.W.Frag):PySem.W.kitOne K (.type "int") (.type "bool")=some false:=Zlm K (by decide +kernel) (by decide +kernel) (by decide +kernel)
section
variable{A B:Prop}
theorem Zcu{p:Prop}[Decidable p](h1:p->A)(h2:¬p->B):if decide p=true then A else B:=Zqj (λc=>h1 (of_decide_eq_true c)) λc=>h2 (of_decide_eq_false (Bool.eq_false_iff.mpr c))
theorem ZjI{p:Prop}[Decidable p](h1:¬p->A)(h2:p->B):if (!decide p)=true then A else B:=by
  by_cases h:p
  · rw[decide_eq_true h]; exact Zji (h2 h)
  · rw[decide_eq_false h]; exact ZiN (h1 h)
theorem Zbv{a b:Int}(h1:a=b->A)(h2:a≠b->B):if decide (V.int a=V.int b)=true then A else B:=Zcu (λe=>h1 (V.int.inj e)) λe=>h2 λz=>e (by rw[z])
theorem ZeC{a b:Int}(h1:a≠b->A)(h2:a=b->B):if (!decide (V.int a=V.int b))=true then A else B:=ZjI (λe=>h1 λz=>e (by rw[z])) λe=>h2 (V.int.inj e)
end
theorem Zln{a b:Int}(h:a=b):decide (V.int a=V.int b)=true:=decide_eq_true (by rw[h])
theorem Zhi(a b:Int):decide (V.int a=V.int b)=decide (a=b):=by
  by_cases h:a=b
  · rw[decide_eq_true h,Zln h]
  · rw[decide_eq_false h,decide_eq_false λz=>h (V.int.inj z)]
structure Here (K:PySem.W.Frag) (mg:Str->Option Value) (x:Str) (st:Stmt):Prop where
  ex:∃(f:Addr) (fd:FuncData),Fun K x x st f fd/\mg x=some (.ref f)
structure Has (P:Program) (w:World) (K:PySem.W.Frag) (mg:Str->Option Value) (base:Heap) (x:Str) (k:Nat) (ps:List Str) (sp:Sp):Prop where
  ex:∃(f:Addr) (fd:FuncData),FnOk P w K mg base CX0 k f fd ps sp/\mg x=some (.ref f)/\PySem.W.keepIn K (.ref f)=true/\Binds K fd ps []
section
variable{P:Program}{w:World}{K:PySem.W.Frag}{mg:Str->Option Value}{base:Heap}{x:Str}{st:Stmt}{k j:Nat}{ps:List Str}{sp:Sp}
theorem Has.mono(h:Has P w K mg base x j ps sp)(e:j<=k):Has P w K mg base x k ps sp :=
  let ⟨f,fd,a,b,c,d⟩:=h.ex
  ⟨f,fd,a.mono e,b,c,d⟩
theorem Here.has(h:Here K mg x st)(b:∀f fd,Fun K x x st f fd->Binds K fd ps [])(ok:∀f fd,Fun K x x st f fd->FnOk P w K mg base CX0 k f fd ps sp):Has P w K mg base x k ps sp :=
  let ⟨f,fd,F,m⟩:=h.ex
  ⟨f,fd,ok f fd F,m,F.kp,b f fd F⟩
theorem here_mk{h:Heap}{f:Addr}{oc:Value}{od an:Option Addr}{osl:Array (Option Value)}{kV doc pm cdv ct:Value}(X:K.In h)(G:h.Ns mainGlobals mg)(a:PySem.W.nsIn K mainGlobals x=some (some (.ref f)))
    (l:K.lookup f=some ⟨oc,od,.func (PySem.W.fnOf x x (ZbY st) (Zbj st) (Zah st) .none kV doc pm an cdv ct),osl⟩)
    (c:PySem.W.codeIn K cdv x=true) (k:PySem.W.keepIn K (.ref f)=true):Here K mg x st:=⟨f,_,ZjG l c k,PySem.W.mg_of X G a⟩
end
theorem Zao{X:Cx}{x:Str}{k:Nat}{ps:List Str}{sp:Sp}{e:Expr}{es:List Expr}{t:TA}{p pos:Pos}(h:Has X.prog X.w X.K X.mg X.base x k ps sp)(hr:Room k X.A)(hg:Gl X x)(ha:PA X (e::es) t)(hdb:(x==("__debug__" : Str))=false:=by decide)
    (he:starEach (e::es) X.env=(false,eval e X.env)::starEach es X.env:=by rfl) (hpl:(backTo pos (starEach es X.env)).any (·.1)=false:=by rfl):PE X (.Call (.Name x p) (e::es) [] pos) (Zoa sp [] E0 t):=by
  obtain ⟨f,fd,F,hm,hk,hb⟩:=h.ex
  exact ZmT F hr hg hm hk hb .nil Zm1 ha hdb he hpl
theorem Zag{H:Hp}{p:Addr}(h:H p=none)(o:HO):Same H (upd H p o):=λb u q=>by rw[Zap (Zaz q h)]; exact q
theorem Same.tup{K:PySem.W.Frag}{H H':Hp}{a:Addr}{xs:List V}(e:Same H H')(h:SqT K H a xs):SqT K H' a xs:=by
  rcases h with (h | ⟨o,h⟩) | h
  · exact .inl (.inl (e _ _ h))
  · exact .inl (.inr ⟨o,e _ _ h⟩)
  · exact .inr h
end L2
namespace L2
open PySem PySem.Spec PyProof.Rows
def Zha(cells:List (Str×Addr)):List (Str×NameKind)->List (Str×Addr)->List (Str×Addr)
  | [],cs=>cs
  | (n,k)::r,cs=>Zha cells r (if k=NameKind.free then (match cells.lookup n with | some a=>(n,a)::cs | none=>cs) else cs)
theorem Zej{cells:List (Str×Addr)}:∀(ns:List (Str×NameKind)) (cs:List (Str×Addr)),(∀p∈cs,cells.lookup p.1=some p.2)->∀p∈Zha cells ns cs,cells.lookup p.1=some p.2
  | [],_,h=>h
  | (n,k)::r,cs,h=>by
    refine Zej r _ λp hp=>?_
    by_cases hk:k=NameKind.free
    · rw[if_pos hk] at hp
      cases e:cells.lookup n with
      | none=>rw[e] at hp; exact h p hp
      | some a =>
        rw[e] at hp
        rcases Q8.mp hp with rfl | hp
        · exact e
        · exact h p hp
    · rw[if_neg hk] at hp
      exact h p hp
theorem Zih{cells:List (Str×Addr)}:∀(ns:List (Str×NameKind)) (cs:List (Str×Addr)),∀p∈cs,p∈Zha cells ns cs
  | [],_,_,h=>h
  | (n,k)::r,cs,p,h=>by
    refine Zih r _ p ?_
    by_cases hk:k=NameKind.free
    · rw[if_pos hk]
      cases e:cells.lookup n with
      | none=>exact h
      | some a=>exact Wd _ h
    · rw[if_neg hk]; exact h
theorem Zek{cells:List (Str×Addr)}{x:Str}:∀(ns:List (Str×NameKind)) (cs:List (Str×Addr)),(x,NameKind.free)∈ns->(∃c,cells.lookup x=some c)->∃c,(x,c)∈Zha cells ns cs
  | (n,k)::r,cs,h,hc=>by
    rcases Q8.mp h with e | h
    · cases e
      obtain ⟨c,hc⟩:=hc
      refine ⟨c,Zih r _ _ ?_⟩
      rw[if_pos rfl,hc]
      exact Qw
    · exact Zek r _ h hc
theorem ZbG{β:Type}{x:Str}{c:β}:∀ {l:List (Str×β)},(x,c)∈l->∃d,l.lookup x=some d
  | (n,a)::r,h=>by
    by_cases hx:x=n
    · exact ⟨a,by simp[Wh,hx]⟩
    · rcases Q8.mp h with e | h
      · cases e; exact absurd rfl hx
      · obtain ⟨d,hd⟩:=ZbG h
        refine ⟨d,?_⟩
        have hb:(x==n)=false:=beq_eq_false_iff_ne.mpr hx
        simp only[Wh,hb]
        exact hd
theorem Zft{env:Env}{α:Type}(k:List (Str×Addr)->Sem α):∀(ns:List (Str×NameKind)) (cs:List (Str×Addr)),(∀y,(y,NameKind.free)∈ns->∃c,env.cells.lookup y=some c) →
    (forIn ns cs (λ(x:Str×NameKind) (r:List (Str×Addr))=>if (x.2==NameKind.free)=true then (do let a ← cellOf env x.1; pure (ForInStep.yield ((x.1,a)::r))) else pure (ForInStep.yield r)):Sem _)=pure (Zha env.cells ns cs)
  | [],cs,_=>rfl
  | (n,kd)::r,cs,h=>by
    have ih:=λcs=>Zft k r cs λy hy=>h y (Wd _ hy)
    rw[List.forIn_cons]
    by_cases hk:kd=NameKind.free
    · subst hk
      obtain ⟨c,hc⟩:=h n Qw
      show ((cellOf env n >>= λa=>pure (ForInStep.yield ((n,a)::cs))) >>= _:Sem _)=_
      have hce:cellOf env n=pure c:=by unfold cellOf; rw[hc]
      rw[hce]
      show (forIn r ((n,c)::cs) _:Sem _)=_
      rw[ih]
      show _=pure (Zha env.cells r (if NameKind.free=NameKind.free then (match env.cells.lookup n with | some a=>(n,a)::cs | none=>cs) else cs))
      rw[if_pos rfl,hc]
    · have hb:(kd==NameKind.free)=false:=by simpa using hk
      show ((if (kd==NameKind.free)=true then (do let a ← cellOf env n; pure (ForInStep.yield ((n,a)::cs))) else pure (ForInStep.yield cs)) >>= _:Sem _)=_
      rw[hb,if_neg Qj]
      show (forIn r cs _:Sem _)=_
      rw[ih]
      show _=pure (Zha env.cells r (if kd=NameKind.free then _ else cs))
      rw[if_neg hk]
theorem ZdL{scope:Scope}{env:Env}(h:∀y,(y,NameKind.free)∈scope.names->∃c,env.cells.lookup y=some c):closureFor scope env=pure (Zha env.cells scope.names []):=by
  unfold closureFor
  have:=Zft (env:=env) (α:=List (Str×Addr)) pure scope.names [] h
  show (forIn scope.names [] (λ(x:Str×NameKind) (r:List (Str×Addr))=>if (x.2==NameKind.free)=true then (do let a ← cellOf env x.1; pure (ForInStep.yield ((x.1,a)::r))) else pure (ForInStep.yield r)) >>= λcs=>pure cs:Sem _)=_
  rw[this]
  rfl
theorem ZfG{scope:Scope}{env:Env}(h:(scope.names.all λy=>!(y.2==NameKind.free)||(env.cells.lookup y.1).isSome)=true):∀y,(y,NameKind.free)∈scope.names->∃c,env.cells.lookup y=some c:=λy hy=>by
  have e:(env.cells.lookup y).isSome=true:=List.all_eq_true.mp h (y,NameKind.free) hy
  exact Option.isSome_iff_exists.mp e
def CapsOk(X:Cx)(scope:Scope):List (Nat×Str)->Prop
  | []=>True
  | p::r=>(X.N[p.1]?=some p.2/\scope.names.lookup p.2=some .free/\(X.env.kindOf p.2=some .cell\/X.env.kindOf p.2=some .free))/\CapsOk X scope r
theorem CapsOk.mem{X:Cx}{scope:Scope}:∀ {caps:List (Nat×Str)},CapsOk X scope caps->∀p∈caps,X.N[p.1]?=some p.2/\scope.names.lookup p.2=some .free/\(X.env.kindOf p.2=some .cell\/X.env.kindOf p.2=some .free)
  | [],_,_,h=>nomatch h
  | _::_,⟨h1,h2⟩,p,h=>by
    rcases Q8.mp h with rfl | h
    · exact h1
    · exact h2.mem p h
def Zbw(X:Cx)(scope:Scope)(N:List Str)(s₀:Shared)(H₀:Hp)(C:Addr)(fp:List Addr):Cx where
  prog:=X.prog
  w:=X.w
  K:=X.K
  mg:=X.mg
  base:=X.base
  A:=X.A
  N:=N
  s₀:=s₀
  H₀:=H₀
  env:=compEnvC scope (Zha X.env.cells scope.names []) C X.env
  outer:=X.stack
  stack:=X.stack
  ex:=fp
  fn:=λ_=>false
  calm:=X.calm
  pn:=[]
  xe:=λ_ _=>False
def st0(k:Nat)(caps:List (Nat×Str))(σ:St):St:=List.replicate k none++caps.map λp=>(σ[p.1]?).join
theorem ZgD{prog:Program}{w:World}{A:Around}{R:Result->Shared->Prop}{s:Shared}{elt target iter:Expr}{scope:Scope}{pos:Pos}{it acc:Value}{env:Env}(I:Nat->Shared->Prop)
    (turn:∀n s,I n s->wpAny (model prog w) A (pyNext it) (λr s₁=>match r with
      | none=>R (.ok .next) s₁
      | some v=>wpAny (model prog w) A (letOwnedTupleGo target it v) (λ_ s₁=>wpAny (model prog w) A (assign target env v) (λ_ s₂=>wpAny (model prog w) A (eval elt env) (λx s₃ =>
          wpAny (model prog w) A (call (.builtin "list.append") [acc,x]) (λ_ s₄=>∃m,m<n/\I m s₄) (λ_ _=>False) s₃)
          (λ_ _=>False) s₂) (λ_ _=>False) s₁) (λ_ _=>False) s₁) (λ_ _=>False) s)
    (n:Nat) (h:I n s) :
    codeAny (model prog w) A (.compLoop (.ListComp elt [⟨target,iter,[],0⟩] scope pos) 0 it acc env) R s:=by
  refine codeAny_loop rfl I (λn s hI=>?_) n h
  show wpAny _ _ ((compTurn (.ListComp elt [⟨target,iter,[],0⟩] scope pos) 0 it acc env).onRaise (λx=>do noteFrame x env; theTreesLotGoes x)) _ _ s
  refine wpAny_noted ?_
  rw[compTurn_list1]
  refine wpAny_bind (wpAny_standAt (wpAny_bind (wpAny_mono (turn n s hI) (λr s₁ h₁=>?_) λ_ _ h'=>False.elim h')))
  cases r with
  | none=>exact wpAny_pure h₁
  | some v =>
    refine wpAny_bind (wpAny_mono h₁ (λ_ s₁ h₁=>?_) λ_ _ h'=>False.elim h')
    exact wpAny_bind (wpAny_mono h₁ (λ_ s₂ h₂=>wpAny_bind (wpAny_bind (wpAny_mono h₂ (λx s₃ h₃=>wpAny_bind (wpAny_mono h₃
      (λ_ s₄ h₄=>wpAny_pure (wpAny_pure ⟨rfl,h₄⟩)) λ_ _ h'=>False.elim h')) λ_ _ h'=>False.elim h'))) λ_ _ h'=>False.elim h')
def ZeD(k:Nat)(caps:List (Nat×Str))(g:TG)(te:TE)(σ:St)(J:It)(H:Hp)(Q:List V->Hp->Prop):Prop :=
  ∃W:Nat->Nat->List V->Hp->Prop,(∃m,W 0 m [] H)/\∀i m ys H',W i m ys H'->ys.length<=sizeLine/\((J.stop i H'/\Q ys H') ∨
    (J.go i H'/\ys.length<sizeLine/\∃N:V->Hp->Prop,(∀v H4,N v H4->∃m',m'<m/\W (i+1) m' (ys++[v]) H4) ∧
      ∀x H2,J.yld i H' x H2->g x (st0 k caps σ) H2 λσ2 H3=>(∀(i:Nat) v,(st0 k caps σ)[i]?=some (some v)->σ2[i]?=some (some v))/\te σ2 H3 N))
def Zoi(k:Nat)(caps:List (Nat×Str))(wi:TI)(g:TG)(te:TE):TE:=λσ H Q=>wi σ H λJ H1=>ZeD k caps g te σ J H1 λys H2=>∀D,H2 D=none->Q (.ref D) (upd H2 D (.lst ys))
section
variable{X:Cx}{tg iter elt:Expr}{scope:Scope}{pos:Pos}{wi:TI}{g:TG}{te:TE}{own:List Str}{caps:List (Nat×Str)}
theorem Zeb{scope:Scope}{env:Env}{x:Str}(hx:scope.names.lookup x=some .free):(relabel scope env).names.lookup x=some .cell\/(relabel scope env).names.lookup x=some .free:=by
  unfold relabel
  show (scope.names.map _).lookup x=_\/(scope.names.map _).lookup x=_
  generalize scope.names=ns at hx
  induction ns with
  | nil=>simp at hx
  | cons p r ih =>
    obtain ⟨n,k⟩:=p
    rw[W1]
    by_cases hn:x=n
    · subst hn
      simp only[Wh,beq_self_eq_true] at hx
      cases hx
      by_cases hc:((NameKind.free==NameKind.free)&&env.scope.kind == .function&&env.kindOf x==some .cell)=true
      · left
        show List.lookup x ((if _=true then (x,NameKind.cell) else (x,NameKind.free))::_)=_
        rw[if_pos hc]
        simp[Wh]
      · right
        show List.lookup x ((if _=true then (x,NameKind.cell) else (x,NameKind.free))::_)=_
        rw[if_neg hc]
        simp[Wh]
    · have hb:(x==n)=false:=beq_eq_false_iff_ne.mpr hn
      simp only[Wh,hb] at hx
      have:=ih hx
      show List.lookup x ((if _=true then (n,NameKind.cell) else (n,k))::_)=_\/List.lookup x ((if _=true then (n,NameKind.cell) else (n,k))::_)=_
      split <;> (simp only[Wh,hb]; exact this)
theorem Zec{scope:Scope}{env:Env}{x:Str}(hc:∀y∈scope.names,y.2 ≠ .cell)(hx:(relabel scope env).names.lookup x=some .cell\/(relabel scope env).names.lookup x=some .free):(x,NameKind.free)∈scope.names:=by
  unfold relabel at hx
  have hx:(scope.names.map λ(n,k)=>if (k==NameKind.free&&env.scope.kind == .function&&env.kindOf n==some .cell) then (n,NameKind.cell) else (n,k)).lookup x=some .cell\/(scope.names.map λ(n,k)=>if (k==NameKind.free&&env.scope.kind == .function&&env.kindOf n==some .cell) then (n,NameKind.cell) else (n,k)).lookup x=some .free:=hx
  generalize scope.names=ns at hx hc
  induction ns with
  | nil=>simp at hx
  | cons p r ih =>
    obtain ⟨n,k⟩:=p
    rw[W1] at hx
    have hr:=λz=>ih z (λy hy=>hc y (Wd _ hy))
    by_cases hn:x=n
    · subst hn
      by_cases hk:k=NameKind.free
      · subst hk; exact Qw
      · have hb:(k==NameKind.free)=false:=by simpa using hk
        have hx':List.lookup x ((x,k)::List.map (λ(p:Str×NameKind)=>match p with | (n,k)=>if (k==NameKind.free&&env.scope.kind == .function&&env.kindOf n==some .cell)=true then (n,NameKind.cell) else (n,k)) r)=some .cell\/List.lookup x ((x,k)::List.map (λ(p:Str×NameKind)=>match p with | (n,k)=>if (k==NameKind.free&&env.scope.kind == .function&&env.kindOf n==some .cell)=true then (n,NameKind.cell) else (n,k)) r)=some .free:=by
          simpa [hb] using hx
        simp only[Wh,beq_self_eq_true,Option.some.injEq] at hx'
        rcases hx' with e | e
        · exact absurd e (hc (x,k) Qw)
        · exact absurd e hk
    · have hb:(x==n)=false:=beq_eq_false_iff_ne.mpr hn
      refine Wd _ (hr ?_)
      have hx2:List.lookup x ((if (k==NameKind.free&&env.scope.kind == .function&&env.kindOf n==some .cell)=true then (n,NameKind.cell) else (n,k))::List.map (λ(p:Str×NameKind)=>match p with | (n,k)=>if (k==NameKind.free&&env.scope.kind == .function&&env.kindOf n==some .cell)=true then (n,NameKind.cell) else (n,k)) r)=some .cell\/List.lookup x ((if (k==NameKind.free&&env.scope.kind == .function&&env.kindOf n==some .cell)=true then (n,NameKind.cell) else (n,k))::List.map (λ(p:Str×NameKind)=>match p with | (n,k)=>if (k==NameKind.free&&env.scope.kind == .function&&env.kindOf n==some .cell)=true then (n,NameKind.cell) else (n,k)) r)=some .free:=hx
      split at hx2 <;> (simp only[Wh,hb] at hx2; exact hx2)
end
end L2
namespace L2
open PySem PySem.Spec PyProof.Rows
section
variable{X:Cx}{tg iter elt:Expr}{scope:Scope}{pos:Pos}{wi:TI}{g:TG}{te:TE}{own:List Str}{caps:List (Nat×Str)}
theorem ZgE{pins:List (Addr×Obj)}{σ:St}{H:Hp}{s:Shared}{fp:List Addr}{C:Addr}{N:List Str}(I:Inv X pins σ H s)(hkind:scope.kind = .function)(hcell:∀y∈scope.names,y.2 ≠ .cell)
    (hfree:∀y,(y,NameKind.free)∈scope.names->∃c,X.env.cells.lookup y=some c) (hC:s.heap.objs.size<=C) (hf:∀b∈fp,ZiE X pins H b) (hlt:∀b∈fp,b<s.heap.objs.size):(Zbw X scope N s H C fp).Ok:=by
  have sub:∀x c,(Zha X.env.cells scope.names []).lookup x=some c->X.env.cells.lookup x=some c:=λx c e=>Zej scope.names [] (λp hp=>(nomatch hp)) (x,c) (PySem.mem_of_lookup e)
  refine ⟨I.ok.mod,hkind,I.ok.glob,I.ok.blt,hC,λx y c h1 h2=>I.ok.inj x y c (sub x c h1) (sub y c h2),λx hx=>?_,λx c h=>(Qj h).elim,I.ok.hd,I.ok.frames,.inl rfl,λb hb=>⟨?_,λx c e=>(hf b hb).2.2.2.2.1 x c (sub x c e)⟩,I.bs,Q2 I.ok.bsz I.sz,λb o e hb=>?_,λb hb z=>?_,I.stack,I.stkFree⟩
  · obtain ⟨c,hc⟩:=Zek scope.names [] (Zec hcell hx) (hfree x (Zec hcell hx))
    exact ZbG hc
  · exact Qa (Q6 (hlt b hb) hC)
  · rcases (hf b hb).2.2.2.1 with z | z
    · exact I.ok.noex b o e z
    · exact absurd (Q6 (Heap.lt_size e) (Q2 I.ok.bsz z)) (Qv _)
  · rcases Q8.mp (I.stkSub b z) with e | e
    · exact (hf b hb).2.1 e
    · exact (hf b hb).2.2.1 e
theorem ZjJ(k:Nat)(caps:List (Nat×Str))(σ:St):(st0 k caps σ).length=k+caps.length:=by
  unfold st0
  rw[Qc,U8,Q0]
theorem ZjK{k:Nat}{caps:List (Nat×Str)}{σ:St}{i:Nat}{v:V}(h:(st0 k caps σ)[i]?=some (some v)):k<=i/\∃p,caps[i-k]?=some p/\σ[p.1]?=some (some v):=by
  unfold st0 at h
  by_cases hi:i<k
  · rw[W2 (by rw[U8]; exact hi),List.getElem?_replicate,if_pos hi] at h
    cases h
  · have hk:k<=i:=Nat.not_lt.mp hi
    refine ⟨hk,?_⟩
    rw[W3 (by rw[U8]; exact hk),U8,Qh] at h
    cases e:caps[i-k]? with
    | none=>rw[e] at h; cases h
    | some p =>
      rw[e] at h
      refine ⟨p,rfl,?_⟩
      have h':(σ[p.1]?).join=some v:=Option.some.inj h
      cases q:σ[p.1]? with
      | none=>rw[q] at h'; cases h'
      | some o=>rw[q] at h'; cases o with
        | none=>cases h'
        | some w=>cases h'; rfl
theorem ZgF{pins:List (Addr×Obj)}{σ:St}{H:Hp}{s:Shared}{fp:List Addr}{it:Addr}{tn:Nat->Heap->Prop}{J:It}{E:Value->Shared->Prop}{RR:Value->Addr->Result->Shared->Prop}{QL:List V->Hp->Prop}
    (I:Inv X pins σ H s) (hc:X.calm=true) (T:Turn X.prog X.w X.K tg J fp it tn) (st:tn 0 s.heap) (hf:∀b∈fp,ZiE X pins H b)
    (hkind:scope.kind = .function) (hcell:∀y∈scope.names,y.2 ≠ .cell) (hfree:∀y,(y,NameKind.free)∈scope.names->∃c,X.env.cells.lookup y=some c) (hcap:CapsOk X scope caps)
    (hg:∀s₀ H₀ C,PG (Zbw X scope (own++caps.map (·.2)) s₀ H₀ C fp) tg g) (he:∀s₀ H₀ C,PE (Zbw X scope (own++caps.map (·.2)) s₀ H₀ C fp) elt te)
    (hB:ZeD own.length caps g te σ J H QL)
    (fin:∀D C s' m ys H',s.heap.objs.size<=C->D≠C->s'.heap.Ns C m->Inv X pins σ (upd H' D (.lst ys)) s'->H' D=none->H' C=none->QL ys H'->RR (.ref D) C (.ok .next) s') :
    wpAny (model X.prog X.w) X.A (newList []) (λacc s₃=>wpAny (model X.prog X.w) X.A (newFunctionEnv scope X.env.globals (Zha X.env.cells scope.names []) [] X.env.qual none .none (some X.env)) (λcenv s₄ =>
      codeAny (model X.prog X.w) X.A (.compStart (.ListComp elt [⟨tg,iter,[],0⟩] scope pos) 0 (.ref it) acc { cenv with scope:=relabel scope X.env }) (RR acc cenv.locals) s₄) E s₃) E s:=by
  refine wpAny_newObj_type (wpAny_newFunctionEnv hcell (by intro y hy; simp at hy) (λh₁ hns₁ hsb₁=>?_) hkind)
  dsimp only at hns₁ hsb₁ ⊢
  generalize hH2:s.heap.push { cls:=.type "list", dict:=none,data:=.seq ([]:List Value).toArray }=H2 at hns₁ hsb₁ ⊢
  have hC:H2.objs.size=s.heap.objs.size+1:=by rw[<-hH2,Heap.size_push]
  generalize hCC:H2.objs.size=C at *
  have hCle:s.heap.objs.size<=C:=by rw[hC]; exact U7 _
  generalize hDD:s.heap.objs.size=D at *
  have hDC:D≠C:=by rw[hC]; exact Qa (U6 _)
  have below:∀b,b<D->b≠C/\b≠D:=λb hb=>⟨by rw[hC]; exact Qa (Nat.lt_succ_of_lt hb),Qa hb⟩
  have lts:∀ {b o},s.heap.get? b=some o->b<D:=fun {b o} e=>by rw[<-hDD]; exact Heap.lt_size e
  have old:∀b o,s.heap.get? b=some o->h₁.get? b=some o:=λb o e=>hsb₁.extBut b o (below b (lts e)).1 (Heap.get?_push_of_some _ (hH2 ▸ Heap.get?_push_of_some _ e))
  have hacc:h₁.get? D=some { cls:=.type "list", data:=.seq ([]:List Value).toArray 0 }:=hsb₁.extBut _ _ hDC (Heap.get?_push_of_some _ (hH2 ▸ (hDD ▸ Heap.get?_push_size _ rfl)))
  have hlt:∀b∈fp,b<D:=λb hb=>let ⟨o,e,_⟩:=T.obj 0 _ st b hb; lts e
  have freshS:∀b,D<=b->s.heap.get? b=none:=λb hb=>by
    cases e:s.heap.get? b with
    | none=>rfl
    | some o=>exact absurd (lts e) (Nat.not_lt.mpr hb)
  have nH:∀b,D<=b->H b=none:=λb hb=>I.hok.fresh (by rw[hDD]; exact hb)
  let Y:Cx:=Zbw X scope (own++caps.map (·.2)) s H C fp
  have okY:Y.Ok:=ZgE I hkind hcell hfree (by rw[hDD]; exact hCle) hf (by rw[hDD]; exact hlt)
  have sub:∀x c,(Zha X.env.cells scope.names []).lookup x=some c->X.env.cells.lookup x=some c:=λx c e=>Zej scope.names [] (λp hp=>(nomatch hp)) (x,c) (PySem.mem_of_lookup e)
  have celllt:∀x c,X.env.cells.lookup x=some c->c<D:=λx c e=>by
    obtain ⟨v,o,ho,_⟩:=I.cell x c e
    exact lts ho
  have stklt:∀b∈frs X.stack,b<D:=λb hb=>by
    rcases Q8.mp (I.stkSub b hb) with e | e
    · rw[e,<-hDD]; exact I.lt
    · obtain ⟨_,o,ho,_⟩:=I.funs.mem e
      exact lts ho
  have I0:Inv Y [] (st0 own.length caps σ) H { s with heap:=h₁,toks:=s.toks+([]:List (Str×Value)).length }:=by
    refine ⟨okY,rfl,I.bare,Un.kept old,⟨_,hns₁,λi x v h1 h2 h3=>?_⟩,λx c e=>?_,nH C hCle,λx c e=>I.freeC x c (sub x c e),λp hp=>?_,I.hok.kept old,?_⟩
    · obtain ⟨hk,p,hp,hv⟩:=ZjK h2
      have h1':caps[i-own.length]?.map (·.2)=some x:=by
        have:(own++caps.map (·.2))[i]?=some x:=h1
        rw[W3 hk,Qh] at this
        exact this
      rw[hp] at h1'
      cases h1'
      obtain ⟨q1,q2,q3⟩:=hcap.mem p (Q9 hp)
      obtain ⟨m,hn,hl⟩:=I.loc
      obtain ⟨u,r,l⟩:=hl p.1 p.2 v q1 hv (by rcases q3 with z | z; exact .inr (.inl z); exact .inr (.inr z))
      refine ⟨u,r,.inr ⟨Zeb q2,?_⟩⟩
      rcases l with ⟨z,_⟩ | ⟨_,c,hc',z⟩
      · rcases q3 with y | y <;> (rw[y] at z; cases z)
      · have hm:(p.2,NameKind.free)∈scope.names:=PySem.mem_of_lookup q2
        obtain ⟨d,hd⟩:=Zek scope.names [] hm ⟨c,hc'⟩
        obtain ⟨d',hd'⟩:=ZbG hd
        have e:=sub _ _ hd'
        rw[hc'] at e
        cases e
        obtain ⟨oc,ho,hdt⟩:=z
        exact ⟨c,hd',oc,old _ _ ho,hdt⟩
    · obtain ⟨v,o,ho,hd⟩:=I.cell x c (sub x c e)
      exact ⟨v,o,old _ _ ho,hd⟩
    · exact absurd (show p∈([]:List (Addr×Obj)) from hp) (by simp)
    · rw[ZjJ]
      show _=(own++caps.map (·.2)).length
      rw[Qc,Q0]
  have pinD:∀ {its:List Value} {n:Nat} {σ':St} {H':Hp} {s':Shared},Inv Y [] σ' H' s'->H' D=none->s'.heap.get? D=some { cls:=.type "list", data:=.seq its.toArray n }->Inv Y [(D,{ cls:=.type "list", data:=.seq its.toArray n })] σ' H' s':=fun {its n σ' H' s'} J hn e =>
    J.pins_of λp hp=>by
      have ep:p=(D,{ cls:=.type "list", data:=.seq its.toArray n }):=Q3.mp hp
      subst ep
      refine ⟨e,hn,hDC,λz=>?_,λv z=>by cases z⟩
      exact absurd (stklt D z) (Qv _)
  obtain ⟨W,⟨m0,w0⟩,turn⟩:=hB
  have fpY:∀ {H':Hp} {pins':List (Addr×Obj)},(∀b∈fp,H' b=none)->(∀p∈pins',∀b∈fp,p.1≠b)->∀b∈fp,ZiE Y pins' H' b:=fun {H' pins'} hn hp b hb =>
    ⟨hn b hb,(okY.exf b hb).1,okY.exfs b hb,.inl hb,(okY.exf b hb).2,λp q=>hp p (by simpa [Y,Zbw] using q) b hb⟩
  have loop:∀s₃:Shared,s₃={ s with heap:=h₁,toks:=s.toks+([]:List (Str×Value)).length } →
      codeAny (model X.prog X.w) X.A (.compLoop (.ListComp elt [⟨tg,iter,[],0⟩] scope pos) 0 (.ref it) (.ref D) (compEnvC scope (Zha X.env.cells scope.names []) C X.env)) (RR (.ref D) C) s₃:=by
    rintro s₃ rfl
    refine ZgD (λk s'=>∃(i:Nat) (ys:List V) (its:List Value) (n:Nat) (H':Hp),Inv Y [(D,{ cls:=.type "list", data:=.seq its.toArray n })] (st0 own.length caps σ) H' s'/\tn i s'.heap/\(∀b∈fp,H' b=none)/\Vals ys its/\W i k ys H') ?_ m0
      ⟨0,[],[],0,H,pinD I0 (nH D (Q1 _)) hacc,T.keep _ _ _ st λb _ o e=>old b o e,λb hb=>(hf b hb).1,.nil,w0⟩
    rintro k s3 ⟨i,ys,its,n,H3,I3,st3,fr3,rv,w3⟩
    obtain ⟨pD,nD,_⟩:=I3.pin (D,{ cls:=.type "list", data:=.seq its.toArray n }) (Qg _ Qw)
    have ff:=fpY (pins':=[(D,{ cls:=.type "list", data:=.seq its.toArray n })]) fr3 (λp hp b hb=>by
      rw[Q3.mp hp]; exact (Ne.symm (below b (hlt b hb)).2))
    obtain ⟨hsz,turn⟩:=turn i k ys H3 w3
    rcases turn with ⟨stop,q⟩ | ⟨go,hsz',NN,hNN,step⟩
    · refine thn (T.done Y rfl rfl rfl hc i _ s3 _ H3 _ I3 ff st3 stop) λr s4 ⟨hr,I4⟩=>?_
      subst hr
      obtain ⟨m4,hn4,_⟩:=I4.loc
      obtain ⟨pD4,nD4,_⟩:=I4.pin (D,{ cls:=.type "list", data:=.seq its.toArray n }) (Qg _ Qw)
      refine fin D C s4 m4 ys H3 hCle hDC hn4 ?_ nD4 I4.free q
      have hk:=I4.base
      have hok4:HOk X.prog X.w H3 s4.heap:=I4.hok
      have neD:∀b u,H3 b=some u->b≠D:=λb u e z=>by rw[z,nD4] at e; cases e
      refine I.call' (ch:=fp) I4.os ⟨λb o e n hb hx=>hk.keep b o e n hb hx,λb o e n hb hx=>hk.slot b o e n hb hx,λb o e n hx=>?_,λb o e hx=>hk.there b o e hx,λb xs e=>?_,λb o u e=>?_,λb ps e=>?_⟩ ?_ I4.bare ?_
      · rw[Zap (below b (lts e)).2]; exact hk.free b o e n hx
      · have:=hk.tups b xs e
        rw[Zap (neD b _ this)]; exact this
      · have:=hk.frzs b o u e
        rw[Zap (neD b _ this)]; exact this
      · obtain ⟨more,e'⟩:=hk.tbls b ps e
        exact ⟨more,by rw[Zap (neD b _ e')]; exact e'⟩
      · intro b u e
        by_cases hb:b=D
        · subst hb
          rw[Zae] at e
          cases e
          exact ⟨hsz,its,n,rv,pD4⟩
        · rw[Zap hb] at e
          exact (hok4 b u e).stay (λc v _ q=>q) (λc q=>by rw[Zap (neD c _ q)]; exact q) λc xs q=>by rw[Zap (neD c _ q)]; exact q
      · intro b hb
        obtain ⟨_,f1,_,f3,f4,f5⟩:=hf b hb
        exact ⟨f3,f1,f4,f5⟩
    · refine thn (T.item Y rfl rfl rfl hc i _ s3 _ H3 _ I3 ff st3 go) λr s4 ⟨u,hr,h4⟩=>?_
      subst hr
      refine thn h4 λ_ s5 ⟨x,H5,I5,r5,y5,st5,fr5⟩=>?_
      have ff5:=fpY (pins':=[(D,{ cls:=.type "list", data:=.seq its.toArray n })]) fr5 (λp hp b hb=>by
        rw[Q3.mp hp]; exact (Ne.symm (below b (hlt b hb)).2))
      have I5':=I5.pinned ff5 (T.obj _ _ st5)
      refine thn (hg s H C _ s5 _ H5 x u _ I5' r5 (step x H5 y5)) λ_ s6 ⟨σ6,H6,I6,wk,q6⟩=>?_
      refine thn (he s H C _ s6 σ6 H6 _ I6 q6) λy s7 ⟨v,H7,I7,r7,n7⟩=>?_
      obtain ⟨m',hm,w7⟩:=hNN v H7 n7
      obtain ⟨pD7,nD7,_,_,_⟩:=I7.pin (D,{ cls:=.type "list", data:=.seq its.toArray n }) (Qg _ (Uh _ Qw))
      refine append_at (n:=n) pD7 (λh' hs' hD'=>?_) (by rw[Qb,<-rv.length]; exact hsz)
      have st7:tn (i+1) s7.heap:=T.keep _ _ _ st5 λb hb o e=>(I7.pin (b,o) (Qg _ (Qg _ (Zbb hb e)))).1
      have fr7:∀b∈fp,H7 b=none:=λb hb=>by
        obtain ⟨o,e,d⟩:=T.obj _ _ st5 b hb
        exact (I7.pin (b,o) (Qg _ (Qg _ (Zbb hb e)))).2.1
      have I8:Inv Y [] σ6 H7 s7:=I7.pins_of λp hp=>(nomatch hp)
      have I9:Inv Y [] (st0 own.length caps σ) H7 s7:=I8.weak (by rw[I0.len,I8.len]) wk
      have I10:Inv Y [] (st0 own.length caps σ) H7 { s7 with heap:=h' }:=I9.turned (t':=s7.toks) (it:=D) (λb o hb e=>hs'.extBut b o hb e) nD7 hDC (.inr (Uz hDD)) (λx c e=>Qa (celllt x c (sub x c e))) (λp hp=>absurd (show p∈([]:List (Addr×Obj)) from hp) (by simp))
      refine ⟨m',hm,i+1,ys++[v],its++[y],n+1,H7,pinD I10 nD7 ?_,?_,fr7,rv.append (.cons r7 .nil),w7⟩
      · rw[hD',List.push_toArray]
      · exact T.keep _ _ _ st7 λb hb o e=>hs'.extBut b o (below b (hlt b hb)).2 e
  have tn1:tn 0 h₁:=T.keep _ _ _ st λb _ o e=>old b o e
  exact codeAny_compStart_list (loop _ rfl) (T.self _ 0 _ _ _ tn1 (loop _ rfl))
end
end L2
namespace L2
open PySem PySem.Spec PyProof.Rows
section
variable{X:Cx}{tg iter elt:Expr}{scope:Scope}{pos:Pos}{wi:TI}{g:TG}{te:TE}{own:List Str}{caps:List (Nat×Str)}
theorem ZbL(own:List Str)(caps:List (Nat×Str))(hc:X.calm=true)(hi:PI X tg iter wi)(hg:∀fp s₀ H₀ C,PG (Zbw X scope (own++caps.map (·.2)) s₀ H₀ C fp) tg g)(he:∀fp s₀ H₀ C,PE (Zbw X scope (own++caps.map (·.2)) s₀ H₀ C fp) elt te)
    (hcap:CapsOk X scope caps)
    (hfr:(scope.names.all λy=>!(y.2==NameKind.free)||(X.env.cells.lookup y.1).isSome)=true:=by rfl)
    (hkind:scope.kind = .function:=by rfl) (hcell:∀y∈scope.names,y.2 ≠ .cell:=by decide +kernel)
    (hnames:∀y∈scope.names,y.2 = .local->scope.names.lookup y.1=some .local:=by decide +kernel) (hs:∀x,foldedSetIterable iter X.env x=pure x:=by intro _; rfl) :
    PE X (.ListComp elt [⟨tg,iter,[],0⟩] scope pos) (Zoi own.length caps wi g te):=by
  intro pins s σ H Q I h
  have hfree:=ZfG hfr
  have hclos:=ZdL hfree
  rw[eval_ListComp]
  refine wpAny_comprehension_free (use:=none) rfl hs hclos hkind hnames (thn (hi pins s σ H _ I h) λv s1 h1=>thn h1 λitv s2 h2=>?_)
  obtain ⟨it,fp,tn,J,H2,e,I2,T,st2,f2,hB⟩:=h2
  subst e
  refine ZgF (RR:=λacc C=>compPost (model X.prog X.w) X.A X.xe none (EP X pins σ Q) acc C) I2 hc T st2 f2 hkind hcell hfree hcap (hg fp) (he fp) hB ?_
  intro D C s' m ys H' hC hDC hn I3 nD nC q
  refine ⟨m,hn,λh' hs'=>⟨.ref D,upd H' D (.lst ys),?_,rfl,q D nD⟩⟩
  exact I3.turned (t':=s'.toks) (it:=C) (λb o hb e=>hs'.extBut b o hb e) (by rw[Zap (Ne.symm hDC)]; exact nC) (Ne.symm (Qa (Q6 I2.lt hC))) (.inr (Q2 I2.sz hC))
    (λx c e z=>by
      obtain ⟨v,o,ho,_⟩:=I2.cell x c e
      rw[z] at ho
      exact absurd (Q6 (Heap.lt_size ho) hC) (Qv _))
    (λp hp z=>by
      have:=(I2.pin p hp).1
      rw[z] at this
      exact absurd (Q6 (Heap.lt_size this) hC) (Qv _))
theorem ZbJ{i:Nat}{x:Str}{pos' spos:Pos}(own:List Str)(caps:List (Nat×Str))(hN:X.N.Nodup)(hx1:X.N[i]?=some x)(hx:X.env.scope.names.lookup x=some .local)(hc:X.calm=true)(hi:PI X tg iter wi)
    (hg:∀fp s₀ H₀ C,PG (Zbw X scope (own++caps.map (·.2)) s₀ H₀ C fp) tg g) (he:∀fp s₀ H₀ C,PE (Zbw X scope (own++caps.map (·.2)) s₀ H₀ C fp) elt te)
    (hcap:CapsOk X scope caps)
    (hfr:(scope.names.all λy=>!(y.2==NameKind.free)||(X.env.cells.lookup y.1).isSome)=true:=by rfl)
    (hsw:swapsWith (.ListComp elt [⟨tg,iter,[],0⟩] scope pos) (some (.Name x pos')) spos.line X.env=pure true:=by rfl)
    (hkind:scope.kind = .function:=by rfl) (hcell:∀y∈scope.names,y.2 ≠ .cell:=by decide +kernel)
    (hnames:∀y∈scope.names,y.2 = .local->scope.names.lookup y.1=some .local:=by decide +kernel) (hs:∀x,foldedSetIterable iter X.env x=pure x:=by intro _; rfl) :
    PS X (.Assign [.Name x pos'] (.ListComp elt [⟨tg,iter,[],0⟩] scope pos) spos) (Zpf (Zoi own.length caps wi g te) (Zb6 i)):=by
  intro pins s σ H D0 I h
  have hfree:=ZfG hfr
  have hclos:=ZdL hfree
  rw[exec_Assign_Name_used _ _ _ _ hsw]
  refine wpAny_bind (wpAny_standAt (wpAny_bind ?_))
  show wpAny _ X.A (do let _ ← comprehension (.ListComp elt [⟨tg,iter,[],0⟩] scope pos) scope X.env _ (newList []) false (eval iter X.env) (some (assign (.Name x pos') X.env))) _ _ s
  refine wpAny_bind (wpAny_mono (wpAny_comprehension_free (use:=some (assign (.Name x pos') X.env)) (Q:=λ_ s'=>SP X pins D0 .next s') rfl hs hclos hkind hnames (thn (hi pins s σ H _ I h) λv s1 h1=>thn h1 λitv s2 h2=>?_)) (λ_ s' hq=>wpAny_pure (wpAny_pure hq)) λ_ _ e=>e)
  obtain ⟨it,fp,tn,J,H2,e,I2,T,st2,f2,hB⟩:=h2
  subst e
  refine ZgF (RR:=λacc C=>compPost (model X.prog X.w) X.A X.xe (some (assign (.Name x pos') X.env)) (λ_ s'=>SP X pins D0 .next s') acc C) I2 hc T st2 f2 hkind hcell hfree hcap (hg fp) (he fp) hB ?_
  intro D C s' m ys H' hC hDC hn I3 nD nC q
  show wpAny _ X.A (assign (.Name x pos') X.env (.ref D)) _ _ _
  have hCl:C≠X.env.locals:=Ne.symm (Qa (Q6 I2.lt hC))
  have hCc:∀x c,X.env.cells.lookup x=some c->c≠C:=λx c e z=>by
    obtain ⟨v,o,ho,_⟩:=I2.cell x c e
    rw[z] at ho
    exact absurd (Q6 (Heap.lt_size ho) hC) (Qv _)
  refine wpAny_assign_Name (Zgp I3 hN hx1 (.inl hx) (v:=.ref D) rfl (λs4 I4 ⟨a,sb,ha⟩=>?_) (.inr hx))
  have hCa:C≠a:=by
    rcases ha with e | e
    · rw[e]; exact hCl
    · exact Ne.symm (hCc x a e)
  refine ⟨m,hn.sameBut sb hCa,λh' hs'=>⟨_,_,?_,q D nD⟩⟩
  exact I4.turned (t':=s4.toks) (it:=C) (λb o hb e=>hs'.extBut b o hb e) (by rw[Zap (Ne.symm hDC)]; exact nC) hCl (.inr (Q2 I2.sz hC)) hCc
    (λp hp z=>by
      have:=(I2.pin p hp).1
      rw[z] at this
      exact absurd (Q6 (Heap.lt_size this) hC) (Qv _))
theorem Zm3{x:V}{cs:List (Option V)}:∀(i:Nat) v,((none:Option V)::cs)[i]?=some (some v)->((some x)::cs)[i]?=some (some v)
  | 0,v,h=>by simp at h
  | i+1,v,h=>by simpa using h
theorem Zbx{K:PySem.W.Frag}{a:Addr}{xs:List V}{σ:St}{H:Hp}{QL:List V->Hp->Prop}(Pv:Nat->List V->Hp->Prop)(hz:xs.length<=1000)(h0:Pv 0 [] H)(hl:∀i ys H,i<=xs.length->Pv i ys H->SqL K H a xs)
    (hs:∀i x ys H,xs[i]?=some x->ys.length=i->Pv i ys H->te (some x::caps.map λp=>(σ[p.1]?).join) H λv H'=>Pv (i+1) (ys++[v]) H') (hd:∀ys H,ys.length=xs.length->Pv xs.length ys H->QL ys H) :
    ZeD 1 caps (Zb6 0) te σ (Itl K a) H QL:=by
  have hz':xs.length<sizeLine:=Zbu hz
  refine ⟨λi m ys H=>m=xs.length-i/\i<=xs.length/\ys.length=i/\Pv i ys H,⟨_,rfl,Qd _,rfl,h0⟩,?_⟩
  rintro i m ys H' ⟨rfl,hi,hy,p⟩
  have q:=hl i ys H' hi p
  refine ⟨by omega,?_⟩
  by_cases hlt:i<xs.length
  · refine .inr ⟨⟨xs,xs[i],q,by simp[hlt]⟩,by omega,λv H4=>Pv (i+1) (ys++[v]) H4,λv H4 p'=>⟨xs.length-(i+1),by omega,rfl,hlt,by rw[Qc,hy]; rfl,p'⟩,λx H2 y=>?_⟩
    obtain ⟨e,y⟩:=y
    subst e
    exact ⟨Zm3,hs i x ys _ (y xs q) hy p⟩
  · have e:i=xs.length:=by omega
    subst e
    exact .inl ⟨⟨xs,q,Q1 _⟩,hd ys H' hy p⟩
theorem ZcO{lo:Int}{n:Nat}{σ:St}{H:Hp}{QL:List V->Hp->Prop}(Pv:Nat->List V->Hp->Prop)(hz:n<=1000)(h0:Pv 0 [] H)
    (hs:∀i ys H,i<n->ys.length=i->Pv i ys H->te (some (.int (lo+i))::caps.map λp=>(σ[p.1]?).join) H λv H'=>Pv (i+1) (ys++[v]) H') (hd:∀ys H,ys.length=n->Pv n ys H->QL ys H) :
    ZeD 1 caps (Zb6 0) te σ (Itr lo n) H QL:=by
  have hz':n<sizeLine:=Zbu hz
  refine ⟨λi m ys H=>m=n-i/\i<=n/\ys.length=i/\Pv i ys H,⟨_,rfl,Qd _,rfl,h0⟩,?_⟩
  rintro i m ys H' ⟨rfl,hi,hy,p⟩
  refine ⟨by omega,?_⟩
  by_cases hlt:i<n
  · refine .inr ⟨hlt,by omega,λv H4=>Pv (i+1) (ys++[v]) H4,λv H4 p'=>⟨n-(i+1),by omega,rfl,hlt,by rw[Qc,hy]; rfl,p'⟩,λx H2 y=>?_⟩
    obtain ⟨e,y⟩:=y
    subst e y
    exact ⟨Zm3,hs i ys _ hlt hy p⟩
  · have e:i=n:=by omega
    subst e
    exact .inl ⟨Q1 _,hd ys H' hy p⟩
end
end L2
namespace L2
open PySem PySem.Spec PyProof.Rows
structure HasM (P:Program) (w:World) (K:PySem.W.Frag) (mg:Str->Option Value) (base:Heap) (C:Addr) (m:Str) (k:Nat) (ps:List Str) (dvs:List V) (sp:Sp):Prop where
  ex:∃(f:Addr) (fd:FuncData) (ds:List Value),FnOk P w K mg base CX0 k f fd ps sp/\Meth K C m f/\Binds K fd ps ds/\Vals dvs ds
theorem HasM.mono{P:Program}{w:World}{K:PySem.W.Frag}{mg:Str->Option Value}{base:Heap}{C:Addr}{m:Str}{j k:Nat}{ps:List Str}{dvs:List V}{sp:Sp}(h:HasM P w K mg base C m j ps dvs sp)(e:j<=k):HasM P w K mg base C m k ps dvs sp :=
  let ⟨f,fd,ds,a,b,c,d⟩:=h.ex
  ⟨f,fd,ds,a.mono e,b,c,d⟩
def Zmn(P:Program)(w:World)(K:PySem.W.Frag)(mg:Str->Option Value)(base:Heap)(m:Str)(k:Nat)(ta:TE)(t:TA):TE:=λσ H Q=>ta σ H λx H1=>∃a C dx fs ps dvs sp,x = .ref a/\H1 a=some (.ins C dx fs)/\Cls K C/\HasM P w K mg base C m k ps dvs sp/\fs.lookup m=none ∧
  t σ H1 λvs H2=>sp (x::(vs++dvs)) H2 Q E0
section
variable{X:Cx}{k:Nat}{m x:Str}{p pos apos:Pos}{e o:Expr}{es:List Expr}{ta:TE}{t:TA}
theorem ZaK{pl:Sem Bool}(he:PE X o ta)(hr:Room k X.A)(ha:PA X (e::es) t)
    (hst:starEach (e::es) X.env=(false,eval e X.env)::starEach es X.env:=by rfl) (hpl:(backTo pos (starEach es X.env)).any (·.1)=false:=by rfl)
    (ht:eval (.Call (.Attribute o m apos) (e::es) [] pos) X.env=(do
      let ov ← eval o X.env
      standAt apos.atName
      let (f,first) ← holding [ov] (getMethod ov m pl)
      callWith pos f first (backTo pos (starEach (e::es) X.env)) (backToKw pos (keywordEach [] X.env))):=by rfl) :
    PE X (.Call (.Attribute o m apos) (e::es) [] pos) (Zmn X.prog X.w X.K X.mg X.base m k ta t):=by
  intro pins s σ H Q I h
  refine PySem.W.methodCall_KW (pl:=pl) (thn (he pins s σ H _ I h) λu s1 ⟨x,H1,I1,rx,a,C,dx,fs,ps,dvs,sp,ex,ea,c,hM,l,q⟩=>?_) ht
  subst ex
  obtain rfl:u=Value.ref a:=rx
  obtain ⟨f,fd,ds,F,hm,hb,hd⟩:=hM.ex
  refine Zfq I1 ea c hm l ?_
  refine PySem.W.callWith_K (first:=[.ref a]) (h₀:=X.base) I.ok.mod.kin hm.kp (thn (ha pos pins s1 σ H1 _ I1 q) λus s2 ⟨vs,H2,I2,r,q2⟩=>⟨I2.kIn,?_⟩) hst hpl
  exact Zmm (us:=.ref a::us) (vs:=.ref a::vs) F hr hb hd Zm1 I2 (.cons rfl r) q2
structure HasI (P:Program) (w:World) (K:PySem.W.Frag) (mg:Str->Option Value) (base:Heap) (C:Addr) (k:Nat) (ps:List Str) (sp:Sp):Prop where
  ex:∃(f:Addr) (fd:FuncData),Mk K C f/\FnOk P w K mg base CX0 k f fd ps sp/\Binds K fd ps []
theorem Zlo{C:Addr}{ps:List Str}{sp:Sp}(h:HasI X.prog X.w X.K X.mg X.base C k ps sp)(hr:Room (k+1) X.A)(hg:Gl X x)(hm:X.mg x=some (.ref C))(ha:PA X (e::es) t)(hdb:(x==("__debug__" : Str))=false:=by decide)
    (he:starEach (e::es) X.env=(false,eval e X.env)::starEach es X.env:=by rfl) (hpl:(backTo pos (starEach es X.env)).any (·.1)=false:=by rfl):PE X (.Call (.Name x p) (e::es) [] pos) (Zob C sp [] E0 t):=by
  obtain ⟨f,fd,M,F,b⟩:=h.ex
  exact ZmU M F hr hg hm b .nil Zm1 ha hdb he hpl
structure HereM (K:PySem.W.Frag) (C:Addr) (m qual:Str) (st:Stmt):Prop where
  ex:∃(f:Addr) (fd:FuncData),Fun K m qual st f fd/\Meth K C m f
theorem HereM.hasM{P:Program}{w:World}{K:PySem.W.Frag}{mg:Str->Option Value}{base:Heap}{C:Addr}{m qual:Str}{st:Stmt}{k:Nat}{ps:List Str}{sp:Sp}(h:HereM K C m qual st)
    (b:∀f fd,Fun K m qual st f fd->Binds K fd ps []) (ok:∀f fd,Fun K m qual st f fd->FnOk P w K mg base CX0 k f fd ps sp):HasM P w K mg base C m k ps [] sp :=
  let ⟨f,fd,F,M⟩:=h.ex
  ⟨f,fd,[],ok f fd F,M,b f fd F,.nil⟩
theorem hereM_mk{K:PySem.W.Frag}{C:Addr}{m qual:Str}{st:Stmt}{f:Addr}{oc:Value}{od an:Option Addr}{osl:Array (Option Value)}{kV doc pm cdv ct:Value}(a:PySem.W.findIn K (.ref C) m=some (some (.ref f)))(i:PySem.W.isFn K (.ref f)=true)
    (l:K.lookup f=some ⟨oc,od,.func (PySem.W.fnOf m qual (ZbY st) (Zbj st) (Zah st) .none kV doc pm an cdv ct),osl⟩)
    (c:PySem.W.codeIn K cdv qual=true) (k:PySem.W.keepIn K (.ref f)=true):HereM K C m qual st:=⟨f,_,ZjG l c k,a,i,k⟩
structure HereI (K:PySem.W.Frag) (C:Addr) (qual:Str) (st:Stmt):Prop where
  ex:∃(f:Addr) (fd:FuncData),Fun K "__init__" qual st f fd/\Mk K C f
theorem HereI.hasI{P:Program}{w:World}{K:PySem.W.Frag}{mg:Str->Option Value}{base:Heap}{C:Addr}{qual:Str}{st:Stmt}{k:Nat}{ps:List Str}{sp:Sp}(h:HereI K C qual st)
    (b:∀f fd,Fun K "__init__" qual st f fd->Binds K fd ps []) (ok:∀f fd,Fun K "__init__" qual st f fd->FnOk P w K mg base CX0 k f fd ps sp):HasI P w K mg base C k ps sp :=
  let ⟨f,fd,F,M⟩:=h.ex
  ⟨f,fd,M,ok f fd F,b f fd F⟩
theorem hereI_mk{K:PySem.W.Frag}{C:Addr}{qual:Str}{st:Stmt}{f:Addr}{oc:Value}{od an:Option Addr}{osl:Array (Option Value)}{kV doc pm cdv ct:Value}(mk:PySem.W.makesIn K C=true)(a:PySem.W.findIn K (.ref C) "__init__" = some (some (.ref f))) (i:PySem.W.isFn K (.ref f)=true)
    (kc:PySem.W.keepIn K (.ref C)=true) (l:K.lookup f=some ⟨oc,od,.func (PySem.W.fnOf "__init__" qual (ZbY st) (Zbj st) (Zah st) .none kV doc pm an cdv ct),osl⟩)
    (c:PySem.W.codeIn K cdv qual=true) (k:PySem.W.keepIn K (.ref f)=true):HereI K C qual st:=⟨f,_,ZjG l c k,mk,a,i,kc⟩
structure Mk0 (K:PySem.W.Frag) (C:Addr):Prop where
  makes:PySem.W.makesIn K C=true
  init:PySem.W.findIn K (.ref C) "__init__" = some (some (.builtin "object.__init__"))
  kp:PySem.W.keepIn K (.ref C)=true
def Zm4(C:Addr):TE:=λ_ H Q=>∀x dx,H x=none->H dx=none->dx≠x->Q (.ref x) (upd (upd H dx (.own x)) x (.ins C dx []))
theorem ZiO{C:Addr}{pins:List (Addr×Obj)}{σ:St}{H:Hp}{s:Shared}{Q:VK}(M:Mk0 X.K C)(I:Inv X pins σ H s)
    (h:∀x dx,H x=none->H dx=none->dx≠x->Q (.ref x) (upd (upd H dx (.own x)) x (.ins C dx []))):wpAny (model X.prog X.w) X.A (call (.ref C) []) (EP X pins σ Q) X.xe s:=by
  have hq:=h (s.heap.objs.size+1) s.heap.objs.size (I.hok.fresh (U7 _)) (I.hok.fresh (Q1 _)) (Qa (U6 _))
  have I2:=Inv.made (C:=C) I
  refine wpAny_call (Zjy I.kIn M.makes M.init (λself=>PySem.W.Looks.of_pure (PySem.W.oi_bind self)) ?_)
  have Y:=PySem.W.makes_of (M:=model X.prog X.w) I.kIn M.makes
  obtain ⟨hh,g,d,t,os⟩:=s
  have t1:PySem.W.Looks (model X.prog X.w) ((hh.push PySem.W.emptyDict).push (PySem.W.instObj C hh.objs.size)) (typeOf (.ref (hh.objs.size+1))) (.ref C) :=
    (PySem.W.Looks.ld (o:=PySem.W.instObj C hh.objs.size) (by have:=Heap.get?_push_size (hh.push PySem.W.emptyDict) (o:=PySem.W.instObj C hh.objs.size) rfl; rwa [Heap.size_push] at this)).andThen .now
  have t2:PySem.W.Looks (model X.prog X.w) ((hh.push PySem.W.emptyDict).push (PySem.W.instObj C hh.objs.size)) (isInstance (.ref (hh.objs.size+1)) (.type "object")) true:=t1.andThen (Y.top.keeps λb o e=>Heap.get?_push_of_some _ (Heap.get?_push_of_some _ e))
  refine codeAny_call_builtin PySem.W.oi_plain PySem.W.entry_oi (@PySem.W.check_slot (model X.prog X.w) _ _ _ "object.__init__" "object" "__init__" (.ref (hh.objs.size+1)) [] [] _ PySem.W.oi_kind PySem.W.oi_split t2 (PySem.W.oi_args (.ref (hh.objs.size+1))) ?_)
  rw[PySem.W.oi_run]
  refine wpAny_pure (And.intro rfl ?_)
  exact ⟨V.ref (hh.objs.size+1),_,I2,rfl,hq⟩
theorem ZjL{C:Addr}(M:Mk0 X.K C)(hg:Gl X x)(hm:X.mg x=some (.ref C))(hdb:(x==("__debug__" : Str))=false:=by decide):PE X (.Call (.Name x p) [] [] pos) (Zm4 C):=by
  intro pins s σ H Q I h
  refine wpAny_Call_Name_kw (ZdI I hg hm ?_ hdb)
  exact PySem.W.callWith_K0 I.kIn M.kp (ZiO M I h)
end
end L2
namespace M1
theorem fmod_gcd(a b:Int):Int.gcd b (a.fmod b)=Int.gcd a b:=by
  have h:a.fmod b=a-b*a.fdiv b:=Int.fmod_def a b
  rw[h,Ui a b]
  have:a-b*a.fdiv b=a+b*(-(a.fdiv b)):=by rw[Wq]; omega
  rw[this]
  simp
theorem Zoj(i:Int):(if i<0 then -i else i)=(i.natAbs:Int):=by split <;> omega
theorem gcd_zero'(a:Int):(Int.gcd a 0:Int)=(if a<0 then -a else a):=by
  rw[Zoj,Int.gcd_zero_right]
theorem ZeE(a:Int){b:Int}(h:b<0):a.fmod b<=0/\b<a.fmod b:=by
  have e:=Int.neg_fmod_neg a b
  have h1:=Int.fmod_nonneg_of_pos (-a) (b:=-b) (by omega)
  have h2:=Int.fmod_lt_of_pos (-a) (b:=-b) (by omega)
  omega
theorem fmod_lt(a:Int){b:Int}(h:b≠0):(a.fmod b).natAbs<b.natAbs:=by
  rcases Int.lt_or_gt_of_ne h with h | h
  · have h1:=ZeE a h
    omega
  · have h1:=Int.fmod_nonneg_of_pos a h
    have h2:=Int.fmod_lt_of_pos a h
    omega
theorem ZgG(a:Int){b:Int}(h:b≠0):(0<=b/\0<=a.fmod b)\/(b<=0/\a.fmod b<=0):=by
  rcases Int.lt_or_gt_of_ne h with h | h
  · exact .inr ⟨by omega,(ZeE a h).1⟩
  · exact .inl ⟨by omega,Int.fmod_nonneg_of_pos a h⟩
structure Sh (x y a u1 v1 b u2 v2:Int):Prop where
  ea:a=u1*x+v1*y
  eb:b=u2*x+v2*y
  g:Int.gcd a b=Int.gcd x y
  st:(a=x/\u1=1/\v1=0/\b=y/\u2=0/\v2=1) ∨
    (a≠0/\((0<=a/\0<=b)\/(a<=0/\b<=0))/\a.natAbs<=y.natAbs/\b.natAbs<=y.natAbs/\u1.natAbs<=y.natAbs/\v1.natAbs<=x.natAbs+2*y.natAbs ∧
      u2.natAbs*a.natAbs+u1.natAbs*b.natAbs<=y.natAbs/\v2.natAbs*a.natAbs+v1.natAbs*b.natAbs<=x.natAbs+2*y.natAbs)
theorem Sh.start(x y:Int):Sh x y x 1 0 y 0 1:=⟨by omega,by omega,rfl,.inl ⟨rfl,rfl,rfl,rfl,rfl,rfl⟩⟩
theorem ZcP{a b c:Nat}(h:a*b<=c)(hb:b≠0):a<=c:=Q2 (Nat.le_mul_of_pos_right a (Ua hb)) h
theorem Zpp{X Y:Nat}:X<=X+2*Y+1:=by omega
theorem ZjM{X Y:Nat}:Y<=X+2*Y+1:=by omega
theorem Zok{X Y:Nat}:1<=X+2*Y+1:=by omega
theorem Zpq{X Y:Nat}(h:1<=Y):1<=X+2*Y:=by omega
theorem Sh.bound{x y a u1 v1 b u2 v2:Int}(h:Sh x y a u1 v1 b u2 v2) :
    a.natAbs<=x.natAbs+2*y.natAbs+1/\u1.natAbs<=x.natAbs+2*y.natAbs+1/\v1.natAbs<=x.natAbs+2*y.natAbs+1 ∧
    b.natAbs<=x.natAbs+2*y.natAbs+1/\u2.natAbs<=x.natAbs+2*y.natAbs+1/\v2.natAbs<=x.natAbs+2*y.natAbs+1:=by
  rcases h.st with ⟨rfl,rfl,rfl,rfl,rfl,rfl⟩ | ⟨ha,_,h1,h2,h3,h4,h5,h6⟩
  · exact ⟨Zpp,Zok,Qd _,ZjM,Qd _,Zok⟩
  · have ha':a.natAbs≠0:=Int.natAbs_ne_zero.mpr ha
    have k1:u2.natAbs<=y.natAbs:=ZcP (b:=a.natAbs) (Q2 (Nat.le_add_right _ _) h5) ha'
    have k2:v2.natAbs<=x.natAbs+2*y.natAbs:=ZcP (b:=a.natAbs) (Q2 (Nat.le_add_right _ _) h6) ha'
    exact ⟨Q2 h1 ZjM,Q2 h3 ZjM,Nat.le_succ_of_le h4,Q2 h2 ZjM,Q2 k1 ZjM,Nat.le_succ_of_le k2⟩
theorem rest_eq(a b:Int):a-a.fdiv b*b=a.fmod b:=by rw[Int.fmod_def,Qn]
theorem fdiv_small(a:Int){b:Int}(hb:b≠0):(a.fdiv b).natAbs<=a.natAbs+1:=by
  have e:=Int.mul_fdiv_add_fmod a b
  have l:=fmod_lt a hb
  have k:(b*a.fdiv b).natAbs=b.natAbs*(a.fdiv b).natAbs:=Qs ..
  have z:b*a.fdiv b=a-a.fmod b:=by omega
  have n1:b.natAbs*(a.fdiv b).natAbs<=a.natAbs+(b.natAbs-1):=by
    rw[<-k,z]
    have:=Int.natAbs_sub_le a (a.fmod b)
    omega
  generalize (a.fdiv b).natAbs=q at *
  generalize b.natAbs=c at *
  have hc:1<=c:=by omega
  rcases Uj (a.natAbs+1) q with h | h
  · have:c*(a.natAbs+2)<=c*q:=Wr c h
    have e2:c*(a.natAbs+2)=c*a.natAbs+c*2:=Nat.mul_add ..
    have e3:a.natAbs<=c*a.natAbs:=Nat.le_mul_of_pos_left _ hc
    omega
  · exact h
theorem Zm5{a b:Int}(h:(0<=a/\0<=b)\/(a<=0/\b<=0)):0<=a.fdiv b:=by
  rcases h with ⟨h1,h2⟩ | ⟨h1,h2⟩
  · exact Int.fdiv_nonneg h1 h2
  · rw[<-Int.neg_fdiv_neg]; exact Int.fdiv_nonneg (by omega) (by omega)
theorem ZjN{a b:Int}(hb:b≠0)(h:(0<=a/\0<=b)\/(a<=0/\b<=0)):(a.fdiv b).natAbs*b.natAbs+(a.fmod b).natAbs=a.natAbs:=by
  have e:=Int.mul_fdiv_add_fmod a b
  have q:=Zm5 h
  have s:=ZgG a hb
  rw[<-Qs,Qn]
  have pq:(0<=b/\0<=b*a.fdiv b)\/(b<=0/\b*a.fdiv b<=0):=by
    rcases h with ⟨h1,h2⟩ | ⟨h1,h2⟩
    · exact .inl ⟨h2,Uk h2 q⟩
    · refine .inr ⟨h2,?_⟩
      have:=Uk (show 0 <= -b by omega) q
      rw[Int.neg_mul] at this
      omega
  rcases pq with ⟨b1,p1⟩ | ⟨b1,p1⟩
  · rcases s with ⟨_,s1⟩ | ⟨b2,_⟩
    · rw[<-Int.natAbs_add_of_nonneg p1 s1,e]
    · exact absurd (Int.le_antisymm b2 b1) hb
  · rcases s with ⟨b2,_⟩ | ⟨_,s1⟩
    · exact absurd (Int.le_antisymm b1 b2) hb
    · rw[<-Int.natAbs_add_of_nonpos p1 s1,e]
theorem Zfu(u q v:Int):(u-q*v).natAbs<=u.natAbs+q.natAbs*v.natAbs:=by
  have:=Int.natAbs_sub_le u (q*v)
  rw[Qs] at this
  exact this
theorem Zii{u1 u2 q a b r u C:Nat}(hu:u<=u1+q*u2)(ha:q*b+r=a)(h:u2*a+u1*b<=C):u*b+u2*r<=C:=by
  have h1:u*b<=(u1+q*u2)*b:=Ws b hu
  have h2:(u1+q*u2)*b=u1*b+u2*(q*b):=by
    rw[Nat.add_mul,U0 q u2,W8]
  have h3:u2*a=u2*(q*b)+u2*r:=by rw[<-ha,Nat.mul_add]
  omega
theorem Zlp{x y a b q u1 v1 u2 v2:Int}(ea:a=u1*x+v1*y)(eb:b=u2*x+v2*y):a-q*b=(u1-q*u2)*x+(v1-q*v2)*y:=by
  rw[ea,eb,Int.sub_mul,Int.sub_mul,Int.mul_add,Qi,Qi]
  omega
theorem Zol{M A R B:Nat}(h:M<=A+R)(l:R<B):M+R<=A+2*B:=by omega
theorem Sh.turn{x y a u1 v1 b u2 v2:Int}(h:Sh x y a u1 v1 b u2 v2)(hb:b≠0) :
    Sh x y b u2 v2 (a-a.fdiv b*b) (u1-a.fdiv b*u2) (v1-a.fdiv b*v2):=by
  have er:=rest_eq a b
  refine ⟨h.eb,Zlp h.ea h.eb,?_,.inr ?_⟩
  · rw[er,fmod_gcd]; exact h.g
  · have lt:=fmod_lt a hb
    have sg:=ZgG a hb
    rw[er]
    refine ⟨hb,sg,?_⟩
    rcases h.st with ⟨rfl,rfl,rfl,rfl,rfl,rfl⟩ | ⟨ha,hs,h1,h2,h3,h4,h5,h6⟩
    · have e0:(1:Int)-a.fdiv b*0=1:=by omega
      have e1:(0:Int)-a.fdiv b*1 = -(a.fdiv b):=by omega
      rw[e0,e1,Int.natAbs_neg]
      refine ⟨Q1 _,Qt lt,Qd _,Zpq (Ua (Int.natAbs_ne_zero.mpr hb)),?_,?_⟩
      · show 1*b.natAbs+0*(a.fmod b).natAbs<=b.natAbs
        rw[Ul,Nat.zero_mul]
        exact Q1 _
      · show (a.fdiv b).natAbs*b.natAbs+1*(a.fmod b).natAbs<=a.natAbs+2*b.natAbs
        have e:=Int.mul_fdiv_add_fmod a b
        have k:(b*a.fdiv b).natAbs=b.natAbs*(a.fdiv b).natAbs:=Qs ..
        have z:b*a.fdiv b=a-a.fmod b:=by omega
        rw[U0,<-k,z,Ul]
        exact Zol (Int.natAbs_sub_le a (a.fmod b)) lt
    · have sp:=ZjN hb hs
      have ha':a.natAbs≠0:=Int.natAbs_ne_zero.mpr ha
      have k1:u2.natAbs<=y.natAbs:=ZcP (b:=a.natAbs) (Q2 (Nat.le_add_right _ _) h5) ha'
      have k2:v2.natAbs<=x.natAbs+2*y.natAbs:=ZcP (b:=a.natAbs) (Q2 (Nat.le_add_right _ _) h6) ha'
      exact ⟨h2,Q2 (Qt lt) h2,k1,k2,Zii (Zfu ..) sp h5,Zii (Zfu ..) sp h6⟩
theorem Sh.done{x y a u1 v1 u2 v2:Int}(h:Sh x y a u1 v1 0 u2 v2):(a.natAbs:Int)=Int.gcd x y/\a=x*u1+y*v1:=by
  have g:=h.g
  rw[Int.gcd_zero_right] at g
  refine ⟨by rw[g],?_⟩
  rw[Qn x,Qn y]; exact h.ea
end M1
namespace M2
def Prm(n:Int):Prop:=2<=n/\∀d:Int,2<=d->d*d<=n->¬d ∣ n
theorem Zhj{a b:Int}(ha:0<=a)(h:a<=b):a*a<=b*b:=Int.mul_le_mul h h ha (by omega)
theorem Zm6:Prm 2:=⟨by omega,λd h1 h2=>by have:=Zhj (a:=2) (by omega) h1; omega⟩
theorem Zlq{n:Int}(h:2<=n)(h2:n≠2)(e:n%2=0):¬Prm n:=λp=>p.2 2 (by omega) (by omega) (Int.dvd_of_emod_eq_zero e)
theorem prm_even{n:Int}(h:2<=n)(e:n%2=0):Prm n↔n=2:=by
  constructor
  · intro p
    refine Decidable.byContradiction λz=>Zlq h z e p
  · rintro rfl
    exact Zm6
def No(n t:Int):Prop:=∀d:Int,2<=d->d<t->¬d ∣ n
theorem No.odd{n:Int}(e:¬n%2=0):No n 3:=λd h1 h2 hd=>by
  have:d=2:=by omega
  subst this
  exact e (U1 hd)
theorem No.two{n:Int}:No n 2:=λd h1 h2=>by omega
theorem No.one{n t:Int}(h:No n t)(hn:¬t ∣ n):No n (t+1):=λd h1 h2=>by
  rcases (by omega:d<t\/d=t) with z | z
  · exact h d h1 z
  · rw[z]; exact hn
theorem No.next{n t:Int}(h:No n t)(e:¬n%2=0)(ho:t%2=1)(hn:¬t ∣ n):No n (t+2):=λd h1 h2 hd=>by
  rcases (by omega:d<t\/d=t\/d=t+1) with z | z | z
  · exact h d h1 z hd
  · rw[z] at hd; exact hn hd
  · have h2d:(2:Int) ∣ d:=Int.dvd_of_emod_eq_zero (by omega)
    exact e (U1 (Int.dvd_trans h2d hd))
theorem No.done{n t:Int}(h:No n t)(h2:2<=n)(ht:0<=t)(hl:¬t*t<=n):Prm n:=⟨h2,λd h1 hd=>h d h1 (by
  refine Int.lt_of_not_ge λz=>hl ?_
  exact Int.le_trans (Zhj ht z) hd)⟩
theorem found{n t:Int}(ht:2<=t)(hl:t*t<=n)(hd:t ∣ n):¬Prm n:=λp=>p.2 t ht hl hd
theorem le_of_sq{n t:Int}(ht:2<=t)(hl:t*t<=n):t+t<=n:=by
  have:t*2<=t*t:=Ub ht (by omega)
  omega
theorem fmod_dvd{n t:Int}(ht:0<t):n.fmod t=0↔t ∣ n:=by
  rw[Qx n (by omega)]
  exact ⟨Int.dvd_of_emod_eq_zero,U1⟩
theorem ZjO:∀d:Nat,d<1000->2<=d->999983%d≠0:=by decide +kernel
theorem prm_big:Prm 999983:=by
  refine ⟨by omega,λd h1 h2 hd=>?_⟩
  have hl:d<1000:=by
    refine Int.lt_of_not_ge λz=>?_
    have:=Zhj (a:=1000) (by omega) z
    omega
  have e:=U1 hd
  refine ZjO d.toNat (by omega) (by omega) ?_
  have ed:d=(d.toNat:Int):=by omega
  rw[ed] at e
  have e2:((999983%d.toNat:Nat):Int)=0:=by rw[Wf]; exact e
  exact Int.natCast_eq_zero.mp e2
theorem Zm7{p d:Int}(h:Prm p)(h1:1<d)(hd:d ∣ p):d=p:=by
  obtain ⟨k,hk⟩:=hd
  have hp:=h.1
  refine Decidable.byContradiction λz=>?_
  have kpos:0<k:=by
    refine Int.lt_of_not_ge λq=>?_
    have:=Uk (show 0<=d by omega) (show 0 <= -k by omega)
    rw[Wq] at this
    omega
  have k1:k≠1:=λq=>z (by rw[hk,q,Wo])
  rcases (by omega:d<=k\/k<=d) with q | q
  · exact h.2 d (by omega) (by rw[hk]; exact Ub q (by omega)) ⟨k,hk⟩
  · exact h.2 k (by omega) (by rw[hk]; exact Int.mul_le_mul_of_nonneg_right q (by omega)) ⟨d,by rw[hk,Qn]⟩
theorem prm_gcd{p b:Int}(h:Prm p)(hb:¬p ∣ b):Int.gcd b p=1:=by
  have h1:=Qy b p
  have h2:=Wi b p
  have hp:=h.1
  have hne:Int.gcd b p≠0:=λz=>by
    rw[z] at h1
    have:=Int.zero_dvd.mp h1
    omega
  refine Decidable.byContradiction λz=>hb ?_
  have e:=Zm7 h (show (1:Int)<(Int.gcd b p:Int) by omega) h1
  rw[e] at h2
  exact h2
end M2
namespace M3
theorem ZbV{a b c:Int}(h1:Int.gcd a c=1)(h2:Int.gcd b c=1):Int.gcd (a*b) c=1:=by
  rw[Int.gcd_eq_natAbs_gcd_natAbs] at *
  rw[Qs]
  exact Nat.Coprime.mul_left h1 h2
theorem ZcQ{a b:Int}(h:Int.gcd a b=1):Int.gcd b a=1:=by rw[Ui]; exact h
theorem ZbH{a b c:Int}(h1:Int.gcd c a=1)(h2:Int.gcd c b=1):Int.gcd c (a*b)=1:=ZcQ (ZbV (ZcQ h1) (ZcQ h2))
theorem Zlr{a b c:Int}(h:Int.gcd (a*b) c=1):Int.gcd a c=1:=by
  rw[Int.gcd_eq_natAbs_gcd_natAbs] at *
  rw[Qs] at h
  exact Nat.Coprime.coprime_dvd_left ⟨b.natAbs,rfl⟩ h
theorem Zcv{a b c:Int}(h:Int.gcd (a*b) c=1):Int.gcd b c=1:=Zlr (b:=a) (by rw[Qn]; exact h)
theorem ZcR{a b c:Int}(h:Int.gcd c (a*b)=1):Int.gcd c b=1:=ZcQ (Zcv (ZcQ h))
theorem ZgH{a b:Int}(hb:Int.gcd a b≠0):∃x y:Int,a=(Int.gcd a b:Int)*x/\b=(Int.gcd a b:Int)*y/\Int.gcd x y=1:=by
  obtain ⟨x,hx⟩:=Wi a b
  obtain ⟨y,hy⟩:=Qy a b
  refine ⟨x,y,hx,hy,?_⟩
  have e:Int.gcd ((Int.gcd a b:Int)*x) ((Int.gcd a b:Int)*y)=Int.gcd a b*Int.gcd x y:=by
    rw[Int.gcd_mul_left]
    simp
  rw[<-hx,<-hy] at e
  have e2:Int.gcd a b*Int.gcd x y=Int.gcd a b*1:=by omega
  exact Nat.eq_of_mul_eq_mul_left (Ua hb) e2
theorem gcd_ne{a b:Int}(h:b≠0):Int.gcd a b≠0:=λz=>h (Int.gcd_eq_zero_iff.mp z).2
theorem Zbd{g x:Int}(hg:g≠0):(g*x).fdiv g=x:=Int.mul_fdiv_cancel_left x hg
theorem ZeF{g x:Int}(hg:0<g)(h:0<g*x):0<x:=by
  refine Int.lt_of_not_ge λz=>?_
  have:=Uk (Int.le_of_lt hg) (show 0 <= -x by omega)
  rw[Wq] at this
  omega
theorem low{t b:Int}(hb:0<b):Int.gcd (t.fdiv (Int.gcd t b)) (b.fdiv (Int.gcd t b))=1/\0<b.fdiv (Int.gcd t b)/\t.fdiv (Int.gcd t b)*b=t*b.fdiv (Int.gcd t b) ∧
    (t.fdiv (Int.gcd t b)).natAbs<=t.natAbs/\(b.fdiv (Int.gcd t b)).natAbs<=b.natAbs:=by
  have hg:=gcd_ne (a:=t) (b:=b) (by omega)
  obtain ⟨x,y,hx,hy,c⟩:=ZgH hg
  generalize Int.gcd t b=g at *
  have hg':(g:Int)≠0:=by omega
  subst hx hy
  rw[Zbd hg',Zbd hg']
  have yp:=ZeF (show (0:Int)<g by omega) hb
  refine ⟨c,yp,by ac_rfl,?_,?_⟩
  · rw[Qs]; exact Nat.le_mul_of_pos_left _ (by omega)
  · rw[Qs]; exact Nat.le_mul_of_pos_left _ (by omega)
theorem ZiP(g x:Int)(hg:g≠0):x.natAbs<=(g*x).natAbs:=by
  rw[Qs]; exact Nat.le_mul_of_pos_left _ (by omega)
theorem plus_ok{a1 b1 a2 b2:Int}(h1:0<b1)(h2:0<b2)(c1:Int.gcd a1 b1=1)(c2:Int.gcd a2 b2=1){top:Int}
    (ht:top=a1*b2.fdiv (Int.gcd b1 b2)+a2*b1.fdiv (Int.gcd b1 b2)) :
    Int.gcd top (Int.gcd b1 b2)≠0/\0<b1.fdiv (Int.gcd b1 b2)*b2.fdiv (Int.gcd top (Int.gcd b1 b2)) ∧
    Int.gcd (top.fdiv (Int.gcd top (Int.gcd b1 b2))) (b1.fdiv (Int.gcd b1 b2)*b2.fdiv (Int.gcd top (Int.gcd b1 b2)))=1 ∧
    top.fdiv (Int.gcd top (Int.gcd b1 b2))*(b1*b2)=(a1*b2+a2*b1)*(b1.fdiv (Int.gcd b1 b2)*b2.fdiv (Int.gcd top (Int.gcd b1 b2))):=by
  have hg:=gcd_ne (a:=b1) (b:=b2) (by omega)
  obtain ⟨p,q,hp,hq,cpq⟩:=ZgH hg
  generalize hG:Int.gcd b1 b2=g at *
  have hg':(g:Int)≠0:=by omega
  have e1:b1.fdiv g=p:=by rw[hp]; exact Zbd hg'
  have e2:b2.fdiv g=q:=by rw[hq]; exact Zbd hg'
  rw[e1,e2] at ht
  rw[e1]
  have hl:=gcd_ne (a:=top) (b:=(g:Int)) hg'
  obtain ⟨t,r,ht2,hr,ctr⟩:=ZgH hl
  generalize hL:Int.gcd top g=l at *
  have hl':(l:Int)≠0:=by omega
  have e3:top.fdiv l=t:=by rw[ht2]; exact Zbd hl'
  have e4:b2=l*(r*q):=by rw[hq,hr]; ac_rfl
  have e5:b2.fdiv l=r*q:=by rw[e4]; exact Zbd hl'
  rw[e3,e5]
  have pp:0<p:=ZeF (show (0:Int)<g by omega) (by rw[<-hp]; exact h1)
  have rq:0<r*q:=ZeF (show (0:Int)<l by omega) (by rw[<-e4]; exact h2)
  have tp:Int.gcd top p=1:=by
    rw[ht,Int.gcd_add_mul_right_left]
    exact ZbV (ZcR (a:=g) (by rw[<-hp]; exact c1)) (ZcQ cpq)
  have tq:Int.gcd top q=1:=by
    rw[ht,Int.add_comm,Int.gcd_add_mul_right_left]
    exact ZbV (ZcR (a:=g) (by rw[<-hq]; exact c2)) cpq
  rw[ht2] at tp tq
  refine ⟨hl,Qm pp rq,ZbH (Zcv tp) (ZbH ctr (Zcv tq)),?_⟩
  have k1:a1*b2+a2*b1=g*(l*t):=by
    rw[<-ht2,ht,Int.mul_add,hp,hq]
    congr 1 <;> ac_rfl
  rw[k1,hp,hq]
  have k2:(g:Int)*(l*t)*(p*(r*q))=g*t*p*q*(l*r):=by ac_rfl
  rw[k2,<-hr]
  ac_rfl
theorem times_ok{a1 b1 a2 b2:Int}(h1:0<b1)(h2:0<b2)(c1:Int.gcd a1 b1=1)(c2:Int.gcd a2 b2=1) :
    0<b1.fdiv (Int.gcd a2 b1)*b2.fdiv (Int.gcd a1 b2) ∧
    Int.gcd (a1.fdiv (Int.gcd a1 b2)*a2.fdiv (Int.gcd a2 b1)) (b1.fdiv (Int.gcd a2 b1)*b2.fdiv (Int.gcd a1 b2))=1 ∧
    a1.fdiv (Int.gcd a1 b2)*a2.fdiv (Int.gcd a2 b1)*(b1*b2)=a1*a2*(b1.fdiv (Int.gcd a2 b1)*b2.fdiv (Int.gcd a1 b2)):=by
  have hf:=gcd_ne (a:=a1) (b:=b2) (by omega)
  have hr:=gcd_ne (a:=a2) (b:=b1) (by omega)
  obtain ⟨x,y,hx,hy,cxy⟩:=ZgH hf
  obtain ⟨z,w,hz,hw,czw⟩:=ZgH hr
  generalize Int.gcd a1 b2=f at *
  generalize Int.gcd a2 b1=r at *
  have hf':(f:Int)≠0:=by omega
  have hr':(r:Int)≠0:=by omega
  have e1:a1.fdiv f=x:=by rw[hx]; exact Zbd hf'
  have e2:b2.fdiv f=y:=by rw[hy]; exact Zbd hf'
  have e3:a2.fdiv r=z:=by rw[hz]; exact Zbd hr'
  have e4:b1.fdiv r=w:=by rw[hw]; exact Zbd hr'
  rw[e1,e2,e3,e4]
  have yp:=ZeF (show (0:Int)<f by omega) (by rw[<-hy]; exact h2)
  have wp:=ZeF (show (0:Int)<r by omega) (by rw[<-hw]; exact h1)
  rw[hx,hw] at c1
  rw[hz,hy] at c2
  refine ⟨Qm wp yp,ZbV (ZbH (ZcR (Zcv c1)) cxy) (ZbH czw (ZcR (Zcv c2))),?_⟩
  rw[hx,hy,hz,hw]
  ac_rfl
theorem fdiv_le{a:Int}{g:Int}(h:g ∣ a)(hg:g≠0):(a.fdiv g).natAbs<=a.natAbs:=by
  obtain ⟨x,rfl⟩:=h
  rw[Zbd hg]
  exact ZiP g x hg
end M3
namespace L2
open PySem PySem.Spec PyProof.Rows
structure XCls (K:PySem.W.Frag) (C:Addr):Prop where
  ga:PySem.W.findIn K (.ref C) "__getattribute__" = some (some (.builtin "BaseException.__getattribute__"))
  ha:PySem.W.findIn K (.ref C) "__getattr__" = some none
  cl:PySem.W.findIn K (.ref C) "__class__" = some (some (.builtin "object.__class__"))
  hn:PySem.W.specialIn K (.builtin "object.__class__") "__get__" = some (some (.builtin "getset_descriptor.__get__"))
  tk:PySem.W.takesIn K (.builtin "object.__class__")=some true
  ob:PySem.W.mroIn K C (.type "object")=some true
  be:PySem.W.mroIn K C (.type "BaseException")=some true
  hd:PySem.W.hasDictIn K C=true
section
variable{prog:Program}{w:World}{A:Around}{E:Value->Shared->Prop}{s:Shared}{K:PySem.W.Frag}{x C:Addr}{ox:Obj}{od:Option Obj}
theorem Zhk{K:PySem.W.Frag}{C:Addr}{od:Option Obj}{name:Str}{a g:Value}(hc:(PySem.W.clsIn K C).isSome=true)(ha:PySem.W.findIn K (.ref C) name=some (some a))(hg:PySem.W.specialIn K a "__get__" = some (some g)) (ht:PySem.W.takesIn K a=some true) :
    PySem.W.findObj K C od name=some (.bind g a):=by
  obtain ⟨cd,hc⟩:=Option.isSome_iff_exists.mp hc
  unfold PySem.W.findObj
  rw[hc,Option.bind_some,ha,Option.bind_some]
  simp[hg,ht]
theorem ZjP(c:XCls K C){tk:Tok}{R:Result->Shared->Prop}(X:K.In s.heap)(I:PySem.W.InstAt s.heap x ox C od)(h:R (.ok (.ret (.ref C))) s) :
    codeAny (model prog w) A (.call (.builtin "BaseException.__getattribute__") ⟨[.ref x,.str "__class__" tk],[]⟩) R s:=by
  have hf:PySem.W.findObj K C od "__class__" = some (.bind (.builtin "getset_descriptor.__get__") (.builtin "object.__class__")):=Zhk (by obtain ⟨cd,hc,_⟩:=PySem.W.any_some c.hd; rw[hc]; rfl) c.cl c.hn c.tk
  obtain ⟨hh,gg,d,t,os⟩:=s
  have L0:=I.type (M:=model prog w)
  have LF:=PySem.W.looks_find (M:=model prog w) X I hf
  have LB:PySem.W.Looks (model prog w) hh (isInstance (.ref x) (.type "BaseException")) true:=L0.andThen (PySem.W.looks_mroIn X c.be)
  have LG:=PySem.W.looks_mroIn (M:=model prog w) X c.be
  refine codeAny_call_builtin F.excAttr_ValueError.ga.plain F.entry_bexc_ga ?_
  have hk:builtinKind "BaseException.__getattribute__" = some .slot:=by decide +kernel
  have hsplit:splitId "BaseException.__getattribute__" = some ("BaseException", "__getattribute__"):=by decide +kernel
  have ha:=F.args_bexc_ga (.ref x) (.str "__class__" tk)
  simp only[checkBuiltinCall,hk,hsplit]
  refine wpAny_bind (LB.at ?_)
  simp only[Bool.not_true,Bool.false_eq_true,if_false]
  refine wpAny_of_eq ha ?_
  refine wpAny_bind (wpAny_pure (wpAny_bind (wpAny_pure (wpAny_bind (L0.at (wpAny_bind (LF.at ?_)))))))
  show wpAny _ _ (holding [Value.builtin "object.__class__"] (call (.builtin "getset_descriptor.__get__") [.builtin "object.__class__", .ref x,.ref C]) >>= ret) _ _ _
  exact wpAny_bind (wpAny_holding (wpAny_call (PySem.W.class_get (s:=⟨hh,gg,d,t,os⟩) X I c.ob (wpAny_pure h))))
theorem ZjQ(c:XCls K C){Q:Option Value->Shared->Prop}(X:K.In s.heap)(I:PySem.W.InstAt s.heap x ox C od)(h:Q (some (.ref C)) { s with toks:=s.toks+1 }):wpAny (model prog w) A (getAttr? (.ref x) "__class__") Q E s:=by
  have L0:=I.type (M:=model prog w)
  have L1:=PySem.W.looks_findIn (M:=model prog w) X c.ga
  have L3:=PySem.W.looks_findIn (M:=model prog w) X c.ha
  obtain ⟨hh,g,d,t,os⟩:=s
  unfold getAttr? getAttrBy? getAttrBy
  refine wpAny_bind (wpAny_mkText (wpAny_bind (wpAny_attempt (wpAny_holding (wpAny_bind (L0.at (wpAny_bind (L1.at ?_))))))))
  show wpAny _ _ (getAttrByItsOwn _ _ _ _ _ _) _ _ _
  unfold getAttrByItsOwn
  refine wpAny_bind (L3.at ?_)
  refine wpAny_bind (wpAny_attempt (wpAny_holding ?_))
  show wpAny _ _ (boundAndCalled _ _ _) _ _ _
  unfold boundAndCalled
  refine wpAny_bind (wpAny_of_eq (F.excAttr_ValueError.ga.bind (.ref x)) ?_)
  refine wpAny_call (ZjP (s:=⟨hh,g,d,t+1,os⟩) c X I ?_)
  exact PySem.W.handed_on rfl (wpAny_pure h)
theorem Zls(c:XCls K C):PySem.W.KitX K (.ref x) (.ref C) (λh=>∃ox od,PySem.W.InstAt h x ox C od) where
  ty:=λ_ _ _ ⟨_,_,I⟩=>I.type
  it:=λ_ _ X _=>by
    obtain ⟨cdD,hcD,_⟩:=PySem.W.any_some c.hd
    unfold PySem.W.clsIn at hcD
    split at hcD
    · rename_i c' d' cd' sl' ho
      intro A' Q' E' s' k q
      unfold isType loadHead
      exact wpAny_bind (wpAny_loadPart (k _ _ (X _ _ ho)) (wpAny_pure q))
    · cases hcD
  ne:=λh tp dd its n sl X htp=>by
    obtain ⟨cdD,hcD,_⟩:=PySem.W.any_some c.hd
    refine Bool.eq_false_iff.mpr λq=>?_
    have e:C=tp:=Value.ref.inj (beq_iff_eq.mp q)
    subst e
    unfold PySem.W.clsIn at hcD
    split at hcD
    · rename_i c' d' cd' sl' ho
      exact nomatch (X _ _ ho).symm.trans htp
    · cases hcD
  ca:=λX ⟨_,_,I⟩ k=>ZjQ c X I k
end
end L2
namespace L2
open PySem PySem.Spec PyProof.Rows
def Tr(h B:Heap)(e:Addr)(cls a0:Value)(dd:Option Addr)(fl:Value):Prop :=
  ∃oe vs T oT ts,h.get? e=some oe/\oe.cls=cls/\oe.dict=dd/\oe.data = .fields vs/\vs[0]?=some a0/\vs[1]?=some (.ref T)/\B.get? T=none/\T≠e/\h.get? T=some oT/\oT.data = .fields ts/\ts[3]?=some fl
theorem Zfi(o:Obj)(f):(o.mapFields f).dict=o.dict:=by
  obtain ⟨c,d,dt,sl⟩:=o
  cases dt <;> rfl
theorem Zch{h:Heap}{a:Addr}{o:Obj}{vs:Array Value}(f:Array Value->Array Value)(ho:h.get? a=some o)(hd:o.data = .fields vs):h.UpToSlots (h.update a (Obj.mapFields f)):=λb u e n =>
  ⟨u.slots,by
    rw[Heap.get?_update_other _ _ λz=>by subst z; rw[ho] at e; cases e; exact n vs hd]
    exact e⟩
theorem Zds{h h' B:Heap}{l:List Env}(u:h.UpToSlots h')(f:h.FunFrames B l):h'.FunFrames B l:=f.of_keeps λb o e n=>let ⟨sl,q⟩:=u b o e n; ⟨_,q,rfl⟩
section
variable{M:Model}{A:Around}{E:Value->Shared->Prop}{s:Shared}{B:Heap}{env:Env}{outer:List Env}{L e:Addr}{oe:Obj}{vs:Array Value}{cls a0:Value}{dd:Option Addr}{Q:Unit->Shared->Prop}
theorem ZgI{hd0:Value}{hn:Bool}(hfr:A.frames=some (env::outer))(fl:s.heap.FunFrames B (env::outer))(hf:env.frame=some L)(he:s.heap.get? e=some oe)(st:B.StaysIn s.heap)(nb:B.get? e=none)(hd:oe.data = .fields vs)
    (h0:vs[0]?=some a0) (hz:1<vs.size) (k:∀h',B.StaysIn h'->h'.FunFrames B (env::outer)->Tr h' B e oe.cls a0 oe.dict (rawInt L)->s.heap.UpToSlots h'->Q () { s with heap:=h' }) :
    wpAny M A (do let a ← frameOf env; let pl ← entryPlaceOf L hn; let b ← EntryCells.newEntry hd0 a .none (rawInt L) .none pl; setField (.ref e) 1 b) Q E s:=by
  have notf:e∉(env::outer).filterMap (·.frame):=λhm=>by
    obtain ⟨_,o,ho,n⟩:=fl.mem hm
    rw[he] at ho; cases ho; exact n vs hd
  refine wpAny_bind (wpAny_frameOf_fun hfr fl hf λh1 so=>wpAny_bind (wpAny_entryPlaceOf λpl hpl=>?_))
  have u1:s.heap.UpToSlots h1:=λb o q _=>so.2.2 b o q
  have st1:B.StaysIn h1:=λb o q=>(so.2.1 b λhm=>by rw[(fl.mem hm).1] at q; cases q).trans (st b o q)
  have he1:h1.get? e=some oe:=(so.2.1 e notf).trans he
  unfold EntryCells.newEntry newFields
  refine wpAny_bind (wpAny_newObj_type ?_ (hpl.sizeOk5 _ _ _ _ _))
  generalize ht:([hd0,Value.ref L,.none,rawInt L,.none]++(if pl.isEmpty then List.replicate 6 Value.none else pl)).toArray=ts
  have ht3:ts[3]?=some (rawInt L):=by rw[<-ht]; simp
  have he2:=Heap.get?_push_of_some (h:=h1) { cls:=.type "traceback", dict:=none,data:=.fields ts } he1
  refine wpAny_setField he2 hd hz (k _ ?_ ?_ ?_ ?_)
  · intro b o q
    rw[Heap.get?_update_other _ _ λz=>by subst z; rw[nb] at q; cases q]
    exact Heap.get?_push_of_some _ (st1 b o q)
  · exact Zds ((u1.trans (.of_keeps λb o q=>Heap.get?_push_of_some _ q)).trans (Zch _ he2 hd)) fl
  · have nT:h1.objs.size≠e:=Wn (Heap.lt_size he1)
    refine ⟨_,_,h1.objs.size,{ cls:=.type "traceback", dict:=none,data:=.fields ts },ts,Heap.get?_update_self _ he2 (Obj.isFreed_of_fields (Obj.data_mapFields hd _)),Obj.cls_mapFields _ _,Zfi _ _,Obj.data_mapFields hd _,?_,?_,st1.fresh,nT,?_,rfl,ht3⟩
    · rw[Array.getElem?_setIfInBounds_ne (by decide)]; exact h0
    · simp[hz]
    · rw[Heap.get?_update_other _ _ (Ne.symm nT)]
      exact Heap.get?_push_size h1 rfl
  · exact (u1.trans (.of_keeps λb o q=>Heap.get?_push_of_some _ q)).trans (Zch _ he2 hd)
theorem ZiQ(hfr:A.frames=some (env::outer))(fl:s.heap.FunFrames B (env::outer))(hf:env.frame=some L)(he:s.heap.get? e=some oe)(st:B.StaysIn s.heap)(nb:B.get? e=none)(hd:oe.data = .fields vs)
    (h0:vs[0]?=some a0) (h1:vs[1]?=some .none) (k:∀h',B.StaysIn h'->h'.FunFrames B (env::outer)->Tr h' B e oe.cls a0 oe.dict (rawInt L)->s.heap.UpToSlots h'->Q () { s with heap:=h' }) :
    wpAny M A (noteFrame (.ref e) env) Q E s:=by
  unfold noteFrame
  simp only[hf]
  refine wpAny_bind (wpAny_field he hd h1 ?_)
  rw[if_neg (by decide)]
  exact ZgI hfr fl hf he st nb hd h0 (Array.getElem?_eq_some_iff.mp h1).1 k
theorem ZjR(hfr:A.frames=some (env::outer))(fl:s.heap.FunFrames B (env::outer))(hf:env.frame=some L)(tr:Tr s.heap B e cls a0 dd .none)(st:B.StaysIn s.heap)(nb:B.get? e=none)
    (k:∀h',B.StaysIn h'->h'.FunFrames B (env::outer)->Tr h' B e cls a0 dd (rawInt L)->s.heap.UpToSlots h'->Q () { s with heap:=h' }):wpAny M A (noteFrame (.ref e) env) Q E s:=by
  obtain ⟨oe,vs,T,oT,ts,he,rfl,rfl,hd,h0,h1,nT,hTe,hT,hdT,h3⟩:=tr
  unfold noteFrame
  simp only[hf]
  refine wpAny_bind (wpAny_field he hd h1 ?_)
  rw[if_pos (show (Value.ref T != Value.none)=true from by simp)]
  refine wpAny_bind (wpAny_field hT hdT h3 ?_)
  rw[if_neg (show ¬((Value.none==rawInt L)=true) from by simp[rawInt])]
  have u:=Zch (·.setIfInBounds 3 Value.none) hT hdT
  refine wpAny_bind (wpAny_setField hT hdT (Array.getElem?_eq_some_iff.mp h3).1 (ZgI (s:={ s with heap:=s.heap.update T (Obj.mapFields (·.setIfInBounds 3 Value.none)) }) hfr (Zds u fl) hf (by rw[Heap.get?_update_other _ _ hTe]; exact he) (λb o q=>?_) nb hd h0 (Array.getElem?_eq_some_iff.mp h1).1 λh' a b c d=>k h' a b c (u.trans d)))
  rw[Heap.get?_update_other _ _ λz=>by subst z; rw[nT] at q; cases q]
  exact st b o q
theorem Zlt{fl0:Value}{l:List Env}(fl:s.heap.FunFrames B l)(tr:Tr s.heap B e cls a0 dd fl0)(st:B.StaysIn s.heap)
    (k:∀h',B.StaysIn h'->h'.FunFrames B l->Tr h' B e cls a0 dd .none->s.heap.UpToSlots h'->Q () { s with heap:=h' }):wpAny M A (setFlight (.ref e) none) Q E s:=by
  obtain ⟨oe,vs,T,oT,ts,he,rfl,rfl,hd,h0,h1,nT,hTe,hT,hdT,h3⟩:=tr
  have h3':3<ts.size:=(Array.getElem?_eq_some_iff.mp h3).1
  have u:=Zch (·.setIfInBounds 3 ((none:Option Addr).elim Value.none λf=>rawInt f)) hT hdT
  unfold setFlight
  refine wpAny_bind (wpAny_field he hd h1 ?_)
  rw[if_pos (show (Value.ref T != Value.none)=true from by simp)]
  refine wpAny_setField hT hdT h3' (k _ (λb o q=>?_) (Zds u fl) ⟨oe,vs,T,_,_,?_,rfl,rfl,hd,h0,h1,nT,hTe,Heap.get?_update_self _ hT (Obj.isFreed_of_fields (Obj.data_mapFields hdT _)),Obj.data_mapFields hdT _,by simp[h3']⟩ u)
  · rw[Heap.get?_update_other _ _ λz=>by subst z; rw[nT] at q; cases q]
    exact st b o q
  · rw[Heap.get?_update_other _ _ hTe]; exact he
end
end L2
namespace L2
open PySem PySem.Spec PyProof.Rows
structure Air (P:Program) (w:World) (B:Heap) (l:List Env) (H:Hp) (h:Heap) (e t:Addr) (cls:Value) (dd:Option Addr) (fl:Value):Prop where
  hok:HOk P w H h
  st:B.StaysIn h
  nb:B.get? e=none
  fr:h.FunFrames B l
  tr:Tr h B e cls (.ref t) dd fl
  tk:∀b u,H b=some u->∃o,B.get? b=some o
theorem ZjS{P:Program}{w:World}{B:Heap}{H:Hp}{h h':Heap}(x:HOk P w H h)(st:B.StaysIn h)(st':B.StaysIn h')(tk:∀b u,H b=some u->∃o,B.get? b=some o):HOk P w H h':=λa o e =>
  (x a o e).stay (λb u hb q=>by
    have:∃v,H b=some v:=by
      rcases hb with rfl | hb
      · exact ⟨o,e⟩
      · exact ⟨_,hb⟩
    obtain ⟨v,hv⟩:=this
    obtain ⟨ob,z⟩:=tk b v hv
    have e2:=(st b ob z).symm.trans q
    cases e2
    exact st' b _ z) (λ_ q=>q) λ_ _ q=>q
def CXx(P:Program)(w:World):CXT:=λouter H s E ev s' =>
  ∃(e t:Addr) (cls:Value) (dd:Option Addr) (H':Hp) (B:Heap),ev = .ref e/\s'.os=s.os/\AllBare s'.gens/\Un (frs outer) [] H H' s.heap s'.heap/\Air P w B outer H' s'.heap e t cls dd .none ∧
    (∀b o,s.heap.get? b=some o->H b=none->b∉frs outer->B.get? b=some o)/\(∀b o,s.heap.get? b=some o->b∉frs outer->∃o',B.get? b=some o')/\E cls dd H'
section
variable{M:Model}{A:Around}{E:Value->Shared->Prop}{s:Shared}{P:Program}{w:World}{B:Heap}{env:Env}{outer:List Env}{H:Hp}{L e t:Addr}{cls:Value}{dd:Option Addr}{fl:Value}{Q:Unit->Shared->Prop}{B0:Heap}
theorem Air.note(a:Air P w B (env::outer) H s.heap e t cls dd .none)(hfr:A.frames=some (env::outer))(hf:env.frame=some L)(k:∀h',Air P w B (env::outer) H h' e t cls dd (rawInt L)->s.heap.UpToSlots h'->Q () { s with heap:=h' }) :
    wpAny M A (noteFrame (.ref e) env) Q E s :=
  ZjR hfr a.fr hf a.tr a.st a.nb λh' st fr tr up=>k h' ⟨ZjS a.hok a.st st a.tk,st,a.nb,fr,tr,a.tk⟩ up
theorem Air.off{l:List Env}(a:Air P w B l H s.heap e t cls dd fl)(k:∀h',Air P w B l H h' e t cls dd .none->s.heap.UpToSlots h'->Q () { s with heap:=h' }):wpAny M A (setFlight (.ref e) none) Q E s :=
  Zlt a.fr a.tr a.st λh' st fr tr up=>k h' ⟨ZjS a.hok a.st st a.tk,st,a.nb,fr,tr,a.tk⟩ up
theorem Air.leave(a:Air P w B (env::outer) H s.heap e t cls dd .none)(hfr:A.frames=some (env::outer))(hf:env.frame=some L)(k:∀h',Air P w B outer H h' e t cls dd .none->s.heap.UpToSlots h'->Q () { s with heap:=h' }) :
    wpAny M A (leaving env (.ref e)) Q E s:=by
  unfold leaving
  refine wpAny_bind (a.note hfr hf λh1 a1 u1=>?_)
  refine Air.off (s:={ s with heap:=h1 }) a1 λh2 a2 u2=>?_
  obtain ⟨_,_,fr⟩:=a2.fr
  exact k h2 ⟨a2.hok,a2.st,a2.nb,fr,a2.tr,a2.tk⟩ (u1.trans u2)
theorem Zm8{s0:Heap}{vs:List Value}(hok:HOk P w H s0)(fl0:s0.FunFrames B0 (env::outer))(hm:Heap.MadeExcOf s0 s.heap e cls vs)(hn:∀b∈frs (env::outer),H b=none)(hfr:A.frames=some (env::outer))(hf:env.frame=some L)
    (k:∀h' t,Air P w (PySem.W.hideAll s0 (frs (env::outer))) (env::outer) H h' e t cls none (rawInt L)->s0.UpToSlots h'->Q () { s with heap:=h' }):wpAny M A (noteFrame (.ref e) env) Q E s:=by
  obtain ⟨t,he,_,_⟩:=hm.there
  have st0:(PySem.W.hideAll s0 (frs (env::outer))).StaysIn s0:=λb o q=>PySem.W.of_hideAll _ q
  have st:(PySem.W.hideAll s0 (frs (env::outer))).StaysIn s.heap:=λb o q=>hm.keeps b o (st0 b o q)
  have tk:∀b u,H b=some u->∃o,(PySem.W.hideAll s0 (frs (env::outer))).get? b=some o:=λb u q=>by
    have lt:=hok.lt q
    obtain ⟨o,ho⟩:∃o,s0.get? b=some o:=by
      have x:=hok b u q
      cases u with
      | lst xs=>obtain ⟨_,_,_,_,z⟩:=x; exact ⟨_,z⟩
      | tup xs=>obtain ⟨_,_,_,o,z,_⟩:=x; exact ⟨_,z⟩
      | dK kvs=>obtain ⟨_,_,_,_,o,_,_,z,_⟩:=x; exact ⟨_,z⟩
      | dT kvs=>obtain ⟨_,_,_,_,o,_,_,z,_⟩:=x; exact ⟨_,z⟩
      | set S n=>obtain ⟨o,_,_,_,z,_⟩:=x; exact ⟨_,z⟩
      | ins C dx fs=>obtain ⟨_,_,_,z,_⟩:=x; exact ⟨_,z⟩
      | own y=>obtain ⟨_,z⟩:=x; exact ⟨_,z⟩
      | xd fs=>obtain ⟨_,⟨_,_,_,z,_⟩,_⟩:=x; exact ⟨_,z⟩
      | rng lo hi=>obtain ⟨_,_,_,z⟩:=x; exact ⟨_,z⟩
      | frz ob v=>obtain ⟨z,_⟩:=x; exact ⟨_,z⟩
      | tbl ps=>exact ⟨_,(show s0.get? b=some _ from x)⟩
      | met f y=>exact ⟨_,(show s0.get? b=some _ from x)⟩
      | ext φ=>obtain ⟨_,⟨_,z⟩,_⟩:=x; exact ⟨_,z⟩
    exact ⟨o,PySem.W.hideAll_get _ ho λhm=>by rw[hn b hm] at q; cases q⟩
  have nb:(PySem.W.hideAll s0 (frs (env::outer))).get? e=none:=by
    cases q:(PySem.W.hideAll s0 (frs (env::outer))).get? e with
    | none=>rfl
    | some o=>have:=st0 e o q; rw[hm.new] at this; cases this
  have fl1:s0.FunFrames (PySem.W.hideAll s0 (frs (env::outer))) (env::outer):=PySem.W.funFrames_hide fl0 λx hx a ha=>Uw.mpr ⟨x,hx,ha⟩
  refine ZiQ hfr (Zds (.of_keeps hm.keeps) fl1) hf he st nb rfl rfl rfl λh' st' fr tr up=>?_
  exact k h' t ⟨ZjS hok st0 st' tk,st',nb,fr,tr,tk⟩ ((Heap.UpToSlots.of_keeps hm.keeps).trans up)
end
end L2
namespace L2
open PySem PySem.Spec PyProof.Rows
theorem ZjT{env:Env}{outer:List Env}{L b:Addr}(hf:env.frame=some L):b∈frs (env::outer)↔b=L\/b∈frs outer:=by
  unfold frs
  rw[Uu,hf,Q8]
section
variable{X:Cx}{pins:List (Addr×Obj)}{σ:St}{H1 H2:Hp}{s1:Shared}{B h2 h3:Heap}
theorem Zm9(U:Un (frs X.stack) [] H1 H2 s1.heap h2)(fr:h2.FunFrames B X.stack)(up:h2.UpToSlots h3)(st:B.StaysIn h3)(in1:∀b o,s1.heap.get? b=some o->H1 b=none->b∉frs X.stack->B.get? b=some o)
    (in2:∀b o,s1.heap.get? b=some o->b∉frs X.stack->∃o',B.get? b=some o'):Un (frs X.stack) [] H1 H2 s1.heap h3 where
  keep:=λb o q n hb _=>st b o (in1 b o q n hb)
  slot:=λb o q n hb hx=>by
    obtain ⟨sl,e⟩:=U.slot b o q n hb hx
    obtain ⟨_,o',e',nf⟩:=fr.mem hb
    rw[e] at e'
    cases e'
    obtain ⟨sl',e2⟩:=up b _ e nf
    exact ⟨sl',e2⟩
  free:=U.free
  there:=λb o q hx=>by
    by_cases hb:b∈frs X.stack
    · obtain ⟨_,o',e',nf⟩:=fr.mem hb
      obtain ⟨sl,e2⟩:=up b _ e' nf
      exact ⟨_,e2⟩
    · obtain ⟨o',z⟩:=in2 b o q hb
      exact ⟨o',st b o' z⟩
  tups:=U.tups
  frzs:=U.frzs
  tbls:=U.tbls
theorem ZjU(I:Inv X pins σ H1 s1)(hx:X.ex=[])(hs:X.stack=X.env::X.outer)(hf:X.env.frame=some X.env.locals)(U:Un (frs X.stack) [] H1 H2 s1.heap h2)(fr:h2.FunFrames B X.stack)(up:h2.UpToSlots h3)(st:B.StaysIn h3)
    (in1:∀b o,s1.heap.get? b=some o->H1 b=none->b∉frs X.stack->B.get? b=some o) (in2:∀b o,s1.heap.get? b=some o->b∉frs X.stack->∃o',B.get? b=some o') :
    Un X.fs [] X.H₀ H2 X.s₀.heap h3/\(∀b o,X.s₀.heap.get? b=some o->X.H₀ b=none->b∉X.fs->B.get? b=some o)/\∀b o,X.s₀.heap.get? b=some o->b∉X.fs->∃o',B.get? b=some o':=by
  have V:=Zm9 U fr up st in1 in2
  have ib:Un X.fs [] X.H₀ H1 X.s₀.heap s1.heap:=by have:=I.base; rw[hx] at this; exact this
  have ne:∀b o,X.s₀.heap.get? b=some o->b≠X.env.locals:=λb o q z=>by
    subst z
    exact absurd (Q6 (Heap.lt_size q) I.ok.above) (Qv _)
  have nm:∀b o,X.s₀.heap.get? b=some o->b∉X.fs->b∉frs X.stack:=λb o q hb z=>by
    rw[hs] at z
    rcases (ZjT hf).mp z with e | e
    · exact ne b o q e
    · exact hb e
  have sub:∀b,b∈X.fs->b∈frs X.stack:=λb hb=>by rw[hs]; exact (ZjT hf).mpr (.inr hb)
  refine ⟨⟨λb o q n hb hx=>?_,λb o q n hb hx=>?_,λb o q n hx=>?_,λb o q hx=>?_,λb xs q=>V.tups b xs (ib.tups b xs q),λb o u q=>V.frzs b o u (ib.frzs b o u q),λb ps q=>?_⟩,λb o q n hb=>?_,λb o q hb=>?_⟩
  · exact V.keep b o (ib.keep b o q n hb hx) (ib.free b o q n hx) (nm b o q hb) hx
  · obtain ⟨sl,e⟩:=ib.slot b o q n hb hx
    obtain ⟨sl',e'⟩:=V.slot b _ e (ib.free b o q n hx) (sub b hb) hx
    exact ⟨sl',e'⟩
  · obtain ⟨o',e⟩:=ib.there b o q hx
    exact V.free b o' e (ib.free b o q n hx) hx
  · obtain ⟨o',e⟩:=ib.there b o q hx
    exact V.there b o' e hx
  · obtain ⟨m1,e1⟩:=ib.tbls b ps q
    obtain ⟨m2,e2⟩:=V.tbls b _ e1
    exact ⟨m1++m2,by rw[e2,Array.append_assoc]⟩
  · exact in1 b o (ib.keep b o q n hb (by simp)) (ib.free b o q n (by simp)) (nm b o q hb)
  · obtain ⟨o',e⟩:=ib.there b o q (by simp)
    exact in2 b o' e (nm b o q hb)
end
section
variable{P:Program}{w:World}{K:PySem.W.Frag}{mg:Str->Option Value}{base:Heap}{N:List Str}{qual:Str}{scope:Scope}{f:Addr}{cd:Value}{A:Around}{outer:List Env}{s:Shared}{H:Hp}{E:XK}
abbrev cxX(P:Program)(w:World)(K:PySem.W.Frag)(mg:Str->Option Value)(base:Heap)(N:List Str)(qual:Str)(scope:Scope)(f:Addr)(cd:Value)(A:Around)(outer:List Env)(s:Shared)(H:Hp)(E:XK):Cx :=
  ZmV (CXx P w) P w K mg base N qual scope f cd A outer s H E
def ZiR(X:Cx)(E:St->XK):Prop:=∀(pins:List (Addr×Obj)) (σ:St) (H:Hp) (s:Shared) (e:Value) (s':Shared),Inv X pins σ H s->CXx X.prog X.w X.stack H s (E σ) e s'->X.xe e s'
theorem ZgJ:ZiR (cxX P w K mg base N qual scope f cd A outer s H E) λ_=>E:=by
  intro pins σ H1 s1 ev s2 I h
  obtain ⟨e,t,cls,dd,H2,B,rfl,os,bare,U,a,in1,in2,q⟩:=h
  show wpAny (model P w) (A.deeper (envOfC qual scope s.heap.objs.size f cd)) (leaving (envOfC qual scope s.heap.objs.size f cd) (.ref e)) _ _ s2
  have hfr:=I.ok.frames
  refine Air.leave (L:=s.heap.objs.size) a hfr rfl λh3 a3 up=>?_
  obtain ⟨u,i1,i2⟩:=ZjU I rfl rfl rfl U a.fr up a3.st in1 in2
  exact ⟨e,t,cls,dd,H2,B,rfl,os.trans I.os,bare,u,a3,i1,i2,q⟩
theorem ZcY{X:Cx}:ZiR X λ_=>E0:=λ_ _ _ _ _ _ _ ⟨_,_,_,_,_,_,_,_,_,_,_,_,_,q⟩=>q.elim
def ZjV(X:Cx)(E:XK):Prop:=∀(pins:List (Addr×Obj)) (σ:St) (H:Hp) (s:Shared) (h':Heap) (e:Addr) (cls:Value) (vs:List Value),Inv X pins σ H s->Heap.MadeExcOf s.heap h' e cls vs->E cls none H->X.xe (.ref e) { s with heap:=h' }
theorem ZgK:ZjV (cxX P w K mg base N qual scope f cd A outer s H E) E:=by
  intro pins σ H1 s1 h' e cls vs I hm q
  show wpAny (model P w) (A.deeper (envOfC qual scope s.heap.objs.size f cd)) (leaving (envOfC qual scope s.heap.objs.size f cd) (.ref e)) _ _ _
  have hfr:=I.ok.frames
  unfold leaving
  refine wpAny_bind (Zm8 (s:={ s1 with heap:=h' }) I.hok I.stack hm I.stkFree hfr rfl λh2 t a2 u2=>?_)
  refine Air.off (s:={ s1 with heap:=h2 }) a2 λh3 a3 u3=>?_
  obtain ⟨_,_,fr⟩:=a3.fr
  have fr0:s1.heap.FunFrames (PySem.W.hideAll s1.heap (frs (cxX P w K mg base N qual scope f cd A outer s H E).stack)) (cxX P w K mg base N qual scope f cd A outer s H E).stack:=PySem.W.funFrames_hide I.stack λx hx a ha=>Uw.mpr ⟨x,hx,ha⟩
  obtain ⟨u,i1,i2⟩:=ZjU I rfl rfl rfl .refl fr0 (u2.trans u3) a3.st (λb o e _ hb=>PySem.W.hideAll_get _ e hb) (λb o e hb=>⟨o,PySem.W.hideAll_get _ e hb⟩)
  exact ⟨e,t,cls,none,H1,_,rfl,I.os,I.bare,u,⟨a3.hok,a3.st,a3.nb,fr,a3.tr,a3.tk⟩,i1,i2,q⟩
theorem Fun.okx{x qual:Str}{st:Stmt}{f:Addr}{fd:FuncData}{N ps:List Str}{k:Nat}{sp:Sp}(F:Fun K x qual st f fd)(S:FnScope N ps (Zah st))(len:∀vs H Q E,sp vs H Q E->vs.length=ps.length)
    (hbody:∀(cdv:Value) (A:Around) (outer:List Env) (s:Shared) (H:Hp) (vs:List V) (Q:VK) (E:XK),Room k (A.deeper (envOfC qual (Zah st) s.heap.objs.size f cdv))->sp vs H Q E →
      ∃t,PSs (cxX P w K mg base N qual (Zah st) f cdv A outer s H E) (Zbj st) t/\t { nx:=λ_ H'=>Q .non H',rt:=Q } (start N vs) H):FnOk P w K mg base (CXx P w) (k+1) f fd ps sp:=by
  obtain ⟨oc,od,kV,doc,pm,an,cdv,ct,osl,rfl,lk,hcd⟩:=F.ex
  exact ZmW lk hcd S len λA outer s H vs Q E hr hsp=>hbody cdv A outer s H vs Q E hr hsp
end
structure HasX (P:Program) (w:World) (K:PySem.W.Frag) (mg:Str->Option Value) (base:Heap) (x:Str) (k:Nat) (ps:List Str) (sp:Sp):Prop where
  ex:∃(f:Addr) (fd:FuncData),FnOk P w K mg base (CXx P w) k f fd ps sp/\mg x=some (.ref f)/\PySem.W.keepIn K (.ref f)=true/\Binds K fd ps []
structure HasMX (P:Program) (w:World) (K:PySem.W.Frag) (mg:Str->Option Value) (base:Heap) (C:Addr) (m:Str) (k:Nat) (ps:List Str) (dvs:List V) (sp:Sp):Prop where
  ex:∃(f:Addr) (fd:FuncData) (ds:List Value),FnOk P w K mg base (CXx P w) k f fd ps sp/\Meth K C m f/\Binds K fd ps ds/\Vals dvs ds
structure HasIX (P:Program) (w:World) (K:PySem.W.Frag) (mg:Str->Option Value) (base:Heap) (C:Addr) (k:Nat) (ps:List Str) (sp:Sp):Prop where
  ex:∃(f:Addr) (fd:FuncData),Mk K C f/\FnOk P w K mg base (CXx P w) k f fd ps sp/\Binds K fd ps []
section
variable{P:Program}{w:World}{K:PySem.W.Frag}{mg:Str->Option Value}{base:Heap}{x m qual:Str}{C:Addr}{st:Stmt}{j k:Nat}{ps:List Str}{dvs:List V}{sp:Sp}
theorem HasX.mono(h:HasX P w K mg base x j ps sp)(e:j<=k):HasX P w K mg base x k ps sp:=let ⟨f,fd,a,b,c,d⟩:=h.ex; ⟨f,fd,a.mono e,b,c,d⟩
theorem HasMX.mono(h:HasMX P w K mg base C m j ps dvs sp)(e:j<=k):HasMX P w K mg base C m k ps dvs sp:=let ⟨f,fd,ds,a,b,c,d⟩:=h.ex; ⟨f,fd,ds,a.mono e,b,c,d⟩
theorem Here.hasX(h:Here K mg x st)(b:∀f fd,Fun K x x st f fd->Binds K fd ps [])(ok:∀f fd,Fun K x x st f fd->FnOk P w K mg base (CXx P w) k f fd ps sp):HasX P w K mg base x k ps sp :=
  let ⟨f,fd,F,m⟩:=h.ex
  ⟨f,fd,ok f fd F,m,F.kp,b f fd F⟩
theorem HereM.hasMX(h:HereM K C m qual st)(b:∀f fd,Fun K m qual st f fd->Binds K fd ps [])(ok:∀f fd,Fun K m qual st f fd->FnOk P w K mg base (CXx P w) k f fd ps sp):HasMX P w K mg base C m k ps [] sp :=
  let ⟨f,fd,F,M⟩:=h.ex
  ⟨f,fd,[],ok f fd F,M,b f fd F,.nil⟩
end
section
variable{X:Cx}{k:Nat}{f C:Addr}{fd:FuncData}{ps:List Str}{sp:Sp}{dvs:List V}{ds:List Value}{E:St->XK}{x m:Str}{p pos apos:Pos}{e o:Expr}{es:List Expr}{ta:TE}{t:TA}
theorem ZjW{pins:List (Addr×Obj)}{σ:St}{H:Hp}{s:Shared}{Q:VK}{us:List Value}{vs:List V}(F:FnOk X.prog X.w X.K X.mg X.base (CXx X.prog X.w) k f fd ps sp)(hr:Room k X.A)(hb:Binds X.K fd ps ds)(hd:Vals dvs ds)(hx:ZiR X E)
    (I:Inv X pins σ H s) (r:Vals vs us) (h:sp (vs++dvs) H Q (E σ)):wpAny (model X.prog X.w) X.A (call (.ref f) us) (EP X pins σ Q) X.xe s:=by
  have r2:Vals (vs++dvs) (us++ds):=r.append hd
  have hl:(us++ds).length=ps.length:=by rw[<-r2.length]; exact F.len _ _ _ _ h
  refine wpAny_call (codeAny_mono (F.run X.A X.stack s H ⟨us,[]⟩ (us++ds) (vs++dvs) Q (E σ) hr I.env0 (hb s us I.kIn hl) r2 h) λr s' hq=>?_)
  cases r with
  | error e=>exact hx pins σ H s e s' I hq
  | ok fl =>
    cases fl with
    | ret u=>exact I.after hq
    | next=>exact False.elim hq
    | brk=>exact False.elim hq
    | cont=>exact False.elim hq
theorem ZdM(h:HasX X.prog X.w X.K X.mg X.base x k ps sp)(hx:ZiR X E)(hr:Room k X.A)(hg:Gl X x)(ha:PA X (e::es) t)(hdb:(x==("__debug__" : Str))=false:=by decide)
    (he:starEach (e::es) X.env=(false,eval e X.env)::starEach es X.env:=by rfl) (hpl:(backTo pos (starEach es X.env)).any (·.1)=false:=by rfl) :
    PE X (.Call (.Name x p) (e::es) [] pos) (λσ H Q=>t σ H λvs H1=>sp vs H1 Q (E σ)):=by
  obtain ⟨f,fd,F,hm,hk,hb⟩:=h.ex
  intro pins s σ H Q I h
  refine wpAny_Call_Name_kw (ZdI I hg hm ?_ hdb)
  refine PySem.W.callWith_K (h₀:=X.base) I.ok.mod.kin hk (thn (ha pos pins s σ H _ I h) λus s1 ⟨vs,H1,I1,r,q⟩=>⟨I1.kIn,?_⟩) he hpl
  exact ZjW (dvs:=[]) F hr hb .nil hx I1 r (by rw[List.append_nil]; exact q)
def Zmo(P:Program)(w:World)(K:PySem.W.Frag)(mg:Str->Option Value)(base:Heap)(m:Str)(k:Nat)(E:St->XK)(ta:TE)(t:TA):TE:=λσ H Q=>ta σ H λx H1=>∃a C dx fs ps dvs sp,x = .ref a/\H1 a=some (.ins C dx fs)/\Cls K C/\HasMX P w K mg base C m k ps dvs sp/\fs.lookup m=none ∧
  t σ H1 λvs H2=>sp (x::(vs++dvs)) H2 Q (E σ)
theorem ZaH{pl:Sem Bool}(he:PE X o ta)(hx:ZiR X E)(hr:Room k X.A)(ha:PA X (e::es) t)
    (hst:starEach (e::es) X.env=(false,eval e X.env)::starEach es X.env:=by rfl) (hpl:(backTo pos (starEach es X.env)).any (·.1)=false:=by rfl)
    (ht:eval (.Call (.Attribute o m apos) (e::es) [] pos) X.env=(do
      let ov ← eval o X.env
      standAt apos.atName
      let (f,first) ← holding [ov] (getMethod ov m pl)
      callWith pos f first (backTo pos (starEach (e::es) X.env)) (backToKw pos (keywordEach [] X.env))):=by rfl) :
    PE X (.Call (.Attribute o m apos) (e::es) [] pos) (Zmo X.prog X.w X.K X.mg X.base m k E ta t):=by
  intro pins s σ H Q I h
  refine PySem.W.methodCall_KW (pl:=pl) (thn (he pins s σ H _ I h) λu s1 ⟨x,H1,I1,rx,a,C,dx,fs,ps,dvs,sp,ex,ea,c,hM,l,q⟩=>?_) ht
  subst ex
  obtain rfl:u=Value.ref a:=rx
  obtain ⟨f,fd,ds,F,hm,hb,hd⟩:=hM.ex
  refine Zfq I1 ea c hm l ?_
  refine PySem.W.callWith_K (first:=[.ref a]) (h₀:=X.base) I.ok.mod.kin hm.kp (thn (ha pos pins s1 σ H1 _ I1 q) λus s2 ⟨vs,H2,I2,r,q2⟩=>⟨I2.kIn,?_⟩) hst hpl
  exact ZjW (us:=.ref a::us) (vs:=.ref a::vs) F hr hb hd hx I2 (.cons rfl r) q2
end
end L2
namespace L2
open PySem PySem.Spec PyProof.Rows
abbrev bmV:List Value:=[.type "ValueError", .type "Exception", .type "BaseException", .type "object"]
structure ExcC (K:PySem.W.Frag) (mg:Str->Option Value) (x:Str) (C:Addr):Prop where
  cls:XCls K C
  mgx:mg x=some (.ref C)
  ein:PySem.W.excIn K C bmV "ValueError.__new__" = true
theorem ExcC.obj{K:PySem.W.Frag}{mg:Str->Option Value}{x:Str}{C:Addr}(c:ExcC K mg x C){h:Heap}(X:K.In h):OwnCls x C bmV "ValueError.__new__" mg h:=by
  refine ⟨c.mgx,?_⟩
  have q:=c.ein
  unfold PySem.W.excIn at q
  split at q
  · rename_i dd cd sl ho
    split at q
    · rename_i C' bm k0 k1 k2 k3 n k5 hm hs
      simp only[Bool.and_eq_true,beq_iff_eq,Bool.not_eq_true'] at q
      obtain ⟨⟨⟨⟨⟨rfl,rfl⟩,hdel⟩,ht⟩,hok⟩,hni⟩:=q
      obtain ⟨nm,bs,mro,ns,qn,hd,sn,sub,ab,col,del⟩:=cd
      dsimp only at hm hdel hok hni
      subst hm hdel
      obtain ⟨l⟩:=sl
      have hl:l=[k0,k1,k2,k3,some (.builtin "ValueError.__new__"),k5]:=hs
      subst hl
      exact ⟨bm,ns,nm,qn,bs,hd,sn,sub,ab,col,dd,k0,k1,k2,k3,k5,_,X _ _ ho,.of_isNs (PySem.W.isNs_of_in X hok),PySem.W.nsMap_none_of_in X hok hni,PySem.W.tail_of_in X ht⟩
    · cases q
  · cases q
section
variable{X:Cx}{k:Nat}{C:Addr}{ps:List Str}{sp:Sp}{x m:Str}{p pos np cpos:Pos}{e:Expr}{es:List Expr}{t:TA}
theorem Zdt{E:XK}(c:ExcC X.K X.mg x C)(hR:ZjV X E)(hcalm:X.calm=true)(hg:Gl X x)(ha:PA X (e::es) t)(hl:(e::es).length<=1000:=by decide)
    (he:starEach (e::es) X.env=(false,eval e X.env)::starEach es X.env:=by rfl) (hpl:(backTo cpos (starEach es X.env)).any (·.1)=false:=by rfl) (hdb:(x==("__debug__" : Str))=false:=by decide) :
    PS X (.Raise (some (.Call (.Name x np) (e::es) [] cpos)) none pos) (λ_ σ H=>t σ H λvs H1=>vs.length<=1000/\E (.ref C) none H1):=by
  intro pins s σ H D I h
  obtain ⟨bm,N,nm,q,bs,hdct,sn,sub,ab,col,dd,k0,k1,k2,k3,k5,mN,hC,hN,hni,T⟩:=(c.obj I.mod.kin).obj
  refine wpAny_Raise_call_subT (C:=C) (nm:=nm) (q:=q) (N:=N) (bs:=bs) (bm:=bm) (hdct:=hdct) (sn:=sn) (sub:=sub) (ab:=ab) (col:=col) (dd:=dd) (k0:=k0) (k1:=k1) (k2:=k2) (k3:=k3) (k5:=k5) PySem.F.excBase_ValueError
    (mN:=mN) (T.hasType PySem.F.excBase_ValueError.hasBase) (I.ok.hd hcalm) (by rw[he]; show (false||(backTo cpos (starEach es X.env)).any (·.1))=false; rw[hpl]; rfl) hni (ZdI I hg c.mgx ⟨rfl,?_⟩ hdb)
  have z:=ha cpos pins s σ H _ I h
  rw[he] at z ⊢
  refine Calls.evalArgs_plain (wpAny_mono z (λus s2 ⟨vs,H2,I2,r,hv,q2⟩=>⟨rfl,?_,I2.bk _ _ hC,hN.keeps I2.bk,T.keeps I2.bk,λh' e' hm=>hR pins σ H2 s2 h' e' _ _ I2 hm q2⟩) λ_ _ y=>y)
  rw[<-r.length]
  exact Qt (Zbu hv)
end
end L2
namespace L2
open PySem PySem.Spec PyProof.Rows
def ZpU(e C:Addr)(dd:Option Addr):HO:=.ext λh=>∃oe vs,h.get? e=some oe/\oe.cls = .ref C/\oe.dict=dd/\oe.data = .fields vs
section
variable{X:Cx}{pins:List (Addr×Obj)}{σ σ1:St}{H H1:Hp}{s s1:Shared}{e C:Addr}{dd:Option Addr}
def Cx.suite(X:Cx)(e:Addr):Cx:={ X with A:=X.A.mark (some (.ref e)),calm:=false,xe:=λ_ _=>False }
theorem Inv.suite(I:Inv X pins σ H s)(e:Addr):Inv (X.suite e) pins σ H s :=
  ⟨⟨I.ok.mod,I.ok.kind,I.ok.glob,I.ok.blt,I.ok.above,I.ok.inj,I.ok.has,I.ok.cab,(λz=>nomatch z),I.ok.frames,I.ok.stk,I.ok.exf,I.ok.bs,I.ok.bsz,I.ok.noex,I.ok.exfs,I.ok.funs,I.ok.frf⟩,I.os,I.bare,I.base,I.loc,I.cell,I.free,I.freeC,I.pin,I.hok,I.len⟩
structure CatC (K:PySem.W.Frag) (mg:Str->Option Value) (x:Str) (CE:Addr):Prop where
  mgx:mg x=some (.ref CE)
  ty:PySem.W.typeIn K (.ref CE)=some (.type "type")
  be:PySem.W.mroIn K CE (.type "BaseException")=some true
  cl:(PySem.W.clsIn K CE).isSome=true
end
end L2
namespace L2
open PySem PySem.Spec PyProof.Rows
inductive TyX (K:PySem.W.Frag) (H:Hp):V->Value->Prop where
  | of {x:V} {t:Value} (h:Zie K H x t):TyX K H x t
  | exc {e C:Addr} (h:H e=some (ZpU e C none)) (c:XCls K C):TyX K H (.ref e) (.ref C)
inductive Zo7 (K:PySem.W.Frag) (H:Hp) (t:Value):V->Bool->Prop where
  | ty {T:String} {b:Bool} (h:PySem.W.kitOne K t (.type T)=some b):Zo7 K H t (.ty T) b
  | ref {C:Addr} {b:Bool} (h:PySem.W.kitOne K t (.ref C)=some b):Zo7 K H t (.ref C) b
  | tup {tp:Addr} {cs:List Addr} {b:Bool} (h:H tp=some (.tup (cs.map V.ref))) (q:PySem.W.kitAny K t (cs.map Value.ref)=some b):Zo7 K H t (.ref tp) b
theorem ZgL:∀ {cs:List Addr} {us:List Value},Vals (cs.map V.ref) us->us=cs.map Value.ref
  | [],_,.nil=>rfl
  | _::_,_,.cons r t=>by cases (show _=Value.ref _ from r); rw[ZgL t]; rfl
section
variable{X:Cx}
theorem ZgM:CallR X (.builtin "isinstance") (λxs H Q=>∃x c t b,xs=[x,c]/\TyX X.K H x t/\Zo7 X.K H t c b/\Q (.bl b) H):=by
  intro pins s σ H xs us Q I r h
  obtain ⟨x,c,t,b,rfl,ty,ask,q⟩:=h
  obtain ⟨u,w',rfl,r1,r2⟩:=Zju r
  have fin:∀tk,EP X pins σ Q (.bool b) { s with toks:=tk }:=λtk=>⟨.bl b,H,I.tok _,rfl,q⟩
  obtain ⟨G,Z,g,hb⟩:∃G:Heap->Prop,PySem.W.KitX X.K u t G/\G s.heap/\u ≠ .builtin "__main__.__loader__#opaque" := by
    cases ty with
    | exc he c =>
      rename_i e C
      cases (show u=Value.ref e from r1)
      obtain ⟨⟨oe,vs,a1,a2,a3,a4⟩,_,_⟩:=(show ObjOk X.prog X.w H s.heap e (ZpU e C none) from I.hok e _ he)
      refine ⟨_,Zls c,⟨oe,none,a1,a2,?_,?_⟩,λz=>nomatch z⟩
      · unfold PySem.W.notCls; rw[a4]
      · rw[a3]; trivial
    | of ty =>
      cases ty with
      | non=>cases (show u=Value.none from r1); exact ⟨_,PySem.W.kitx_none,True.intro,λz=>nomatch z⟩
      | bl y=>cases (show u=Value.bool y from r1); exact ⟨_,PySem.W.kitx_bool,True.intro,λz=>nomatch z⟩
      | int i=>obtain ⟨t,q⟩:=(show ∃t,u=Value.int i t from r1); cases q; exact ⟨_,PySem.W.kitx_int,True.intro,λz=>nomatch z⟩
      | str y=>obtain ⟨t,q⟩:=(show ∃t,u=Value.str y t from r1); cases q; exact ⟨_,PySem.W.kitx_str,True.intro,λz=>nomatch z⟩
      | flt y=>obtain ⟨t,q⟩:=(show ∃t,u=Value.float y t from r1); cases q; exact ⟨_,PySem.W.kitx_float,True.intro,λz=>nomatch z⟩
      | @lst a xs ea =>
        cases (show u=Value.ref a from r1)
        obtain ⟨_,_,n,_,h1⟩:=(show ObjOk X.prog X.w H s.heap a (.lst xs) from I.hok a _ ea)
        exact ⟨_,PySem.W.kitx_list,⟨_,h1,rfl⟩,λz=>nomatch z⟩
      | @frz a ob xs ea =>
        cases (show u=Value.ref a from r1)
        obtain ⟨_,_,_,n,_,h1⟩:=(show ObjOk X.prog X.w H s.heap a (.frz ob (.lst xs)) from I.hok a _ ea)
        exact ⟨_,PySem.W.kitx_list,⟨_,h1,rfl⟩,λz=>nomatch z⟩
      | @tup a xs ea =>
        cases (show u=Value.ref a from r1)
        obtain ⟨_,_,_,p⟩:=(show ObjOk X.prog X.w H s.heap a (.tup xs) from I.hok a _ ea)
        obtain ⟨o,h1,h2,_⟩:=p
        exact ⟨_,PySem.W.kitx_tuple,⟨o,h1,h2⟩,λz=>nomatch z⟩
      | @dK a kvs ea =>
        cases (show u=Value.ref a from r1)
        obtain ⟨_,_,vs,_,p⟩:=(show ObjOk X.prog X.w H s.heap a (.dK kvs) from I.hok a _ ea)
        obtain ⟨o,es,ep,h1,h2,_⟩:=p
        exact ⟨_,PySem.W.kitx_dict,⟨o,h1,h2.1⟩,λz=>nomatch z⟩
      | @dT a kvs ea =>
        cases (show u=Value.ref a from r1)
        obtain ⟨_,_,xs,_,o,es,ep,h1,h2,_⟩:=(show ObjOk X.prog X.w H s.heap a (.dT kvs) from I.hok a _ ea)
        exact ⟨_,PySem.W.kitx_dict,⟨o,h1,h2.1⟩,λz=>nomatch z⟩
      | @ins a C dx fs ea cl ha hn htk hm =>
        cases (show u=Value.ref a from r1)
        obtain ⟨mA,O,_⟩:=Zey I.hok ea
        obtain ⟨od,J,_⟩:=O.look
        exact ⟨_,PySem.W.kitx_own (cl.get _) cl.hd ha hn htk hm,J,λz=>nomatch z⟩
  cases ask with
  | ty k=>cases (show w'=Value.type _ from r2); exact PySem.W.kia_one Z I.kIn g k hb fin
  | ref k=>cases (show w'=Value.ref _ from r2); exact PySem.W.kia_one Z I.kIn g k hb fin
  | @tup tp cs b ht k =>
    cases (show w'=Value.ref tp from r2)
    obtain ⟨_,its,rv,o,h1,h2,n,h3⟩:=(show ObjOk X.prog X.w H s.heap tp (.tup (cs.map V.ref)) from I.hok tp _ ht)
    obtain ⟨oc,od,odt,osl⟩:=o
    dsimp only at h2 h3
    subst h2 h3
    exact PySem.W.kia_tup Z I.kIn g h1 (by rw[ZgL rv]; exact k) hb fin
end
theorem Zna{K:PySem.W.Frag}{C D:Addr}{b:Bool}(hc:(PySem.W.clsIn K D).isSome=true)(ht:PySem.W.typeIn K (.ref D)=some (.type "type")) (hm:PySem.W.mroIn K C (.ref D)=some b) (hne:C≠D):PySem.W.kitOne K (.ref C) (.ref D)=some b:=by
  unfold PySem.W.kitOne PySem.W.kitCls
  rw[if_neg (λz=>hne (Value.ref.inj (beq_iff_eq.mp z)))]
  show (if ((PySem.W.clsIn K D).isSome&&PySem.W.typeIn K (.ref D)==some (.type "type"))=true then PySem.W.subIn K (.ref C) (.ref D) else none)=some b
  rw[hc,ht]
  exact hm
end L2
namespace L2
open PySem PySem.Spec PyProof.Rows
structure FunD (K:PySem.W.Frag) (x qual:Str) (st:Stmt) (f:Addr) (fd:FuncData) (T:Addr) (items:Array Value):Prop where
  ex:∃(oc:Value) (od:Option Addr) (kV doc pm:Value) (an:Option Addr) (cdv ct:Value) (osl:Array (Option Value)),
    fd=PySem.W.fnOf x qual (ZbY st) (Zbj st) (Zah st) (.ref T) kV doc pm an cdv ct/\K.lookup f=some ⟨oc,od,.func fd,osl⟩/\PySem.W.codeIn K cdv qual=true
  tp:∃(tc:Value) (td:Option Addr) (n:Nat) (tsl:Array (Option Value)),K.lookup T=some ⟨tc,td,.seq items n,tsl⟩
  kp:PySem.W.keepIn K (.ref f)=true
section
variable{P:Program}{w:World}{K:PySem.W.Frag}{mg:Str->Option Value}{base:Heap}{x qual m:Str}{st:Stmt}{f C T:Addr}{fd:FuncData}{items:Array Value}{N ps:List Str}{k:Nat}{sp:Sp}{ds:List Value}{dvs:List V}
theorem FunD.okx(F:FunD K x qual st f fd T items)(S:FnScope N ps (Zah st))(len:∀vs H Q E,sp vs H Q E->vs.length=ps.length)
    (hbody:∀(cdv:Value) (A:Around) (outer:List Env) (s:Shared) (H:Hp) (vs:List V) (Q:VK) (E:XK),Room k (A.deeper (envOfC qual (Zah st) s.heap.objs.size f cdv))->sp vs H Q E →
      ∃t,PSs (cxX P w K mg base N qual (Zah st) f cdv A outer s H E) (Zbj st) t/\t { nx:=λ_ H'=>Q .non H',rt:=Q } (start N vs) H):FnOk P w K mg base (CXx P w) (k+1) f fd ps sp:=by
  obtain ⟨oc,od,kV,doc,pm,an,cdv,ct,osl,rfl,lk,hcd⟩:=F.ex
  exact ZmW lk hcd S len λA outer s H vs Q E hr hsp=>hbody cdv A outer s H vs Q E hr hsp
theorem FunD.binds(F:FunD K x qual st f fd T items)(h:∀ (kV doc pm:Value) (an:Option Addr) (cdv ct:Value) (us:List Value),(us ++ ds).length = ps.length →
      ∃g:Option (Array Value)->Sem (List (Str×Value)),bindArgs (PySem.W.fnOf x qual (ZbY st) (Zbj st) (Zah st) (.ref T) kV doc pm an cdv ct) ⟨us,[]⟩=seqItems? (.ref T) >>= g/\g (some items)=pure (ps.zip (us++ds))):Binds K fd ps ds:=by
  obtain ⟨oc,od,kV,doc,pm,an,cdv,ct,osl,rfl,lk,hcd⟩:=F.ex
  obtain ⟨tc,td,n,tsl,lt⟩:=F.tp
  intro s us KX hl
  obtain ⟨g,h1,h2⟩:=h kV doc pm an cdv ct us hl
  exact .of_defaults rfl (KX _ _ lt) rfl h1 h2
structure HereD (K:PySem.W.Frag) (C:Addr) (m qual:Str) (st:Stmt) (items:Array Value):Prop where
  ex:∃(f:Addr) (fd:FuncData) (T:Addr),FunD K m qual st f fd T items/\Meth K C m f
theorem HereD.hasM(h:HereD K C m qual st items)(hv:Vals dvs ds)(b:∀f fd T,FunD K m qual st f fd T items->Binds K fd ps ds)(ok:∀f fd T,FunD K m qual st f fd T items->FnOk P w K mg base CX0 k f fd ps sp):HasM P w K mg base C m k ps dvs sp :=
  let ⟨f,fd,T,F,M⟩:=h.ex
  ⟨f,fd,ds,ok f fd T F,M,b f fd T F,hv⟩
theorem HereD.hasMX(h:HereD K C m qual st items)(hv:Vals dvs ds)(b:∀f fd T,FunD K m qual st f fd T items->Binds K fd ps ds)(ok:∀f fd T,FunD K m qual st f fd T items->FnOk P w K mg base (CXx P w) k f fd ps sp):HasMX P w K mg base C m k ps dvs sp :=
  let ⟨f,fd,T,F,M⟩:=h.ex
  ⟨f,fd,ds,ok f fd T F,M,b f fd T F,hv⟩
theorem hereD_mk{oc:Value}{od an:Option Addr}{osl:Array (Option Value)}{kV doc pm cdv ct tc:Value}{td:Option Addr}{n:Nat}{tsl:Array (Option Value)}(a:PySem.W.findIn K (.ref C) m=some (some (.ref f)))(i:PySem.W.isFn K (.ref f)=true)
    (l:K.lookup f=some ⟨oc,od,.func (PySem.W.fnOf m qual (ZbY st) (Zbj st) (Zah st) (.ref T) kV doc pm an cdv ct),osl⟩) (lt:K.lookup T=some ⟨tc,td,.seq items n,tsl⟩)
    (c:PySem.W.codeIn K cdv qual=true) (k:PySem.W.keepIn K (.ref f)=true):HereD K C m qual st items:=⟨f,_,T,⟨⟨oc,od,kV,doc,pm,an,cdv,ct,osl,rfl,l,c⟩,⟨tc,td,n,tsl,lt⟩,k⟩,a,i,k⟩
end
theorem Zlu{us:List Value}(h:us.length=1):∃a,us=[a]:=match us,h with | [a],_=>⟨a,rfl⟩
theorem Zed{us:List Value}(h:us.length=2):∃a b,us=[a,b]:=match us,h with | [a,b],_=>⟨a,b,rfl⟩
theorem Zei{us:List Value}(h:us.length=3):∃a b c,us=[a,b,c]:=match us,h with | [a,b,c],_=>⟨a,b,c,rfl⟩
theorem Zom{us:List Value}(h:us.length=4):∃a b c d,us=[a,b,c,d]:=match us,h with | [a,b,c,d],_=>⟨a,b,c,d,rfl⟩
end L2
namespace L2
open PySem PySem.Spec PyProof.Rows
section
variable{X:Cx}{pins:List (Addr×Obj)}{σ:St}{H:Hp}{s:Shared}{h':Heap}{fp:List Addr}{t':Nat}
theorem Inv.multi(I:Inv X pins σ H s)(hf:∀b∈fp,ZiE X pins H b)(k:∀c o,c∉fp->s.heap.get? c=some o->h'.get? c=some o):Inv X pins σ H { s with heap:=h',toks:=t' }:=by
  refine I.call (ch:=fp) ⟨λb o q n hb hx=>k b o hx q,λb o q n hb hx=>⟨o.slots,k b o hx q⟩,λb o q n hx=>n,λb o q hx=>⟨o,k b o hx q⟩,λ_ _ q=>q,λ_ _ _ q=>q,λb ps q=>⟨#[],by rw[q]; simp⟩⟩ (λb u q=>?_) I.bare λb hb=>?_
  · refine (I.hok b u q).stay (λc v hc z=>k c v (λm=>?_) z) (λ_ z=>z) λ_ _ z=>z
    rcases hc with rfl | hc
    · rw[(hf c m).1] at q; cases q
    · rw[(hf c m).1] at hc; cases hc
  · obtain ⟨_,a,_,b,c,d⟩:=hf b hb
    exact ⟨b,a,c,d⟩
theorem Inv.multiT{T:Addr}{xs:List V}{its:List Value}(I:Inv X pins σ H s)(hf:∀b∈fp,ZiE X pins H b)(k:∀c o,c∉fp->s.heap.get? c=some o->h'.get? c=some o)(hT:s.heap.objs.size<=T)(ht:IsTup h' T its.toArray)(r:Vals xs its)(hz:xs.length<=sizeLine) :
    Inv X pins σ (upd H T (.tup xs)) { s with heap:=h',toks:=t' }:=by
  have nT:=I.hok.fresh hT
  have nx:∀b u,H b=some u->b≠T:=λb u q z=>by subst z; rw[nT] at q; cases q
  refine I.call (ch:=fp) ⟨λb o q n hb hx=>k b o hx q,λb o q n hb hx=>⟨o.slots,k b o hx q⟩,λb o q n hx=>?_,λb o q hx=>⟨o,k b o hx q⟩,λb _ q=>by rw[Zap (nx b _ q)]; exact q,λb _ _ q=>by rw[Zap (nx b _ q)]; exact q,λb ps q=>⟨#[],by rw[Zap (nx b _ q),q]; simp⟩⟩ (λb u q=>?_) I.bare λb hb=>?_
  · rw[Zap (Qa (Q6 (Heap.lt_size q) hT))]; exact n
  · by_cases hb:b=T
    · subst hb
      rw[Zae] at q
      cases q
      exact ⟨hz,its,r,ht⟩
    · rw[Zap hb] at q
      refine (I.hok b u q).stay (λc v hc z=>k c v (λm=>?_) z) (λc z=>by rw[Zap (nx c _ z)]; exact z) λc _ z=>by rw[Zap (nx c _ z)]; exact z
      rcases hc with rfl | hc
      · rw[(hf c m).1] at q; cases q
      · rw[(hf c m).1] at hc; cases hc
  · obtain ⟨_,a,_,b,c,d⟩:=hf b hb
    exact ⟨b,a,c,d⟩
end
def Itz(K:PySem.W.Frag)(a b:Addr):It :=
  ⟨λi H=>∃xs ys x y,SqL K H a xs/\SqL K H b ys/\xs[i]?=some x/\ys[i]?=some y,
   λi H v H'=>∃T,H T=none/\v = .ref T/\∃x y,(∀xs,SqL K H a xs->xs[i]?=some x)/\(∀ys,SqL K H b ys->ys[i]?=some y)/\H'=upd H T (.tup [x,y]),
   λi H=>∃xs ys,SqL K H a xs/\SqL K H b ys/\(xs.length<=i\/ys.length<=i)⟩
theorem Zlv{P:Program}{w:World}{K:PySem.W.Frag}{elts:List Expr}{k0}{pos:Pos}{a b z TI TO i1 i2:Addr}(D:ZipApart z TI TO i1 i2 a b) :
    Turn P w K (.Tuple elts k0 pos) (Itz K a b) [z,TI,TO,i1,i2] z (λi h=>IsZip h z TI TO .none/\IsPair h TI (.ref i1) (.ref i2)/\(∃p q,IsPair h TO p q)/\h.IsListIter i1 a i/\h.IsListIter i2 b i) where
  mem:=by simp
  obj:=λi h ⟨hz,hTI,⟨p,q,hTO⟩,⟨o1,e1,_,d1⟩,⟨o2,e2,_,d2⟩⟩ c hc=>by
    simp only[Q8,Qz,or_false] at hc
    rcases hc with rfl | rfl | rfl | rfl | rfl
    · exact ⟨_,hz,λv e=>nomatch (show Data.fields _=Data.cell v from e)⟩
    · exact ⟨_,hTI,λv e=>nomatch (show Data.seq _ _=Data.cell v from e)⟩
    · exact ⟨_,hTO,λv e=>nomatch (show Data.seq _ _=Data.cell v from e)⟩
    · exact ⟨o1,e1,λv e=>by rw[d1] at e; cases e⟩
    · exact ⟨o2,e2,λv e=>by rw[d2] at e; cases e⟩
  keep:=λi h h' ⟨hz,hTI,⟨p,q,hTO⟩,h1,h2⟩ k =>
    ⟨k z (by simp) _ hz,k TI (by simp) _ hTI,⟨p,q,k TO (by simp) _ hTO⟩,h1.at λo e=>k i1 (by simp) o e,h2.at λo e=>k i2 (by simp) o e⟩
  item:=by
    intro X hP hw hK hc i pins s σ H E I hf ⟨hz,hTI,⟨p,q,hTO⟩,h1,h2⟩ hg
    subst hP hw hK
    obtain ⟨xs,ys,x,y,hq1,hq2,hx,hy⟩:=hg
    obtain ⟨its,rv,pl,_⟩:=I.list hq1
    obtain ⟨jts,rw',pl2,_⟩:=I.list hq2
    obtain ⟨u,hu,ru⟩:=rv.get hx
    obtain ⟨v,hv,rw2⟩:=rw'.get hy
    refine wpAny_pyNext_zip_item D hz hTI hTO h1 h2 pl.isList pl2.isList (x:=u) (y:=v) (by simpa using hu) (by simpa using hv) λh' a1 a2 a3 a4 a5 a6 a7=>?_
    refine ⟨_,rfl,wpAny_letOwnedTupleGo_zip (s:={ s with heap:=h' }) a1 λh2' b1 b2=>?_⟩
    have kz:∀c o,c∉[z,TI,TO,i1,i2]->s.heap.get? c=some o->h2'.get? c=some o:=λc o hc e=>by
      simp only[Q8,Qz,or_false,not_or] at hc
      obtain ⟨n1,n2,n3,n4,n5⟩:=hc
      exact b2.extBut _ _ n1 (a7 c o n1 n3 n4 n5 e)
    have nTz:s.heap.objs.size≠z:=Wn (Heap.lt_size hz)
    have fresh:=I.hok.fresh (Q1 s.heap.objs.size)
    have I2:Inv X pins σ (upd H s.heap.objs.size (.tup [x,y])) { s with heap:=h2' }:=I.multiT (t':=s.toks) (its:=[u,v]) hf kz (Q1 _) ⟨_,b2.extBut _ _ nTz a5,rfl,_,rfl⟩ (.cons ru (.cons rw2 .nil)) (by show 2<=sizeLine; decide)
    refine ⟨.ref s.heap.objs.size,_,I2,rfl,⟨_,fresh,rfl,x,y,λxs' e=>by rw[I.list_inj e hq1]; exact hx,λys' e=>by rw[I.list_inj e hq2]; exact hy,rfl⟩,⟨b1,?_,⟨u,v,?_⟩,a3.extBut b2.extBut D.i1z,a4.extBut b2.extBut D.i2z⟩,λc hc=>?_⟩
    · exact b2.extBut _ _ D.TIz (a7 _ _ D.TIz D.TITO D.TIi1 D.TIi2 hTI)
    · exact b2.extBut _ _ D.TOz a2
    · have lt:c<s.heap.objs.size:=by
        simp only[Q8,Qz,or_false] at hc
        obtain ⟨_,e1,_⟩:=id h1
        obtain ⟨_,e2,_⟩:=id h2
        rcases hc with rfl | rfl | rfl | rfl | rfl
        · exact Heap.lt_size hz
        · exact Heap.lt_size hTI
        · exact Heap.lt_size hTO
        · exact Heap.lt_size e1
        · exact Heap.lt_size e2
      rw[Zap (Qa lt)]
      exact (hf c hc).1
  done:=by
    intro X hP hw hK hc i pins s σ H E I hf ⟨hz,hTI,⟨p,q,hTO⟩,h1,h2⟩ hg
    subst hP hw hK
    obtain ⟨xs,ys,hq1,hq2,hx⟩:=hg
    obtain ⟨its,rv,pl,_⟩:=I.list hq1
    obtain ⟨jts,rw',pl2,_⟩:=I.list hq2
    have l1:=rv.length
    have l2:=rw'.length
    refine wpAny_pyNext_zip_end (I.ok.hd hc) D hz hTI hTO h1 h2 pl.isList pl2.isList ?_ λh' k=>⟨rfl,I.multi (t':=s.toks) hf λc o hc e=>?_⟩
    · rcases hx with hx | hx
      · left; simp; omega
      · right; simp; omega
    · simp only[Q8,Qz,or_false,not_or] at hc
      obtain ⟨n1,n2,n3,n4,n5⟩:=hc
      exact k c o n1 n3 n4 n5 e
  self:=λ_ _ _ _ _ ⟨hz,_⟩ h=>wpAny_pyIter_zip hz h
section
variable{X:Cx}
def Zqk(K:PySem.W.Frag)(ta:TA):TI:=λσ H R=>ta σ H λvs H1=>∃a b,vs=[.ref a,.ref b]/\(∃xs,SqL K H1 a xs)/\(∃ys,SqL K H1 b ys)/\R (Itz K a b) H1
theorem Zfv{e1 e2:Expr}{elts:List Expr}{k0}{tpos:Pos}{ta:TA}{p pos:Pos}(hg:Gl X "zip") (hm:X.mg "zip" = none) (ha:PA X [e1,e2] ta) (hs:starEach [e1,e2] X.env=[(false,eval e1 X.env),(false,eval e2 X.env)]:=by rfl) (hs2:starEach [e2] X.env=[(false,eval e2 X.env)]:=by rfl) :
    PI X (.Tuple elts k0 tpos) (.Call (.Name "zip" p) [e1,e2] [] pos) (Zqk X.K ta):=by
  intro pins s σ H R I h
  refine wpAny_Call_Name_kw (Zc0 I hg hm PyProof.Rows.Boot.«zip» (PyProof.Rows.callWith_type1 (thn (ha pos pins s σ H _ I h) λus s1 ⟨vs,H1,I1,r1,q1⟩=>?_) (by rw[hs,hs2]) (by rw[hs2]; rfl)))
  obtain ⟨a,b,e,⟨xs,hq1⟩,⟨ys,hq2⟩,q⟩:=q1
  subst e
  obtain ⟨u,v,rfl,ru,rv⟩:=Zju r1
  cases (show u=Value.ref a from ru)
  cases (show v=Value.ref b from rv)
  obtain ⟨its,_,pl,_⟩:=I1.list hq1
  obtain ⟨jts,_,pl2,_⟩:=I1.list hq2
  have la:a<s1.heap.objs.size:=by obtain ⟨o,e,_⟩:=pl.isList; exact Heap.lt_size e
  have lb:b<s1.heap.objs.size:=by obtain ⟨o,e,_⟩:=pl2.isList; exact Heap.lt_size e
  refine call_zip_2 pl.isList pl2.isList λh' hz hTI hTO h1 h2 hsz k=>?_
  refine wpAny_pyIter_zip (s:={ s1 with heap:=h' }) hz ?_
  refine ⟨_,[s1.heap.objs.size+4,s1.heap.objs.size+2,s1.heap.objs.size+3,s1.heap.objs.size,s1.heap.objs.size+1],_,_,H1,rfl,I1.kept (t':=s1.toks) k,Zlv (zipApart_new la lb),⟨hz,hTI,⟨_,_,hTO⟩,h1,h2⟩,λc hc=>?_,q⟩
  have hc':s1.heap.objs.size<=c:=by
    simp only[Q8,Qz,or_false] at hc
    rcases hc with rfl | rfl | rfl | rfl | rfl <;> omega
  exact I1.fpOk hc' (I1.hok.fresh hc')
end
theorem Zhl{K:PySem.W.Frag}{a b:Addr}{xs ys:List V}{g:TG}{tb:TS}{D:Ends}{σ:St}{H:Hp}(Pv:Nat->St->Hp->Prop)(h0:Pv 0 σ H)(hl:∀i σ H,Pv i σ H->SqL K H a xs/\SqL K H b ys)
    (hs:∀i x y T σ H,xs[i]?=some x->ys[i]?=some y->H T=none->Pv i σ H->g (.ref T) σ (upd H T (.tup [x,y])) λσ2 H2=>tb { D with nx:=Pv (i+1),ct:=Pv (i+1),bk:=D.nx } σ2 H2) (hd:∀i σ H,i=min xs.length ys.length->Pv i σ H->D.nx σ H) :
    ∃W:Nat->Nat->St->Hp->Prop,(∃m,W 0 m σ H)/\∀i m σ H,W i m σ H →
      ((Itz K a b).stop i H/\D.nx σ H)\/((Itz K a b).go i H/\∃N:St->Hp->Prop,(∀σ' H',N σ' H'->∃m',m'<m/\W (i+1) m' σ' H')/\∀x H',(Itz K a b).yld i H x H'->g x σ H' λσ2 H2=>tb { D with nx:=N,ct:=N,bk:=D.nx } σ2 H2):=by
  refine ⟨λi m σ H=>m=min xs.length ys.length-i/\i<=min xs.length ys.length/\Pv i σ H,⟨_,rfl,Qd _,h0⟩,?_⟩
  rintro i m σ H ⟨rfl,hi,p⟩
  obtain ⟨q1,q2⟩:=hl i σ H p
  by_cases hlt:i<min xs.length ys.length
  · have l1:i<xs.length:=by omega
    have l2:i<ys.length:=by omega
    refine .inr ⟨⟨xs,ys,xs[i],ys[i],q1,q2,by simp[l1],by simp[l2]⟩,Pv (i+1),λσ' H' p'=>⟨min xs.length ys.length-(i+1),by omega,rfl,hlt,p'⟩,λx H' y=>?_⟩
    obtain ⟨T,nT,rfl,u,v,e1,e2,rfl⟩:=y
    exact hs i u v T σ H (e1 xs q1) (e2 ys q2) nT p
  · exact .inl ⟨⟨xs,ys,q1,q2,by omega⟩,hd i σ H (by omega) p⟩
section
variable{caps:List (Nat×Str)}{te:TE}
theorem Zon{x y:V}{cs:List (Option V)}:∀(i:Nat) v,((none:Option V)::none::cs)[i]?=some (some v)->((some x)::(some y)::cs)[i]?=some (some v)
  | 0,v,h=>by simp at h
  | 1,v,h=>by simp at h
  | i+2,v,h=>by simpa using h
end
end L2
namespace L2
open PySem PySem.Spec PyProof.Rows
theorem Zc2(n:Nat):(List.range n).all (λ_=>true)=true:=by simp
def Bits(n:Nat)(i:Int):Prop:=Builtin.Int.intBits i<=n
theorem Zhm(i:Int):(PySem.W.WData.int i).weight=Builtin.Int.intBits i:=by
  simp only[PySem.W.WData.weight,Builtin.Int.intBits]
theorem Zfw:∀(ns:List Int) (n:Nat),PySem.W.WData.weightAll (ns.map PySem.W.WData.int)<=n->∀i∈ns,Bits n i
  | [],_,_,_,h=>nomatch h
  | j::ns,n,hw,i,h=>by
    simp only[W1,PySem.W.WData.weightAll] at hw
    rcases Q8.mp h with rfl | h
    · show Builtin.Int.intBits i<=n
      rw[<-Zhm]; omega
    · exact Zfw ns n (by omega) i h
theorem ZgN{l:PySem.W.OpenLaw}{n:Nat}{q:Program}{loose:List Str}{XP:(Str->Option Value)->Heap->Prop}{YP:World->Heap->Prop}{d:DefRec}
    (hn:l.most=some n) (hdf:d.params.defaults=[])
    (call:∀(w:World) (s₀ s₁:Shared) (mg mb:Str->Option Value) (fa:Addr) (a:Addr) (vs:List Value) (ns:List Int),
      PySem.W.Ground q loose [] XP w s₀ mg mb s₁.heap->YP w s₁.heap->mg d.name=some (.ref fa) →
      s₁.heap.get? a=some { cls:=.type "list", data:=.seq vs.toArray }->IntsAre vs ns->ns.length<=n->(∀i∈ns,Bits 1048576 i)->s₁.gens=#[] →
      codeAny (model l.prog w) callerA (.call (.ref fa) ⟨[.ref a],[]⟩) (λr s'=>r = .ok (.ret (.bool true))/\OldK s₁.heap s'.heap/\s'.os=s₁.os/\AllBare s'.gens) s₁) :
    PySem.W.WalkO q loose XP YP l.row.toRowW d [] (λf vs=>PySem.call f vs):=by
  refine λw s₀ s₁ mg mb G Y fa o pm cd doc dV kV ho hd hcd hD hmg hg args vals as hpre hlay hrd hwl hlo=>?_
  have hb:∀(a:Addr) (vs:List Value) (ns:List Int),vals=[Value.ref a]->args=[PySem.W.WData.list (ns.map PySem.W.WData.int)]->∀i∈ns,Bits 1048576 i:=by
    rintro a vs ns-rfl
    refine Zfw ns _ ?_
    have h1:(PySem.W.WData.list (ns.map PySem.W.WData.int)).layable=true:=(PySem.W.layW_cons hlay).1
    unfold PySem.W.WData.layable at h1
    simp only[Bool.and_eq_true,decide_eq_true_eq] at h1
    have:=h1.2
    simp only[PySem.W.WData.weight] at this
    exact this
  obtain rfl:dV = .none:=PySem.W.Dflts.none hD hdf
  obtain rfl:kV = .none:=PySem.W.Dflts.noKw hD
  obtain ⟨a,vs,ns,rfl,rfl,hobj,hints,hlen⟩:=Att.script_of hn hpre hwl
  refine PySem.W.enter_call (codeAny_mono (call w s₀ s₁ mg mb fa a vs ns G Y hmg hobj hints hlen (hb a vs ns rfl rfl) hg) λr s' hq=>?_)
  obtain ⟨rfl,h2,h3,h4⟩:=hq
  exact ⟨.inl ⟨.bool true,.bool true,[],rfl,λ_=>rfl,.bool true,Att.post_true l _,λ_=>⟨List.Pairwise.nil,λ_ hm=>(nomatch hm)⟩⟩,h2,h3,h4⟩
theorem walk_ofB{l:PySem.W.OpenLaw}{n k:Nat}{q:Program}{loose:List Str}{XP:(Str->Option Value)->Heap->Prop}{YP:World->Heap->Prop}{d:DefRec}{K:Params->PySem.W.Frag}{CX:World->CXT}{sp:World->Sp}{x:Str}
    (hn:l.most=some n) (hn2:n<=sizeLine) (hdf:d.params.defaults=[]) (hr:Room k callerA)
    (hY:∀(w:World) (h:Heap),YP w h->(K w.params).In h)
    (F:∀(w:World) (mg:Str->Option Value) (fa:Addr) (h:Heap),(K w.params).In h->h.Ns mainGlobals mg->mg d.name=some (.ref fa) →
      ∃fd:FuncData,(∀(s:Shared) (u:Value),BindsTo s fd ⟨[u],[]⟩ [(x,u)]) ∧
        ∀base:Heap,(K w.params).In base->base.Ns mainGlobals mg->FnOk l.prog w (K w.params) mg base (CX w) k fa fd [x] (sp w))
    (hsp:∀(w:World) (H:Hp) (a:Addr) (ns:List Int),ns.length<=n->(∀i∈ns,Bits 1048576 i)->Zo6 H->SqL (K w.params) H a (ns.map V.int)->sp w [.ref a] H (λv _=>v = .bl true) λ_ _ _=>False)
    (hCX:∀(w:World) (H:Hp) (s:Shared) (e:Value) (s':Shared),CX w [] H s (λ_ _ _=>False) e s'->False) :
    PySem.W.WalkO q loose XP YP l.row.toRowW d [] (λf vs=>PySem.call f vs):=by
  refine ZgN hn hdf λw s₀ s₁ mg mb fa a vs ns G Y hmg hobj hints hlen hbits hg=>?_
  have KX:=hY w _ Y
  obtain ⟨fd,hb,hF⟩:=F w mg fa _ KX G.T.g hmg
  exact Zig KX G.T.g G.T.b G.T.builtins G.T.nolimit hg hobj hints (Q2 hlen hn2) hr hF hb (λH hO hS=>hsp w H a ns hlen hbits hO hS) λH e s'=>hCX w H s₁ e s'
theorem Bits.lt{n:Nat}{i:Int}(h:Bits n i):i.natAbs<2^n:=by
  unfold Bits Builtin.Int.intBits at h
  by_cases h0:i=0
  · subst h0; exact Ua (by simp)
  · have:i.natAbs.log2+1<=n:=by simpa [h0] using h
    exact (Nat.log2_lt (by omega)).mp (by omega)
theorem Bits.of{n:Nat}{i:Int}(h:i.natAbs<2^n):Bits n i:=Zc6 h
theorem Bits.cell{n:Nat}{c k:Int}(h:Bits n c)(h0:0<=k)(h1:k<256):Bits (n+17) (c*(k+2)+k*k):=by
  refine Bits.of ?_
  have hc:=h.lt
  have e1:(c*(k+2)).natAbs<=c.natAbs*258:=by
    rw[Qs]
    exact Wr _ (by omega)
  have e2:(k*k).natAbs<=256*256:=by
    rw[Qs]
    exact W9 (by omega) (by omega)
  have e3:2^(n+17)=2^n*131072:=by rw[Um]
  have e4:1<=2^n:=Ua (by simp)
  rw[e3]
  generalize 2^n=P at *
  omega
theorem Bits.mul{i j:Int}(h:Bits 2097152 i)(h':Bits 2097152 j):IntMulOk i j:=by
  have h1:Builtin.Int.intBits i<=2097152:=h
  have h2:Builtin.Int.intBits j<=2097152:=h'
  have h3:Builtin.Int.intTooBig (Builtin.Int.intBits i+Builtin.Int.intBits j)=false:=by
    unfold Builtin.Int.intTooBig
    rw[bitsLine_eq]
    exact decide_eq_false (by omega)
  unfold IntMulOk
  rw[h3]
  simp
end L2
namespace L2
open PySem PySem.Spec PyProof.Rows
section
variable{X:Cx}
theorem ZfH(K:PySem.W.Frag)(h:X.K=K):IxR X (Zpo K):=by subst h; exact Zau
theorem ZfI(K:PySem.W.Frag)(h:X.K=K):IxR X (Zo5 K):=by subst h; exact Zal
theorem Zdu(K:PySem.W.Frag)(h:X.K=K):CallR X (.type "list") (λxs H Q=>∃p ys,xs=[.ref p]/\(SqL K H p ys\/SqT K H p ys)/\∀l,H l=none->Q (.ref l) (upd H l (.lst ys))):=by subst h; exact Zct
structure CxIs (X:Cx) (P:Program) (w:World) (K:PySem.W.Frag) (mg:Str->Option Value) (base:Heap):Prop where
  p:X.prog=P
  w:X.w=w
  k:X.K=K
  m:X.mg=mg
  b:X.base=base
variable{o e:Expr}{es:List Expr}{m:Str}{apos pos:Pos}{ta:TE}{t:TA}{k:Nat}{E:St->XK}
theorem ZjX{pl:Sem Bool}{P:Program}{w:World}{K:PySem.W.Frag}{mg:Str->Option Value}{base:Heap}(hX:CxIs X P w K mg base)(he:PE X o ta)(hx:ZiR X E)(hr:Room k X.A)(ha:PA X (e::es) t)
    (hst:starEach (e::es) X.env=(false,eval e X.env)::starEach es X.env:=by rfl) (hpl:(backTo pos (starEach es X.env)).any (·.1)=false:=by rfl)
    (ht:eval (.Call (.Attribute o m apos) (e::es) [] pos) X.env=(do
      let ov ← eval o X.env
      standAt apos.atName
      let (f,first) ← holding [ov] (getMethod ov m pl)
      callWith pos f first (backTo pos (starEach (e::es) X.env)) (backToKw pos (keywordEach [] X.env))):=by rfl) :
    PE X (.Call (.Attribute o m apos) (e::es) [] pos) (Zmo P w K mg base m k E ta t):=by
  obtain ⟨rfl,rfl,rfl,rfl,rfl⟩:=hX
  exact ZaH he hx hr ha hst hpl ht
theorem Zdv{pl:Sem Bool}{P:Program}{w:World}{K:PySem.W.Frag}{mg:Str->Option Value}{base:Heap}(hX:CxIs X P w K mg base)(he:PE X o ta)(hr:Room k X.A)(ha:PA X (e::es) t)
    (hst:starEach (e::es) X.env=(false,eval e X.env)::starEach es X.env:=by rfl) (hpl:(backTo pos (starEach es X.env)).any (·.1)=false:=by rfl)
    (ht:eval (.Call (.Attribute o m apos) (e::es) [] pos) X.env=(do
      let ov ← eval o X.env
      standAt apos.atName
      let (f,first) ← holding [ov] (getMethod ov m pl)
      callWith pos f first (backTo pos (starEach (e::es) X.env)) (backToKw pos (keywordEach [] X.env))):=by rfl) :
    PE X (.Call (.Attribute o m apos) (e::es) [] pos) (Zmn P w K mg base m k ta t):=by
  obtain ⟨rfl,rfl,rfl,rfl,rfl⟩:=hX
  exact ZaK he hr ha hst hpl ht
end
end L2
namespace L2
open PySem PySem.Spec PyProof.Rows
theorem ZfJ{X:Cx}{pos:Pos}(K:PySem.W.Frag)(h:X.K=K){es:List Expr}{k:Nat}{t:TGs}{n:Nat}(hc:X.calm=true)(h1:PGs X es t)
    (hn:(assignEach es X.env).length=n:=by rfl) (hst:(assignEach es X.env).findIdx? (·.1)=none:=by rfl):PG X (.Tuple es k pos) (Zo3 K n t):=by subst h; exact Zh9 hc h1 hn hst
theorem ZeG{caps:List (Nat×Str)}{te:TE}{K:PySem.W.Frag}{a b:Addr}{xs ys:List V}{σ:St}{H:Hp}{QL:List V->Hp->Prop}(Pv:Nat->List V->Hp->Prop)(hz:xs.length<=1000)(h0:Pv 0 [] H)(hl:∀i zs H,Pv i zs H->SqL K H a xs/\SqL K H b ys)
    (hs:∀i x y T zs H,xs[i]?=some x->ys[i]?=some y->zs.length=i->H T=none->Pv i zs H->te (some x::some y::caps.map λp=>(σ[p.1]?).join) (upd H T (.tup [x,y])) λv H'=>Pv (i+1) (zs++[v]) H')
    (hd:∀zs H,zs.length=min xs.length ys.length->Pv (min xs.length ys.length) zs H->QL zs H) :
    ZeD 2 caps (Zo3 K 2 (Zjo (Zb6 0) (Zjo (Zb6 1) Zpe))) te σ (Itz K a b) H QL:=by
  have hz':xs.length<sizeLine:=Zbu hz
  refine ⟨λi m zs H=>m=min xs.length ys.length-i/\i<=min xs.length ys.length/\zs.length=i/\Pv i zs H,⟨_,rfl,Qd _,rfl,h0⟩,?_⟩
  rintro i m zs H' ⟨rfl,hi,hy,p⟩
  obtain ⟨q1,q2⟩:=hl i zs H' p
  refine ⟨by omega,?_⟩
  by_cases hlt:i<min xs.length ys.length
  · have l1:i<xs.length:=by omega
    have l2:i<ys.length:=by omega
    refine .inr ⟨⟨xs,ys,xs[i],ys[i],q1,q2,by simp[l1],by simp[l2]⟩,by omega,λv H4=>Pv (i+1) (zs++[v]) H4,λv H4 p'=>⟨min xs.length ys.length-(i+1),by omega,rfl,hlt,by rw[Qc,hy]; rfl,p'⟩,λx H2 y=>?_⟩
    obtain ⟨T,nT,rfl,u,v,e1,e2,rfl⟩:=y
    exact ⟨T,[u,v],rfl,SqT.of Zae,rfl,u,_,rfl,v,_,rfl,rfl,Zon,hs i u v T zs H' (e1 xs q1) (e2 ys q2) hy nT p⟩
  · have e:i=min xs.length ys.length:=by omega
    subst e
    exact .inl ⟨⟨xs,ys,q1,q2,by omega⟩,hd zs H' hy p⟩
end L2
namespace L2
open PySem PySem.Spec PyProof.Rows
theorem Znb:10^1000<2^4000:=by decide +kernel
theorem Zql{i j:Int}(h:i.natAbs<=10^1000)(h':j.natAbs<=10^1000):IntMulOk i j :=
  .of_bits (Q2 (Zc6 (n:=4000) (Qk h Znb)) (by decide)) (Q2 (Zc6 (n:=4000) (Qk h' Znb)) (by decide))
theorem Zlw{j:Int}(h:j.natAbs<=10^1000):j.natAbs.log2<9000:=by
  rcases Nat.eq_zero_or_pos j.natAbs with z | z
  · rw[z]; decide
  · exact U9 ((Nat.log2_lt (Wn z)).mpr (Qk h Znb)) (by decide)
section
variable{X:Cx}
theorem Zel:OpR X (binaryOp .FloorDiv) (rI (λ_ j=>j≠0/\j.natAbs<=10^1000) λi j => .int (i.fdiv j)):=opI λ_ _ _ _ _ _ _ hc q=>floordiv_int hc.1 q (.inl (PyProof.noPylong_of_log2 (Zlw hc.2)))
theorem Zee:∀ {ns:List Int} {us:List Value},Vals (ns.map V.int) us->IntsAre us ns
  | [],_,.nil => .nil
  | _::_,_,.cons r t=>by obtain ⟨k,rfl⟩:=r; exact .cons _ _ (Zee t)
theorem Zlx(hc:X.calm=true):CallR X (.builtin "sum") (λxs H Q=>∃(p:Addr) (ns:List Int),xs=[.ref p]/\SqL X.K H p (ns.map V.int)/\Q (.int ns.sum) H):=by
  intro pins s σ H xs us Q I r h
  obtain ⟨p,ns,rfl,hq,q⟩:=h
  obtain ⟨u,rfl,rx⟩:=ZfB r
  cases rx
  obtain ⟨its,r',pl,hz⟩:=I.list hq
  have hi:=Zee r'
  obtain ⟨xs,e⟩:=hi.allInts.items
  have hs:(numsOf its).sum=ns.sum:=by rw[hi.numsOf]
  have e2:its=(intItems xs).toList:=by rw[<-e]
  rw[e2,nums_intItems] at hs
  refine sum_intListG (xs:=xs) (I.ok.hd hc) (by rw[<-e]; exact pl.isList) λh' tk t' hk=>?_
  rw[preSum_eq,Wt (by simp)]
  rw[hs]
  exact ⟨.int ns.sum,H,I.kept hk,⟨t',rfl⟩,q⟩
end
end L2
namespace L2
open PySem PySem.Spec PyProof.Rows
structure OneCell (scope:Scope) (x0:Str):Prop where
  one:∀y∈scope.names,y.2 = .cell->y.1=x0
  lk:scope.names.lookup x0=some .cell
  cf:∀n acc,cellsFrom n scope.names acc=(x0,n)::acc
  pc:∀h,pushCells h scope.names=h.push { cls:=.type "cell", data:=.cell none }
section
variable{X:Cx}{tg iter elt:Expr}{scope:Scope}{pos:Pos}{wi:TI}{g:TG}{te:TE}{own:List Str}{caps:List (Nat×Str)}{x0:Str}
end
end L2
namespace L2
open PySem PySem.Spec PyProof.Rows
section
variable{X:Cx}{k:Nat}{f C:Addr}{fd:FuncData}{ps:List Str}{sp:Sp}{dvs:List V}{ds:List Value}{E:St->XK}{x:Str}{p pos:Pos}{e:Expr}{es:List Expr}{t:TA}
end
end L2
namespace L2
open PySem PySem.Spec PyProof.Rows
@[irreducible] def PEI (X:Cx) (e:Expr) (t:TE):Prop:=PE X e t
@[irreducible] def PSI (X:Cx) (st:Stmt) (t:TS):Prop:=PS X st t
@[irreducible] def PSsI (X:Cx) (st:List Stmt) (t:TS):Prop:=PSs X st t
section
variable{X:Cx}{st:Stmt}{rest:List Stmt}{t u:TS}{e:Expr}{te:TE}{pos:Pos}
end
end L2
namespace L2
open PySem PySem.Spec PyProof.Rows
section
variable{X:Cx}
end
def Fl(H:Hp)(x:V)(d:PyData):Prop:=(x = .non/\d = .none)\/(∃b,x = .bl b/\d = .bool b)\/(∃i,x = .int i/\d = .int i)\/(∃y,x = .str y/\d = .str y)\/(∃a,x = .ref a/\d = .dict []/\H a=some (.dK []))
def Rp(H:Hp):Nat->V->PyData->Prop
  | 0,x,d=>Fl H x d
  | n+1,x,d=>Fl H x d\/(∃a xs ds,x = .ref a/\d = .list ds/\H a=some (.lst xs)/\xs.length=ds.length/\∀(i:Nat) u e,xs[i]?=some u->ds[i]?=some e->Rp H n u e) ∨
      (∃a xs ds,x = .ref a/\d = .tuple ds/\H a=some (.tup xs)/\xs.length=ds.length/\∀(i:Nat) u e,xs[i]?=some u->ds[i]?=some e->Rp H n u e)
theorem Fl.same{H H':Hp}{x:V}{d:PyData}(h:Fl H x d)(S:Same H H'):Fl H' x d:=by
  rcases h with h | h | h | h | ⟨a,e1,e2,h⟩
  · exact .inl h
  · exact .inr (.inl h)
  · exact .inr (.inr (.inl h))
  · exact .inr (.inr (.inr (.inl h)))
  · exact .inr (.inr (.inr (.inr ⟨a,e1,e2,S _ _ h⟩)))
theorem Rp.same{H H':Hp}(S:Same H H'):∀ {n:Nat} {x:V} {d:PyData},Rp H n x d->Rp H' n x d
  | 0,_,_,h=>Fl.same h S
  | n+1,x,d,h=>by
    rcases h with h | ⟨a,xs,ds,e1,e2,h,l,r⟩ | ⟨a,xs,ds,e1,e2,h,l,r⟩
    · exact .inl (Fl.same h S)
    · exact .inr (.inl ⟨a,xs,ds,e1,e2,S _ _ h,l,λi u e a b=>Rp.same S (r i u e a b)⟩)
    · exact .inr (.inr ⟨a,xs,ds,e1,e2,S _ _ h,l,λi u e a b=>Rp.same S (r i u e a b)⟩)
theorem Rp.up{H:Hp}:∀ {n:Nat} {x:V} {d:PyData},Rp H n x d->Rp H (n+1) x d
  | 0,_,_,h => .inl h
  | n+1,x,d,h=>by
    rcases h with h | ⟨a,xs,ds,e1,e2,h,l,r⟩ | ⟨a,xs,ds,e1,e2,h,l,r⟩
    · exact .inl h
    · exact .inr (.inl ⟨a,xs,ds,e1,e2,h,l,λi u e a b=>Rp.up (r i u e a b)⟩)
    · exact .inr (.inr ⟨a,xs,ds,e1,e2,h,l,λi u e a b=>Rp.up (r i u e a b)⟩)
theorem Rp.mono{H:Hp}{x:V}{d:PyData}{n m:Nat}(h:Rp H n x d)(l:n<=m):Rp H m x d:=by
  induction m with
  | zero => obtain rfl:n = 0:=by omega
            exact h
  | succ m ih =>
    by_cases e:n=m+1
    · subst e; exact h
    · exact (ih (by omega)).up
section
variable{X:Cx}{pins:List (Addr×Obj)}{σ:St}{H:Hp}{s:Shared}
theorem Zoo(I:Inv X pins σ H s){a:Addr}(h:H a=some (.dK [])):(a==sysModules)=false/\s.heap.DictOf (ZaE X.prog X.w) a []:=by
  obtain ⟨_,z,vs,kv,p⟩:=(show ObjOk X.prog X.w H s.heap a (.dK []) from I.hok a _ h)
  cases kv
  exact ⟨z,p⟩
theorem Zem{P P':Program}{w w':World}{h:Heap}{a:Addr}(d:h.DictOf (ZaE P w) a []):h.DictOf (ZaE P' w') a []:=by
  obtain ⟨o,es,ep,h1,h2,h3,h4,h5,h6⟩:=d
  refine ⟨o,es,ep,h1,h2,h3,?_,?_,h6⟩
  · have:es.toList=[]:=by cases q:es.toList with
      | nil=>rfl
      | cons x r=>rw[q] at h5; cases h5
    intro e he
    rw[Array.mem_def,this] at he
    cases he
  · cases q:es.toList with
    | nil=>exact .nil
    | cons x r=>rw[q] at h5; cases h5
theorem Fl.rc{A:Around}{x y:V}{v u:Value}{d:PyData}(I:Inv X pins σ H s)(hu:A.units<cLine)(hx:Fl H x d)(hy:Fl H y d)(rx:RelV x v)(ry:RelV y u):SeqAt.RcAt A s v u true/\SeqAt.RcNeAt A s v u false:=by
  rcases hx with ⟨rfl,rfl⟩ | ⟨b,rfl,rfl⟩ | ⟨i,rfl,rfl⟩ | ⟨z,rfl,rfl⟩ | ⟨a,rfl,rfl,ha⟩ <;> rcases hy with ⟨rfl,e⟩ | ⟨b',rfl,e⟩ | ⟨i',rfl,e⟩ | ⟨z',rfl,e⟩ | ⟨a',rfl,e,ha'⟩ <;> cases e
  · cases rx; cases ry; exact ⟨SeqAt.RcAt.none_none,SeqAt.RcNeAt.none_none⟩
  · cases rx; cases ry
    exact ⟨by have:=SeqAt.RcAt.bool_bool (A:=A) (s:=s) b b; simpa using this,by have:=SeqAt.RcNeAt.bool_bool (A:=A) (s:=s) b b; simpa using this⟩
  · obtain ⟨t1,rfl⟩:=rx
    obtain ⟨t2,rfl⟩:=ry
    exact ⟨by have:=SeqAt.RcAt.int_int (A:=A) (s:=s) i t1 i t2; simpa using this,by have:=SeqAt.RcNeAt.int_int (A:=A) (s:=s) i t1 i t2; simpa using this⟩
  · obtain ⟨t1,rfl⟩:=rx
    obtain ⟨t2,rfl⟩:=ry
    exact ⟨by have:=SeqAt.RcAt.str_str (A:=A) (s:=s) z t1 z t2; simpa using this,by have:=SeqAt.RcNeAt.str_str (A:=A) (s:=s) z t1 z t2; simpa using this⟩
  · cases rx; cases ry
    obtain ⟨n1,d1⟩:=Zoo I ha
    obtain ⟨n2,d2⟩:=Zoo I ha'
    refine ⟨λprog w E Q q=>?_,λprog w E Q q=>?_⟩
    · exact PySem.W.keq_eq (knd:=ZaE prog w) (r:=true) n1 n2 (Zem d1) (Zem d2) hu (λ_ => .nil) q
    · exact PySem.W.keq_ne (knd:=ZaE prog w) (r:=true) n1 n2 (Zem d1) (Zem d2) hu (λ_ => .nil) q
theorem Fl.at{A:Around}{x y:V}{v u:Value}{d:PyData}(I:Inv X pins σ H s)(hu:A.units<cLine)(hx:Fl H x d)(hy:Fl H y d)(rx:RelV x v)(ry:RelV y u):SeqAt.EqAt A s v u true:=by
  have rc:=(Fl.rc I hu hx hy rx ry).1
  rcases hx with ⟨rfl,rfl⟩ | ⟨b,rfl,rfl⟩ | ⟨i,rfl,rfl⟩ | ⟨z,rfl,rfl⟩ | ⟨a,rfl,rfl,ha⟩ <;> rcases hy with ⟨rfl,e⟩ | ⟨b',rfl,e⟩ | ⟨i',rfl,e⟩ | ⟨z',rfl,e⟩ | ⟨a',rfl,e,ha'⟩ <;> cases e
  · cases rx; cases ry; exact SeqAt.EqAt.same _
  · cases rx; cases ry; exact SeqAt.EqAt.same _
  · obtain ⟨t1,rfl⟩:=rx
    obtain ⟨t2,rfl⟩:=ry
    have:=SeqAt.EqAt.int_int (A:=A) (s:=s) i t1 i t2
    simpa using this
  · obtain ⟨t1,rfl⟩:=rx
    obtain ⟨t2,rfl⟩:=ry
    have:=SeqAt.EqAt.str_str (A:=A) (s:=s) z t1 z t2
    simpa using this
  · cases rx; cases ry
    by_cases hab:a=a'
    · subst hab; exact SeqAt.EqAt.same _
    · exact SeqAt.EqAt.of_refs hab rc
theorem Vals.at2{xs:List V}{its:List Value}(r:Vals xs its){j:Nat}(h:j<its.toArray.size):∃x,xs[j]?=some x/\RelV x its.toArray[j]:=by
  have l:=r.length
  have j1:j<xs.length:=by simp at h; omega
  obtain ⟨v1,e1,q1⟩:=r.get (i:=j) (x:=xs[j]) (by simp[j1])
  have f1:its.toArray[j]=v1:=by
    have:its[j]?=some its.toArray[j]:=by simp at h; simp[h]
    rw[this] at e1; exact Option.some.inj e1
  exact ⟨xs[j],by simp[j1],by rw[f1]; exact q1⟩
theorem ZaL{α β:Type}{xs:List α}{ds:List β}{j:Nat}{x:α}(h:xs[j]?=some x)(l:xs.length=ds.length):∃d,ds[j]?=some d:=by
  have:=(Qf.mp h).1
  exact ⟨ds[j]'(by omega),Q5 (by omega)⟩
theorem Rp.both(I:Inv X pins σ H s):∀(n:Nat) (A:Around) (x y:V) (v u:Value) (d:PyData),A.units+n<cLine->Rp H n x d->Rp H n y d->RelV x v->RelV y u->SeqAt.EqAt A s v u true/\SeqAt.RcAt A s v u true/\SeqAt.RcNeAt A s v u false
  | 0,A,x,y,v,u,d,hu,hx,hy,rx,ry=>⟨Fl.at I hu hx hy rx ry,Fl.rc I hu hx hy rx ry⟩
  | n+1,A,x,y,v,u,d,hu,hx,hy,rx,ry=>by
    have hu0:A.units<cLine:=by omega
    rcases hx with hx | ⟨a,xs,ds,rfl,rfl,ha,hl,hi⟩ | ⟨a,xs,ds,rfl,rfl,ha,hl,hi⟩
    · have hy':Fl H y d:=by
        rcases hy with hy | ⟨b,ys,es,rfl,rfl,hb,hm,hj⟩ | ⟨b,ys,es,rfl,rfl,hb,hm,hj⟩
        · exact hy
        · rcases hx with ⟨_,e⟩ | ⟨_,_,e⟩ | ⟨_,_,e⟩ | ⟨_,_,e⟩ | ⟨_,_,e,_⟩ <;> cases e
        · rcases hx with ⟨_,e⟩ | ⟨_,_,e⟩ | ⟨_,_,e⟩ | ⟨_,_,e⟩ | ⟨_,_,e,_⟩ <;> cases e
      exact ⟨Fl.at I hu0 hx hy' rx ry,Fl.rc I hu0 hx hy' rx ry⟩
    · obtain ⟨b,ys,rfl,hb,hm,hj⟩:∃b ys,y = .ref b/\H b=some (.lst ys)/\ys.length=ds.length/\∀(i:Nat) u e,ys[i]?=some u->ds[i]?=some e->Rp H n u e:=by
        rcases hy with hy | ⟨b,ys,es,e1,e2,hb,hm,hj⟩ | ⟨b,ys,es,e1,e2,hb,hm,hj⟩
        · rcases hy with ⟨_,e⟩ | ⟨_,_,e⟩ | ⟨_,_,e⟩ | ⟨_,_,e⟩ | ⟨_,_,e,_⟩ <;> cases e
        · cases e2; exact ⟨b,ys,e1,hb,hm,hj⟩
        · cases e2
      cases rx
      cases ry
      obtain ⟨its,r1,p1,_⟩:=I.list (SqL.of ha)
      obtain ⟨jts,r2,p2,_⟩:=I.list (SqL.of hb)
      have l1:=r1.length
      have l2:=r2.length
      have el:∀(j:Nat) (h1:j<its.toArray.size) (h2:j<jts.toArray.size),SeqAt.EqAt A.in1 s its.toArray[j] jts.toArray[j] true:=λj h1 h2=>by
        obtain ⟨x1,g1,q1⟩:=r1.at2 h1
        obtain ⟨x2,g2,q2⟩:=r2.at2 h2
        obtain ⟨d,gd⟩:=ZaL g1 hl
        exact (Rp.both I n A.in1 _ _ _ _ d (by show A.units+1+n<cLine; omega) (hi j _ _ g1 gd) (hj j _ _ g2 gd) q1 q2).1
      have rc:=SeqAt.RcAt.lists (A:=A) (e:=λ_=>true) p1.isList p2.isList (by simp; omega) hu0 el
      have rn:=SeqAt.RcNeAt.lists (A:=A) (e:=λ_=>true) p1.isList p2.isList (by simp; omega) hu0 el
      rw[Zc2] at rc rn
      refine ⟨?_,rc,rn⟩
      by_cases hab:a=b
      · subst hab; exact SeqAt.EqAt.same _
      · exact SeqAt.EqAt.of_refs hab rc
    · obtain ⟨b,ys,rfl,hb,hm,hj⟩:∃b ys,y = .ref b/\H b=some (.tup ys)/\ys.length=ds.length/\∀(i:Nat) u e,ys[i]?=some u->ds[i]?=some e->Rp H n u e:=by
        rcases hy with hy | ⟨b,ys,es,e1,e2,hb,hm,hj⟩ | ⟨b,ys,es,e1,e2,hb,hm,hj⟩
        · rcases hy with ⟨_,e⟩ | ⟨_,_,e⟩ | ⟨_,_,e⟩ | ⟨_,_,e⟩ | ⟨_,_,e,_⟩ <;> cases e
        · cases e2
        · cases e2; exact ⟨b,ys,e1,hb,hm,hj⟩
      cases rx
      cases ry
      obtain ⟨its,r1,p1,_⟩:=I.tuple (SqT.of ha)
      obtain ⟨jts,r2,p2,_⟩:=I.tuple (SqT.of hb)
      have l1:=r1.length
      have l2:=r2.length
      have el:∀(j:Nat) (h1:j<its.toArray.size) (h2:j<jts.toArray.size),SeqAt.EqAt A.in1 s its.toArray[j] jts.toArray[j] true:=λj h1 h2=>by
        obtain ⟨x1,g1,q1⟩:=r1.at2 h1
        obtain ⟨x2,g2,q2⟩:=r2.at2 h2
        obtain ⟨d,gd⟩:=ZaL g1 hl
        exact (Rp.both I n A.in1 _ _ _ _ d (by show A.units+1+n<cLine; omega) (hi j _ _ g1 gd) (hj j _ _ g2 gd) q1 q2).1
      have es:(its.toArray.size==jts.toArray.size)=true:=by simp; omega
      have rc:=SeqAt.RcAt.tuples (A:=A) (e:=λ_=>true) p1 p2 hu0 el
      have rn:=SeqAt.RcNeAt.tuples (A:=A) (e:=λ_=>true) p1 p2 hu0 el
      rw[Zc2,es] at rc rn
      refine ⟨?_,rc,rn⟩
      by_cases hab:a=b
      · subst hab; exact SeqAt.EqAt.same _
      · exact SeqAt.EqAt.of_refs hab rc
end
section
variable{X:Cx}{k:Nat}
def Zqm:R2:=λx y H Q=>∃d,Rp H 8 x d/\Rp H 8 y d/\Q (.bl true) H
theorem ZjY(hr:Room k X.A):OpR X (compareOp .Eq) Zqm:=by
  intro pins s σ H x y v u Q I rx ry h
  obtain ⟨d,hx,hy,q⟩:=h
  have hu:=hr.units
  exact (Rp.both I 8 X.A x y v u d (by omega) hx hy rx ry).2.1 _ _ _ _ ⟨.bl true,H,I,rfl,q⟩
end
end L2
namespace L2
open PySem PySem.Spec PyProof.Rows
section
variable{X:Cx}{es:List Expr}{te:TE}{t:TA}{p:Pos}{k:Nat}
end
def All2(R:V->PyData->Prop)(xs:List V)(ds:List PyData):Prop:=xs.length=ds.length/\∀(i:Nat) v d,xs[i]?=some v->ds[i]?=some d->R v d
section
variable{R R':V->PyData->Prop}{xs ys:List V}{ds es:List PyData}{x:V}{d:PyData}
theorem All2.nil:All2 R [] []:=⟨rfl,λi v d h=>by simp at h⟩
theorem All2.cons(h:R x d)(t:All2 R xs ds):All2 R (x::xs) (d::ds):=by
  refine ⟨by simp[t.1],λi v e hv he=>?_⟩
  cases i with
  | zero=>cases hv; cases he; exact h
  | succ i=>exact t.2 i v e (by simpa using hv) (by simpa using he)
theorem Zmp{H:Hp}{n:Nat}{a:Addr}(h:H a=some (.lst xs))(g:All2 (Rp H n) xs ds):Rp H (n+1) (.ref a) (.list ds):=.inr (.inl ⟨a,xs,ds,rfl,rfl,h,g.1,g.2⟩)
theorem Zop{H:Hp}{n:Nat}{a:Addr}(h:H a=some (.tup xs))(g:All2 (Rp H n) xs ds):Rp H (n+1) (.ref a) (.tuple ds):=.inr (.inr ⟨a,xs,ds,rfl,rfl,h,g.1,g.2⟩)
end
end L2
namespace L2
open PySem PySem.Spec PyProof.Rows
theorem Bits.le{n:Nat}{i j:Int}(h:Bits n j)(l:i.natAbs<=j.natAbs):Bits n i:=Bits.of (Qk l h.lt)
theorem Bits.up{n m:Nat}{i:Int}(h:Bits n i)(l:n<=m):Bits m i:=Q2 h l
theorem Bits.mulT{i j:Int}(h:Bits 1000000 i)(h':Bits 1000000 j):IntMulOk i j:=Bits.mul (h.up (by decide)) (h'.up (by decide))
theorem Bits.mulG{i j:Int}(h:Bits 1000000 i)(h':Bits 4000 j):IntMulOk i j:=h.mulT (h'.up (by decide))
theorem Bits.times{n m:Nat}{i j:Int}(h:Bits n i)(h':Bits m j):Bits (n+m) (i*j):=Bits.of (by
  rw[Qs,Um]
  exact Nat.mul_lt_mul'' h.lt h'.lt)
theorem Bits.plus{n:Nat}{i j:Int}(h:Bits n i)(h':Bits n j):Bits (n+1) (i+j):=Bits.of (by
  have:=Int.natAbs_add_le i j
  have a:=h.lt
  have b:=h'.lt
  rw[Wc]
  omega)
theorem Bits.log{n:Nat}{i:Int}(h:Bits n i)(h0:i≠0):i.natAbs.log2<n:=by
  have:i.natAbs.log2+1<=n:=by unfold Bits Builtin.Int.intBits at h; simpa [h0] using h
  omega
section
variable{X:Cx}
theorem ZbI:OpR X (binaryOp .FloorDiv) (rI (λ_ j=>j≠0/\Bits 4000 j) λi j => .int (i.fdiv j)):=opI λ_ _ _ _ _ _ _ hc q=>floordiv_int hc.1 q (.inl (PyProof.noPylong_of_log2 (U9 (hc.2.log hc.1) (by decide))))
end
end L2
namespace L2
open PySem PySem.Spec PyProof.Rows
def AllG{β:Type}(R:V->β->Prop)(xs:List V)(ds:List β):Prop:=xs.length=ds.length/\∀(i:Nat) v d,xs[i]?=some v->ds[i]?=some d->R v d
section
variable{β:Type}{R R':V->β->Prop}{xs ys:List V}{ds es:List β}{x:V}{d:β}
theorem AllG.nil:AllG R [] []:=⟨rfl,λi v d h=>by simp at h⟩
theorem AllG.cons(h:R x d)(t:AllG R xs ds):AllG R (x::xs) (d::ds):=by
  refine ⟨by simp[t.1],λi v e hv he=>?_⟩
  cases i with
  | zero=>cases hv; cases he; exact h
  | succ i=>exact t.2 i v e (by simpa using hv) (by simpa using he)
theorem AllG.mono(h:AllG R xs ds)(f:∀v d,R v d->R' v d):AllG R' xs ds:=⟨h.1,λi v d a b=>f v d (h.2 i v d a b)⟩
theorem AllG.append(h:AllG R xs ds)(g:AllG R ys es):AllG R (xs++ys) (ds++es):=by
  refine ⟨by rw[Qc,Qc,h.1,g.1],λi v e hv he=>?_⟩
  have l:=h.1
  by_cases hi:i<xs.length
  · rw[W2 hi] at hv
    rw[W2 (by omega)] at he
    exact h.2 i v e hv he
  · rw[W3 (by omega)] at hv he
    rw[<-l] at he
    exact g.2 _ v e hv he
theorem AllG.drop(h:AllG R xs ds)(n:Nat):AllG R (xs.drop n) (ds.drop n):=by
  refine ⟨by rw[Wp,Wp,h.1],λi v e hv he=>?_⟩
  rw[List.getElem?_drop] at hv he
  exact h.2 _ v e hv he
theorem AllG.set(h:AllG R xs ds)(n:Nat)(g:R x d):AllG R (xs.set n x) (ds.set n d):=by
  refine ⟨by rw[We,We,h.1],λi v e hv he=>?_⟩
  rw[Wu] at hv he
  have l:=h.1
  split at hv
  · rename_i hi
    rw[if_pos hi] at he
    split at hv
    · rename_i hl
      rw[if_pos (by omega)] at he
      cases hv; cases he; exact g
    · cases hv
  · rename_i hi
    rw[if_neg hi] at he
    exact h.2 i v e hv he
theorem AllG.one(h:R x d):AllG R [x] [d]:=.cons h .nil
theorem AllG.get(h:AllG R xs ds){i:Nat}(hv:xs[i]?=some x):∃d,ds[i]?=some d/\R x d:=by
  obtain ⟨d,e⟩:=ZaL hv h.1
  exact ⟨d,e,h.2 i x d hv e⟩
theorem AllG.get'(h:AllG R xs ds){i:Nat}(hi:i<ds.length):∃x,xs[i]?=some x/\R x ds[i]:=by
  have l:=h.1
  exact ⟨xs[i]'(by omega),Q5 (by omega),h.2 i _ _ (Q5 (by omega)) (Q5 hi)⟩
theorem AllG.at(h:AllG R xs ds){i:Nat}{b:β}(hd:ds[i]?=some b):∃x,xs[i]?=some x/\R x b:=by
  have l:=h.1
  have hi:=(Qf.mp hd).1
  exact ⟨xs[i]'(by omega),Q5 (by omega),h.2 i _ _ (Q5 (by omega)) hd⟩
theorem AllG.all2{D:β->PyData}{R2:V->PyData->Prop}(h:AllG R xs ds)(f:∀v b,R v b->R2 v (D b)):All2 R2 xs (ds.map D):=by
  refine ⟨by rw[Q0]; exact h.1,λi v d hv hd=>?_⟩
  rw[Qh] at hd
  cases e:ds[i]? with
  | none=>rw[e] at hd; cases hd
  | some b=>rw[e] at hd; cases hd; exact f v b (h.2 i v b hv e)
theorem AllG.zip{α:Type}{R3:V->α->Prop}{as:List α}(h:AllG R xs ds)(g:AllG R3 ys as){i:Nat}{a b:V}(ha:xs[i]?=some a)(hb:ys[i]?=some b):∃p q,ds[i]?=some p/\as[i]?=some q/\R a p/\R3 b q:=by
  obtain ⟨p,hp,rp⟩:=h.get ha
  obtain ⟨q,hq,rq⟩:=g.get hb
  exact ⟨p,q,hp,hq,rp,rq⟩
end
end L2
namespace L2
open PySem PySem.Spec PyProof.Rows
section
variable{X:Cx}{k:Nat}
theorem Zmq{x y:V}{us:List Value}(r:Vals [x,y] us):∃u v,us=[u,v]/\RelV x u/\RelV y v:=by
  cases r with
  | cons r t=>cases t with
    | cons r2 t2=>cases t2; exact ⟨_,_,rfl,r,r2⟩
end
end L2
namespace L2
open PySem PySem.Spec PyProof.Rows
def Itv(K:PySem.W.Frag)(a:Addr)(n:Nat):It :=
  ⟨λi H=>i<n/\∃xs,SqL K H a xs/\xs.length=n,λi H x H'=>H'=H/\∀xs,SqL K H a xs->xs[n-1-i]?=some x,λi _=>i=n⟩
theorem Zly{P:Program}{w:World}{K:PySem.W.Frag}{tg:Expr}(a it:Addr)(n:Nat):Turn P w K tg (Itv K a n) [it] it (λi h=>h.IsRevIter it a ((n:Int)-1-(i:Int))) where
  mem:=by simp
  obj:=λi h st b hb=>by
    have e:b=it:=by simpa using hb
    subst e
    obtain ⟨o,e,c,d⟩:=st
    exact ⟨o,e,λv z=>by rw[d] at z; cases z⟩
  keep:=λi h h' st k=>st.at λo e=>k it (by simp) o e
  item:=by
    intro X hP hw hK hc i pins s σ H E I hf st hg
    subst hP hw hK
    obtain ⟨hi,xs,hq,hn⟩:=hg
    obtain ⟨its,rv,p,hz⟩:=I.list hq
    have hx:xs[n-1-i]?=some (xs[n-1-i]'(by omega)):=Q5 (by omega)
    obtain ⟨u,hu,ru⟩:=rv.get hx
    obtain ⟨f0,f1,f2,f3,f4,f5⟩:=hf it (by simp)
    have e1:(n:Int)-1-(i:Int)=((n-1-i:Nat):Int):=by omega
    rw[e1] at st
    refine wpAny_pyNext_rev_item st p.isList (x:=u) (by simpa using hu) λh' st' sb=>?_
    have e2:((n-1-i:Nat):Int)-1=(n:Int)-1-((i+1:Nat):Int):=by omega
    rw[e2] at st'
    have I1:Inv X pins σ H { s with heap:=h' }:=I.turned (t':=s.toks) (λb o hb e=>(sb.2 b hb).trans e) f0 f1 f3 f4 f5
    obtain ⟨o,e,c,d⟩:=id st'
    exact ⟨u,rfl,Zlf (s:={ s with heap:=h' }) e c d (by decide) ⟨_,H,I1,ru,⟨rfl,λys hy=>by rw[I.list_inj hy hq]; exact hx⟩,st',λb hb=>(hf b hb).1⟩⟩
  done:=by
    intro X hP hw hK hc i pins s σ H E I hf st hg
    subst hP hw hK
    have hg:i=n:=hg
    subst hg
    obtain ⟨f0,f1,f2,f3,f4,f5⟩:=hf it (by simp)
    have e1:(i:Int)-1-(i:Int) = -1:=by omega
    rw[e1] at st
    exact wpAny_pyNext_rev_end (I.ok.hd hc) st λh' eb=>⟨rfl,I.turned (t':=s.toks) (λb o hb e=>eb b o hb e) f0 f1 f3 f4 f5⟩
  self:=λ_ _ _ _ _ st h=>wpAny_pyIter_revIter st h
section
variable{X:Cx}{tg:Expr}
def Zqn(K:PySem.W.Frag)(ta:TA):TI:=λσ H R=>ta σ H λvs H1=>∃a xs,vs=[.ref a]/\SqL K H1 a xs/\R (Itv K a xs.length) H1
theorem Zoq{e1:Expr}{ta:TA}{p pos:Pos}(hg:Gl X "reversed") (hm:X.mg "reversed" = none) (ha:PA X [e1] ta) (hs:starEach [e1] X.env=[(false,eval e1 X.env)]:=by rfl) :
    PI X tg (.Call (.Name "reversed" p) [e1] [] pos) (Zqn X.K ta):=by
  intro pins s σ H R I h
  refine wpAny_Call_Name_kw (Zc0 I hg hm PyProof.Rows.Boot.«reversed» (PyProof.Rows.callWith_type1 (thn (ha pos pins s σ H _ I h) λus s1 ⟨vs,H1,I1,r1,q1⟩=>?_) (by rw[hs]; rfl) (by rfl)))
  obtain ⟨a,xs,e,hq,q⟩:=q1
  subst e
  obtain ⟨u,rfl,ru⟩:=ZfB r1
  cases (show u=Value.ref a from ru)
  obtain ⟨its,rv,pl,_⟩:=I1.list hq
  have hl:=rv.length
  refine call_reversed_list pl.isList ?_
  have hI:({ s1 with heap:=s1.heap.push (revObj a ((its.toArray.size:Int)-1)) }:Shared).heap.IsRevIter s1.heap.objs.size a ((xs.length:Int)-1-((0:Nat):Int)):=by
    refine ⟨_,Heap.get?_push_size _ rfl,rfl,?_⟩
    have:(its.toArray.size:Int)-1=(xs.length:Int)-1-((0:Nat):Int):=by rw[Qb]; omega
    rw[<-this]; rfl
  refine wpAny_pyIter_revIter hI ?_
  refine ⟨s1.heap.objs.size,[s1.heap.objs.size],_,_,H1,rfl,I1.kept (t':=s1.toks) λb o e=>Heap.get?_push_of_some _ e,Zly a _ xs.length,hI,λb hb=>?_,q⟩
  have e:b=s1.heap.objs.size:=by simpa using hb
  subst e
  exact I1.fpOk (Q1 _) (I1.hok.fresh (Q1 _))
end
section
variable{X:Cx}{k:Nat}
end
end L2
namespace L2
open PySem PySem.Spec PyProof.Rows
section
variable{X:Cx}{tg iter elt:Expr}{scope:Scope}{pos:Pos}{wi:TI}{g:TG}{te:TE}{own:List Str}{caps:List (Nat×Str)}
end
end L2
namespace L2
open PySem PySem.Spec PyProof.Rows
def Zor(H:Hp)(x y:V)(b:Bool):Prop:=(∃i j:Int,x = .int i/\y = .int j/\b=decide (i=j)) ∨
  (∃(a c:Addr) (n1 d1 n2 d2:Int),x = .ref a/\y = .ref c/\H a=some (.tup [.int n1,.int d1])/\H c=some (.tup [.int n2,.int d2])/\b=(decide (n1=n2)&&decide (d1=d2)))
section
variable{X:Cx}{k:Nat}
def Zqo:R2:=λx y H Q=>∃b,Zor H x y b/\Q (.bl b) H
theorem Znc{pins:List (Addr×Obj)}{s:Shared}{σ:St}{H:Hp}{a c:Addr}{n1 d1 n2 d2:Int}{A:Around}(I:Inv X pins σ H s)(ha:H a=some (.tup [.int n1,.int d1]))(hc:H c=some (.tup [.int n2,.int d2]))(hu:A.units<cLine) :
    SeqAt.RcAt A s (.ref a) (.ref c) (decide (n1=n2)&&decide (d1=d2))/\SeqAt.RcNeAt A s (.ref a) (.ref c) (!(decide (n1=n2)&&decide (d1=d2))):=by
  obtain ⟨its,r1,p1,_⟩:=I.tuple (SqT.of ha)
  obtain ⟨u1,u2,rfl,ru1,ru2⟩:=Zmq r1
  obtain ⟨t1,rfl⟩:=ru1
  obtain ⟨t2,rfl⟩:=ru2
  obtain ⟨jts,r2,p2,_⟩:=I.tuple (SqT.of hc)
  obtain ⟨w1,w2,rfl,rw1,rw2⟩:=Zmq r2
  obtain ⟨s1,rfl⟩:=rw1
  obtain ⟨s2,rfl⟩:=rw2
  have el:∀(j:Nat) (h1:j<(#[Value.int n1 t1,Value.int d1 t2]:Array Value).size) (h2:j<(#[Value.int n2 s1,Value.int d2 s2]:Array Value).size),SeqAt.EqAt A.in1 s (#[Value.int n1 t1,Value.int d1 t2]:Array Value)[j] (#[Value.int n2 s1,Value.int d2 s2]:Array Value)[j] (if j=0 then n1==n2 else d1==d2):=λj h1 h2=>by
    have h1':j<2:=h1
    match j,h1' with
    | 0,_=>exact SeqAt.EqAt.int_int n1 t1 n2 s1
    | 1,_=>exact SeqAt.EqAt.int_int d1 t2 d2 s2
  have e:((List.range (min (#[Value.int n1 t1,Value.int d1 t2]).size (#[Value.int n2 s1,Value.int d2 s2]).size)).all (λj=>if j=0 then n1==n2 else d1==d2)&&(#[Value.int n1 t1,Value.int d1 t2]).size==(#[Value.int n2 s1,Value.int d2 s2]).size)=(decide (n1=n2)&&decide (d1=d2)):=by
    show ((n1==n2)&&((d1==d2)&&true)&&true)=_
    rw[Bool.and_true,Bool.and_true]
    rfl
  have rc:=SeqAt.RcAt.tuples (A:=A) (e:=λj=>if j=0 then n1==n2 else d1==d2) p1 p2 hu el
  have rn:=SeqAt.RcNeAt.tuples (A:=A) (e:=λj=>if j=0 then n1==n2 else d1==d2) p1 p2 hu el
  rw[e] at rc rn
  exact ⟨rc,rn⟩
theorem Zmr(hr:Room k X.A):OpR X (compareOp .Eq) Zqo:=by
  intro pins s σ H x y v u Q I rx ry h
  obtain ⟨b,hb,q⟩:=h
  rcases hb with ⟨i,j,rfl,rfl,rfl⟩ | ⟨a,c,n1,d1,n2,d2,rfl,rfl,ha,hc,rfl⟩
  · refine Za8 pins s σ H _ _ v u Q I rx ry ⟨rfl,?_⟩
    have:decide (V.int i=V.int j)=decide (i=j):=by rw[Zhf]; rfl
    rw[this]; exact q
  · cases rx
    cases ry
    have hu:X.A.units<cLine:=by have:=hr.units; omega
    exact (Znc I ha hc hu).1 _ _ _ _ ⟨.bl _,H,I,rfl,q⟩
end
end L2
namespace L2
open PySem PySem.Spec PyProof.Rows
theorem ZfK{prog:Program}{w:World}{A:Around}{R:Result->Shared->Prop}{s:Shared}{elt target iter cnd:Expr}{scope:Scope}{pos:Pos}{it acc:Value}{env:Env}(I:Nat->Shared->Prop)
    (turn:∀n s,I n s->wpAny (model prog w) A (pyNext it) (λr s₁=>match r with
      | none=>R (.ok .next) s₁
      | some v=>wpAny (model prog w) A (letOwnedTupleGo target it v) (λ_ s₁=>wpAny (model prog w) A (assign target env v) (λ_ s₂=>wpAny (model prog w) A (isTrue cnd env (eval cnd env)) (λok s₃ =>
          match ok with
          | true=>wpAny (model prog w) A (eval elt env) (λx s₄=>wpAny (model prog w) A (call (.builtin "list.append") [acc,x]) (λ_ s₅=>∃m,m<n/\I m s₅) (λ_ _=>False) s₄) (λ_ _=>False) s₃
          | false=>∃m,m<n/\I m s₃)
          (λ_ _=>False) s₂) (λ_ _=>False) s₁) (λ_ _=>False) s₁) (λ_ _=>False) s)
    (n:Nat) (h:I n s) :
    codeAny (model prog w) A (.compLoop (.ListComp elt [⟨target,iter,[cnd],0⟩] scope pos) 0 it acc env) R s:=by
  refine codeAny_loop rfl I (λn s hI=>?_) n h
  show wpAny _ _ ((compTurn (.ListComp elt [⟨target,iter,[cnd],0⟩] scope pos) 0 it acc env).onRaise (λx=>do noteFrame x env; theTreesLotGoes x)) _ _ s
  refine wpAny_noted ?_
  rw[compTurn_list]
  refine wpAny_bind (wpAny_standAt (wpAny_bind (wpAny_mono (turn n s hI) (λr s₁ h₁=>?_) λ_ _ h'=>False.elim h')))
  cases r with
  | none=>exact wpAny_pure h₁
  | some v =>
    refine wpAny_bind (wpAny_mono h₁ (λ_ s₁ h₁=>?_) λ_ _ h'=>False.elim h')
    refine wpAny_bind (wpAny_mono h₁ (λ_ s₂ h₂=>wpAny_bind (wpAny_mono (wpAny_tests_one h₂) (λok s₃ h₃=>?_) λ_ _ h'=>False.elim h')) λ_ _ h'=>False.elim h')
    cases ok with
    | false=>exact wpAny_pure ⟨rfl,h₃⟩
    | true =>
      exact wpAny_bind (wpAny_bind (wpAny_mono h₃ (λx s₄ h₄=>wpAny_bind (wpAny_mono h₄ (λ_ s₅ h₅=>wpAny_pure (wpAny_pure ⟨rfl,h₅⟩)) λ_ _ h'=>False.elim h')) λ_ _ h'=>False.elim h'))
def Zhn(k:Nat)(caps:List (Nat×Str))(g:TG)(tt:TT)(te:TE)(σ:St)(J:It)(H:Hp)(Q:List V->Hp->Prop):Prop :=
  ∃W:Nat->Nat->List V->Hp->Prop,(∃m,W 0 m [] H)/\∀i m ys H',W i m ys H'->ys.length<=sizeLine/\((J.stop i H'/\Q ys H') ∨
    (J.go i H'/\ys.length<sizeLine/\∃(N:V->Hp->Prop) (N0:Hp->Prop),(∀v H4,N v H4->∃m',m'<m/\W (i+1) m' (ys++[v]) H4)/\(∀H4,N0 H4->∃m',m'<m/\W (i+1) m' ys H4) ∧
      ∀x H2,J.yld i H' x H2->g x (st0 k caps σ) H2 λσ2 H3=>(∀(i:Nat) v,(st0 k caps σ)[i]?=some (some v)->σ2[i]?=some (some v))/\tt σ2 H3 λb H4=>match b with | true=>te σ2 H4 N | false=>N0 H4))
def Zos(k:Nat)(caps:List (Nat×Str))(wi:TI)(g:TG)(tt:TT)(te:TE):TE:=λσ H Q=>wi σ H λJ H1=>Zhn k caps g tt te σ J H1 λys H2=>∀D,H2 D=none->Q (.ref D) (upd H2 D (.lst ys))
section
variable{X:Cx}{tg iter elt cnd:Expr}{scope:Scope}{pos:Pos}{wi:TI}{g:TG}{tt:TT}{te:TE}{own:List Str}{caps:List (Nat×Str)}
theorem ZiS{pins:List (Addr×Obj)}{σ:St}{H:Hp}{s:Shared}{fp:List Addr}{it:Addr}{tn:Nat->Heap->Prop}{J:It}{E:Value->Shared->Prop}{RR:Value->Addr->Result->Shared->Prop}{QL:List V->Hp->Prop}
    (I:Inv X pins σ H s) (hc:X.calm=true) (T:Turn X.prog X.w X.K tg J fp it tn) (st:tn 0 s.heap) (hf:∀b∈fp,ZiE X pins H b)
    (hkind:scope.kind = .function) (hcell:∀y∈scope.names,y.2 ≠ .cell) (hfree:∀y,(y,NameKind.free)∈scope.names->∃c,X.env.cells.lookup y=some c) (hcap:CapsOk X scope caps)
    (hg:∀s₀ H₀ C,PG (Zbw X scope (own++caps.map (·.2)) s₀ H₀ C fp) tg g) (ht:∀s₀ H₀ C,PT (Zbw X scope (own++caps.map (·.2)) s₀ H₀ C fp) cnd tt) (he:∀s₀ H₀ C,PE (Zbw X scope (own++caps.map (·.2)) s₀ H₀ C fp) elt te)
    (hB:Zhn own.length caps g tt te σ J H QL)
    (fin:∀D C s' m ys H',s.heap.objs.size<=C->D≠C->s'.heap.Ns C m->Inv X pins σ (upd H' D (.lst ys)) s'->H' D=none->H' C=none->QL ys H'->RR (.ref D) C (.ok .next) s') :
    wpAny (model X.prog X.w) X.A (newList []) (λacc s₃=>wpAny (model X.prog X.w) X.A (newFunctionEnv scope X.env.globals (Zha X.env.cells scope.names []) [] X.env.qual none .none (some X.env)) (λcenv s₄ =>
      codeAny (model X.prog X.w) X.A (.compStart (.ListComp elt [⟨tg,iter,[cnd],0⟩] scope pos) 0 (.ref it) acc { cenv with scope:=relabel scope X.env }) (RR acc cenv.locals) s₄) E s₃) E s:=by
  refine wpAny_newObj_type (wpAny_newFunctionEnv hcell (by intro y hy; simp at hy) (λh₁ hns₁ hsb₁=>?_) hkind)
  dsimp only at hns₁ hsb₁ ⊢
  generalize hH2:s.heap.push { cls:=.type "list", dict:=none,data:=.seq ([]:List Value).toArray }=H2 at hns₁ hsb₁ ⊢
  have hC:H2.objs.size=s.heap.objs.size+1:=by rw[<-hH2,Heap.size_push]
  generalize hCC:H2.objs.size=C at *
  have hCle:s.heap.objs.size<=C:=by rw[hC]; exact U7 _
  generalize hDD:s.heap.objs.size=D at *
  have hDC:D≠C:=by rw[hC]; exact Qa (U6 _)
  have below:∀b,b<D->b≠C/\b≠D:=λb hb=>⟨by rw[hC]; exact Qa (Nat.lt_succ_of_lt hb),Qa hb⟩
  have lts:∀ {b o},s.heap.get? b=some o->b<D:=fun {b o} e=>by rw[<-hDD]; exact Heap.lt_size e
  have old:∀b o,s.heap.get? b=some o->h₁.get? b=some o:=λb o e=>hsb₁.extBut b o (below b (lts e)).1 (Heap.get?_push_of_some _ (hH2 ▸ Heap.get?_push_of_some _ e))
  have hacc:h₁.get? D=some { cls:=.type "list", data:=.seq ([]:List Value).toArray 0 }:=hsb₁.extBut _ _ hDC (Heap.get?_push_of_some _ (hH2 ▸ (hDD ▸ Heap.get?_push_size _ rfl)))
  have hlt:∀b∈fp,b<D:=λb hb=>let ⟨o,e,_⟩:=T.obj 0 _ st b hb; lts e
  have freshS:∀b,D<=b->s.heap.get? b=none:=λb hb=>by
    cases e:s.heap.get? b with
    | none=>rfl
    | some o=>exact absurd (lts e) (Nat.not_lt.mpr hb)
  have nH:∀b,D<=b->H b=none:=λb hb=>I.hok.fresh (by rw[hDD]; exact hb)
  let Y:Cx:=Zbw X scope (own++caps.map (·.2)) s H C fp
  have okY:Y.Ok:=ZgE I hkind hcell hfree (by rw[hDD]; exact hCle) hf (by rw[hDD]; exact hlt)
  have sub:∀x c,(Zha X.env.cells scope.names []).lookup x=some c->X.env.cells.lookup x=some c:=λx c e=>Zej scope.names [] (λp hp=>(nomatch hp)) (x,c) (PySem.mem_of_lookup e)
  have celllt:∀x c,X.env.cells.lookup x=some c->c<D:=λx c e=>by
    obtain ⟨v,o,ho,_⟩:=I.cell x c e
    exact lts ho
  have stklt:∀b∈frs X.stack,b<D:=λb hb=>by
    rcases Q8.mp (I.stkSub b hb) with e | e
    · rw[e,<-hDD]; exact I.lt
    · obtain ⟨_,o,ho,_⟩:=I.funs.mem e
      exact lts ho
  have I0:Inv Y [] (st0 own.length caps σ) H { s with heap:=h₁,toks:=s.toks+([]:List (Str×Value)).length }:=by
    refine ⟨okY,rfl,I.bare,Un.kept old,⟨_,hns₁,λi x v h1 h2 h3=>?_⟩,λx c e=>?_,nH C hCle,λx c e=>I.freeC x c (sub x c e),λp hp=>?_,I.hok.kept old,?_⟩
    · obtain ⟨hk,p,hp,hv⟩:=ZjK h2
      have h1':caps[i-own.length]?.map (·.2)=some x:=by
        have:(own++caps.map (·.2))[i]?=some x:=h1
        rw[W3 hk,Qh] at this
        exact this
      rw[hp] at h1'
      cases h1'
      obtain ⟨q1,q2,q3⟩:=hcap.mem p (Q9 hp)
      obtain ⟨m,hn,hl⟩:=I.loc
      obtain ⟨u,r,l⟩:=hl p.1 p.2 v q1 hv (by rcases q3 with z | z; exact .inr (.inl z); exact .inr (.inr z))
      refine ⟨u,r,.inr ⟨Zeb q2,?_⟩⟩
      rcases l with ⟨z,_⟩ | ⟨_,c,hc',z⟩
      · rcases q3 with y | y <;> (rw[y] at z; cases z)
      · have hm:(p.2,NameKind.free)∈scope.names:=PySem.mem_of_lookup q2
        obtain ⟨d,hd⟩:=Zek scope.names [] hm ⟨c,hc'⟩
        obtain ⟨d',hd'⟩:=ZbG hd
        have e:=sub _ _ hd'
        rw[hc'] at e
        cases e
        obtain ⟨oc,ho,hdt⟩:=z
        exact ⟨c,hd',oc,old _ _ ho,hdt⟩
    · obtain ⟨v,o,ho,hd⟩:=I.cell x c (sub x c e)
      exact ⟨v,o,old _ _ ho,hd⟩
    · exact absurd (show p∈([]:List (Addr×Obj)) from hp) (by simp)
    · rw[ZjJ]
      show _=(own++caps.map (·.2)).length
      rw[Qc,Q0]
  have pinD:∀ {its:List Value} {n:Nat} {σ':St} {H':Hp} {s':Shared},Inv Y [] σ' H' s'->H' D=none->s'.heap.get? D=some { cls:=.type "list", data:=.seq its.toArray n }->Inv Y [(D,{ cls:=.type "list", data:=.seq its.toArray n })] σ' H' s':=fun {its n σ' H' s'} J hn e =>
    J.pins_of λp hp=>by
      have ep:p=(D,{ cls:=.type "list", data:=.seq its.toArray n }):=Q3.mp hp
      subst ep
      refine ⟨e,hn,hDC,λz=>?_,λv z=>by cases z⟩
      exact absurd (stklt D z) (Qv _)
  obtain ⟨W,⟨m0,w0⟩,turn⟩:=hB
  have fpY:∀ {H':Hp} {pins':List (Addr×Obj)},(∀b∈fp,H' b=none)->(∀p∈pins',∀b∈fp,p.1≠b)->∀b∈fp,ZiE Y pins' H' b:=fun {H' pins'} hn hp b hb =>
    ⟨hn b hb,(okY.exf b hb).1,okY.exfs b hb,.inl hb,(okY.exf b hb).2,λp q=>hp p (by simpa [Y,Zbw] using q) b hb⟩
  have loop:∀s₃:Shared,s₃={ s with heap:=h₁,toks:=s.toks+([]:List (Str×Value)).length } →
      codeAny (model X.prog X.w) X.A (.compLoop (.ListComp elt [⟨tg,iter,[cnd],0⟩] scope pos) 0 (.ref it) (.ref D) (compEnvC scope (Zha X.env.cells scope.names []) C X.env)) (RR (.ref D) C) s₃:=by
    rintro s₃ rfl
    refine ZfK (λk s'=>∃(i:Nat) (ys:List V) (its:List Value) (n:Nat) (H':Hp),Inv Y [(D,{ cls:=.type "list", data:=.seq its.toArray n })] (st0 own.length caps σ) H' s'/\tn i s'.heap/\(∀b∈fp,H' b=none)/\Vals ys its/\W i k ys H') ?_ m0
      ⟨0,[],[],0,H,pinD I0 (nH D (Q1 _)) hacc,T.keep _ _ _ st λb _ o e=>old b o e,λb hb=>(hf b hb).1,.nil,w0⟩
    rintro k s3 ⟨i,ys,its,n,H3,I3,st3,fr3,rv,w3⟩
    obtain ⟨pD,nD,_⟩:=I3.pin (D,{ cls:=.type "list", data:=.seq its.toArray n }) (Qg _ Qw)
    have ff:=fpY (pins':=[(D,{ cls:=.type "list", data:=.seq its.toArray n })]) fr3 (λp hp b hb=>by
      rw[Q3.mp hp]; exact (Ne.symm (below b (hlt b hb)).2))
    obtain ⟨hsz,turn⟩:=turn i k ys H3 w3
    rcases turn with ⟨stop,q⟩ | ⟨go,hsz',NN,N0,hNN,hN0,step⟩
    · refine thn (T.done Y rfl rfl rfl hc i _ s3 _ H3 _ I3 ff st3 stop) λr s4 ⟨hr,I4⟩=>?_
      subst hr
      obtain ⟨m4,hn4,_⟩:=I4.loc
      obtain ⟨pD4,nD4,_⟩:=I4.pin (D,{ cls:=.type "list", data:=.seq its.toArray n }) (Qg _ Qw)
      refine fin D C s4 m4 ys H3 hCle hDC hn4 ?_ nD4 I4.free q
      have hk:=I4.base
      have hok4:HOk X.prog X.w H3 s4.heap:=I4.hok
      have neD:∀b u,H3 b=some u->b≠D:=λb u e z=>by rw[z,nD4] at e; cases e
      refine I.call' (ch:=fp) I4.os ⟨λb o e n hb hx=>hk.keep b o e n hb hx,λb o e n hb hx=>hk.slot b o e n hb hx,λb o e n hx=>?_,λb o e hx=>hk.there b o e hx,λb xs e=>?_,λb o u e=>?_,λb ps e=>?_⟩ ?_ I4.bare ?_
      · rw[Zap (below b (lts e)).2]; exact hk.free b o e n hx
      · have:=hk.tups b xs e
        rw[Zap (neD b _ this)]; exact this
      · have:=hk.frzs b o u e
        rw[Zap (neD b _ this)]; exact this
      · obtain ⟨more,e'⟩:=hk.tbls b ps e
        exact ⟨more,by rw[Zap (neD b _ e')]; exact e'⟩
      · intro b u e
        by_cases hb:b=D
        · subst hb
          rw[Zae] at e
          cases e
          exact ⟨hsz,its,n,rv,pD4⟩
        · rw[Zap hb] at e
          exact (hok4 b u e).stay (λc v _ q=>q) (λc q=>by rw[Zap (neD c _ q)]; exact q) λc xs q=>by rw[Zap (neD c _ q)]; exact q
      · intro b hb
        obtain ⟨_,f1,_,f3,f4,f5⟩:=hf b hb
        exact ⟨f3,f1,f4,f5⟩
    · refine thn (T.item Y rfl rfl rfl hc i _ s3 _ H3 _ I3 ff st3 go) λr s4 ⟨u,hr,h4⟩=>?_
      subst hr
      refine thn h4 λ_ s5 ⟨x,H5,I5,r5,y5,st5,fr5⟩=>?_
      have ff5:=fpY (pins':=[(D,{ cls:=.type "list", data:=.seq its.toArray n })]) fr5 (λp hp b hb=>by
        rw[Q3.mp hp]; exact (Ne.symm (below b (hlt b hb)).2))
      have I5':=I5.pinned ff5 (T.obj _ _ st5)
      refine thn (hg s H C _ s5 _ H5 x u _ I5' r5 (step x H5 y5)) λ_ s6 ⟨σ6,H6,I6,wk,q6⟩=>?_
      refine thn (ht s H C _ s6 σ6 H6 _ I6 q6) λbb s6 ⟨H6,I6,q6⟩=>?_
      cases bb with
      | false =>
        have q6:N0 H6:=q6
        obtain ⟨m',hm,w7⟩:=hN0 H6 q6
        have st6:tn (i+1) s6.heap:=T.keep _ _ _ st5 λb hb o e=>(I6.pin (b,o) (Qg _ (Qg _ (Zbb hb e)))).1
        have fr6:∀b∈fp,H6 b=none:=λb hb=>by
          obtain ⟨o,e,d⟩:=T.obj _ _ st5 b hb
          exact (I6.pin (b,o) (Qg _ (Qg _ (Zbb hb e)))).2.1
        obtain ⟨pD6,nD6,_,_,_⟩:=I6.pin (D,{ cls:=.type "list", data:=.seq its.toArray n }) (Qg _ (Uh _ Qw))
        have I8:Inv Y [] σ6 H6 s6:=I6.pins_of λp hp=>(nomatch hp)
        have I9:Inv Y [] (st0 own.length caps σ) H6 s6:=I8.weak (by rw[I0.len,I8.len]) wk
        exact ⟨m',hm,i+1,ys,its,n,H6,pinD I9 nD6 pD6,st6,fr6,rv,w7⟩
      | true =>
        have q6:te σ6 H6 NN:=q6
        refine thn (he s H C _ s6 σ6 H6 _ I6 q6) λy s7 ⟨v,H7,I7,r7,n7⟩=>?_
        obtain ⟨m',hm,w7⟩:=hNN v H7 n7
        obtain ⟨pD7,nD7,_,_,_⟩:=I7.pin (D,{ cls:=.type "list", data:=.seq its.toArray n }) (Qg _ (Uh _ Qw))
        refine append_at (n:=n) pD7 (λh' hs' hD'=>?_) (by rw[Qb,<-rv.length]; exact hsz)
        have st7:tn (i+1) s7.heap:=T.keep _ _ _ st5 λb hb o e=>(I7.pin (b,o) (Qg _ (Qg _ (Zbb hb e)))).1
        have fr7:∀b∈fp,H7 b=none:=λb hb=>by
          obtain ⟨o,e,d⟩:=T.obj _ _ st5 b hb
          exact (I7.pin (b,o) (Qg _ (Qg _ (Zbb hb e)))).2.1
        have I8:Inv Y [] σ6 H7 s7:=I7.pins_of λp hp=>(nomatch hp)
        have I9:Inv Y [] (st0 own.length caps σ) H7 s7:=I8.weak (by rw[I0.len,I8.len]) wk
        have I10:Inv Y [] (st0 own.length caps σ) H7 { s7 with heap:=h' }:=I9.turned (t':=s7.toks) (it:=D) (λb o hb e=>hs'.extBut b o hb e) nD7 hDC (.inr (Uz hDD)) (λx c e=>Qa (celllt x c (sub x c e))) (λp hp=>absurd (show p∈([]:List (Addr×Obj)) from hp) (by simp))
        refine ⟨m',hm,i+1,ys++[v],its++[y],n+1,H7,pinD I10 nD7 ?_,?_,fr7,rv.append (.cons r7 .nil),w7⟩
        · rw[hD',List.push_toArray]
        · exact T.keep _ _ _ st7 λb hb o e=>hs'.extBut b o (below b (hlt b hb)).2 e
  have tn1:tn 0 h₁:=T.keep _ _ _ st λb _ o e=>old b o e
  exact codeAny_compStart_list (loop _ rfl) (T.self _ 0 _ _ _ tn1 (loop _ rfl))
theorem Zlz(own:List Str)(caps:List (Nat×Str))(hc:X.calm=true)(hi:PI X tg iter wi)(hg:∀fp s₀ H₀ C,PG (Zbw X scope (own++caps.map (·.2)) s₀ H₀ C fp) tg g)(ht:∀fp s₀ H₀ C,PT (Zbw X scope (own++caps.map (·.2)) s₀ H₀ C fp) cnd tt)(he:∀fp s₀ H₀ C,PE (Zbw X scope (own++caps.map (·.2)) s₀ H₀ C fp) elt te)
    (hcap:CapsOk X scope caps)
    (hfr:(scope.names.all λy=>!(y.2==NameKind.free)||(X.env.cells.lookup y.1).isSome)=true:=by rfl)
    (hkind:scope.kind = .function:=by rfl) (hcell:∀y∈scope.names,y.2 ≠ .cell:=by decide +kernel)
    (hnames:∀y∈scope.names,y.2 = .local->scope.names.lookup y.1=some .local:=by decide +kernel) (hs:∀x,foldedSetIterable iter X.env x=pure x:=by intro _; rfl) :
    PE X (.ListComp elt [⟨tg,iter,[cnd],0⟩] scope pos) (Zos own.length caps wi g tt te):=by
  intro pins s σ H Q I h
  have hfree:=ZfG hfr
  have hclos:=ZdL hfree
  rw[eval_ListComp]
  refine wpAny_comprehension_free (use:=none) rfl hs hclos hkind hnames (thn (hi pins s σ H _ I h) λv s1 h1=>thn h1 λitv s2 h2=>?_)
  obtain ⟨it,fp,tn,J,H2,e,I2,T,st2,f2,hB⟩:=h2
  subst e
  refine ZiS (RR:=λacc C=>compPost (model X.prog X.w) X.A X.xe none (EP X pins σ Q) acc C) I2 hc T st2 f2 hkind hcell hfree hcap (hg fp) (ht fp) (he fp) hB ?_
  intro D C s' m ys H' hC hDC hn I3 nD nC q
  refine ⟨m,hn,λh' hs'=>⟨.ref D,upd H' D (.lst ys),?_,rfl,q D nD⟩⟩
  exact I3.turned (t':=s'.toks) (it:=C) (λb o hb e=>hs'.extBut b o hb e) (by rw[Zap (Ne.symm hDC)]; exact nC) (Ne.symm (Qa (Q6 I2.lt hC))) (.inr (Q2 I2.sz hC))
    (λx c e z=>by
      obtain ⟨v,o,ho,_⟩:=I2.cell x c e
      rw[z] at ho
      exact absurd (Q6 (Heap.lt_size ho) hC) (Qv _))
    (λp hp z=>by
      have:=(I2.pin p hp).1
      rw[z] at this
      exact absurd (Q6 (Heap.lt_size this) hC) (Qv _))
theorem ZiT{caps:List (Nat×Str)}{tt:TT}{te:TE}{K:PySem.W.Frag}{a:Addr}{xs:List V}{σ:St}{H:Hp}{QL:List V->Hp->Prop}(Pv:Nat->List V->Hp->Prop)(hz:xs.length<=1000)(h0:Pv 0 [] H)(hl:∀i ys H,i<=xs.length->Pv i ys H->SqL K H a xs)
    (hs:∀i x ys H,xs[i]?=some x->ys.length<=i->Pv i ys H->tt (some x::caps.map λp=>(σ[p.1]?).join) H λb H'=>match b with | true=>te (some x::caps.map λp=>(σ[p.1]?).join) H' λv H''=>Pv (i+1) (ys++[v]) H'' | false=>Pv (i+1) ys H') (hd:∀ys H,ys.length<=xs.length->Pv xs.length ys H->QL ys H) :
    Zhn 1 caps (Zb6 0) tt te σ (Itl K a) H QL:=by
  have hz':xs.length<sizeLine:=Zbu hz
  refine ⟨λi m ys H=>m=xs.length-i/\i<=xs.length/\ys.length<=i/\Pv i ys H,⟨_,rfl,Qd _,Q1 _,h0⟩,?_⟩
  rintro i m ys H' ⟨rfl,hi,hy,p⟩
  have q:=hl i ys H' hi p
  refine ⟨by omega,?_⟩
  by_cases hlt:i<xs.length
  · refine .inr ⟨⟨xs,xs[i],q,by simp[hlt]⟩,by omega,λv H4=>Pv (i+1) (ys++[v]) H4,λH4=>Pv (i+1) ys H4,λv H4 p'=>⟨xs.length-(i+1),by omega,rfl,hlt,by rw[Qc,List.length_singleton]; omega,p'⟩,λH4 p'=>⟨xs.length-(i+1),by omega,rfl,hlt,by omega,p'⟩,λx H2 y=>?_⟩
    obtain ⟨e,y⟩:=y
    subst e
    exact ⟨Zm3,hs i x ys _ (y xs q) hy p⟩
  · have e:i=xs.length:=by omega
    subst e
    exact .inl ⟨⟨xs,q,Q1 _⟩,hd ys H' hy p⟩
end
end L2
namespace L2
open PySem PySem.Spec PyProof.Rows
end L2
namespace L2
open PySem PySem.Spec PyProof.Rows
section
variable{κ:Type}[DecidableEq κ]
def Zen(kvs:List (κ×V))(k:κ):Option V:=(kvs.find? λkv=>decide (kv.1=k)).map (·.2)
def Zgn(kvs:List (κ×V))(k:κ)(v:V):List (κ×V) :=
  if (kvs.any λkv=>decide (kv.1=k))=true then kvs.map (λkv=>if kv.1=k then (kv.1,v) else kv) else kvs++[(k,v)]
theorem Zbe{p:κ×V}{r:List (κ×V)}{k:κ}(e:p.1=k):Zen (p::r) k=some p.2:=by simp[Zen,Uc,e]
theorem Zbf{p:κ×V}{r:List (κ×V)}{k:κ}(e:¬p.1=k):Zen (p::r) k=Zen r k:=by simp[Zen,Uc,e]
theorem Zeo(k:κ):∀kvs:List (κ×V),(kvs.any λkv=>decide (kv.1=k))=(Zen kvs k).isSome
  | []=>rfl
  | p::r=>by
    rw[List.any_cons]
    by_cases e:p.1=k
    · simp only[Zbe e,decide_eq_true e,Bool.true_or,Option.isSome_some]
    · rw[Zbf e,decide_eq_false e,Bool.false_or]; exact Zeo k r
theorem Zij(k j:κ)(y:V):∀kvs:List (κ×V),Zen (kvs.map λkv=>if kv.1=k then (kv.1,y) else kv) j=(Zen kvs j).map λx=>if j=k then y else x
  | []=>rfl
  | p::r=>by
    have ih:=Zij k j y r
    rw[W1]
    by_cases h:p.1=k
    · rw[if_pos h]
      by_cases e:p.1=j
      · rw[Zbe (p:=(p.1,y)) e,Zbe e,Option.map_some,if_pos (e.symm.trans h)]
      · rw[Zbf (p:=(p.1,y)) e,Zbf e,ih]
    · rw[if_neg h]
      by_cases e:p.1=j
      · rw[Zbe (p:=p) e,Zbe e,Option.map_some,if_neg (λz=>h (e.trans z))]
      · rw[Zbf (p:=p) e,Zbf e,ih]
theorem ZgO(k j:κ)(y:V):∀kvs:List (κ×V),Zen kvs k=none->Zen (kvs++[(k,y)]) j=if j=k then some y else Zen kvs j
  | [],_=>by
    by_cases e:k=j
    · rw[if_pos e.symm]; exact Zbe (p:=(k,y)) e
    · rw[if_neg (λz=>e z.symm)]; exact Zbf (p:=(k,y)) e
  | p::r,hn=>by
    rw[List.cons_append]
    have hk:¬p.1=k:=λz=>by rw[Zbe z] at hn; cases hn
    rw[Zbf hk] at hn
    have ih:=ZgO k j y r hn
    by_cases e:p.1=j
    · rw[Zbe e,Zbe e,if_neg (λz=>hk (e.trans z))]
    · rw[Zbf e,Zbf e,ih]
theorem ZlA(kvs:List (κ×V))(k j:κ)(y:V):Zen (Zgn kvs k y) j=if j=k then some y else Zen kvs j:=by
  unfold Zgn
  by_cases a:(kvs.any λkv=>decide (kv.1=k))=true
  · rw[if_pos a,Zij]
    rw[Zeo] at a
    by_cases e:j=k
    · obtain ⟨x,hx⟩:=Option.isSome_iff_exists.mp a
      rw[if_pos e,e,hx,Option.map_some,if_pos rfl]
    · rw[if_neg e]
      cases Zen kvs j with
      | none=>rfl
      | some x=>rw[Option.map_some,if_neg e]
  · rw[if_neg a]
    refine ZgO k j y kvs ?_
    rw[Zeo] at a
    cases q:Zen kvs k with
    | none=>rfl
    | some x=>rw[q] at a; exact (a rfl).elim
theorem Zc7(kvs:List (κ×V))(k:κ)(v:V):(Zgn kvs k v).length<=kvs.length+1:=by
  unfold Zgn
  split
  · rw[Q0]; omega
  · rw[Qc,Wg,List.length_nil]; omega
theorem RelO.isSome_eq{o:Option V}{u:Option Value}(r:RelO o u):o.isSome=u.isSome:=by
  cases o with
  | none=>cases u with
    | none=>rfl
    | some _=>exact (show False from r).elim
  | some _=>cases u with
    | none=>exact (show False from r).elim
    | some _=>rfl
theorem KV.val{kvs:List (κ×V)}{vs:List (κ×Value)}(r:KV kvs vs)(k:κ):RelO (Zen kvs k) (valueAt vs k):=by
  unfold KV at r
  induction r with
  | nil=>exact True.intro
  | @cons p q ps qs h t ih =>
    obtain ⟨h1,h2⟩:=h
    by_cases e:p.1=k
    · have e':q.1=k:=h1.symm.trans e
      have b:valueAt (q::qs) k=some q.2:=by simp[valueAt,Uc,e']
      rw[Zbe e,b]; exact h2
    · have e':¬q.1=k:=λz=>e (h1.trans z)
      have b:valueAt (q::qs) k=valueAt qs k:=by simp[valueAt,Uc,e']
      rw[Zbf e,b]; exact ih
theorem KV.any{kvs:List (κ×V)}{vs:List (κ×Value)}(r:KV kvs vs)(k:κ):(kvs.any λkv=>decide (kv.1=k))=vs.any λkv=>decide (kv.1=k):=by
  unfold KV at r
  induction r with
  | nil=>rfl
  | cons h t ih=>rw[List.any_cons,List.any_cons,ih,h.1]
theorem KV.repl{kvs:List (κ×V)}{vs:List (κ×Value)}(r:KV kvs vs)(k:κ){y:V}{u:Value}(ry:RelV y u) :
    KV (kvs.map λkv=>if kv.1=k then (kv.1,y) else kv) (vs.map λkv=>if kv.1=k then (kv.1,u) else kv):=by
  unfold KV at r ⊢
  induction r with
  | nil=>exact .nil
  | @cons p q ps qs h t ih =>
    rw[W1,W1]
    refine .cons ?_ ih
    obtain ⟨h1,h2⟩:=h
    by_cases e:p.1=k
    · rw[if_pos e,if_pos (h1.symm.trans e)]; exact ⟨h1,ry⟩
    · rw[if_neg e,if_neg (λz=>e (h1.trans z))]; exact ⟨h1,h2⟩
theorem KV.put{kvs:List (κ×V)}{vs:List (κ×Value)}(r:KV kvs vs)(k:κ){y:V}{u:Value}(ry:RelV y u):KV (Zgn kvs k y) (stored vs k u):=by
  unfold Zgn stored
  rw[r.any k]
  by_cases e:(vs.any λkv=>decide (kv.1=k))=true
  · rw[if_pos e,if_pos e]; exact r.repl k ry
  · rw[if_neg e,if_neg e]; exact Paired.snoc r ⟨rfl,ry⟩
theorem KV.keys{kvs:List (κ×V)}{vs:List (κ×Value)}(r:KV kvs vs):kvs.map (·.1)=vs.map (·.1):=by
  unfold KV at r
  induction r with
  | nil=>rfl
  | cons h t ih=>rw[W1,W1,ih,h.1]
theorem KV.length{kvs:List (κ×V)}{vs:List (κ×Value)}(r:KV kvs vs):kvs.length=vs.length:=Paired.length r
end
theorem Znd{P:Program}{w:World}{k:Key}{u:Value}(r:RelV (kV k) u):(ZaE P w).is k u=true:=by
  cases k with
  | inl i=>obtain ⟨t,e⟩:=(show ∃t,u=Value.int i t from r); subst e; exact Zhc P w i t
  | inr x=>obtain ⟨t,e⟩:=(show ∃t,u=Value.str x t from r); subst e; exact Zhd P w x t
theorem ZgP{P:Program}{w:World}:∀ {ks:List Key} {us:List Value},Vals (ks.map kV) us->ItemsAre (ZaE P w) ks us
  | [],_,r=>by rw[List.map_nil] at r; cases r; exact .nil
  | k::ks,_,r=>by
    rw[W1] at r
    cases r with
    | cons h t=>exact .cons (Znd h) (ZgP t)
abbrev KT(H:Hp):List (List Key×V)->List (List Key×Addr×Value)->Prop:=Paired λp q=>p.1=q.1/\H q.2.1=some (.tup (p.1.map kV))/\RelV p.2 q.2.2
theorem KT.val{H:Hp}{kvs:List (List Key×V)}{xs:List (List Key×Addr×Value)}(r:KT H kvs xs)(k:List Key):RelO (Zen kvs k) ((atKey xs k).map (·.2)):=by
  induction r with
  | nil=>exact True.intro
  | @cons p q ps qs h t ih =>
    obtain ⟨h1,_,h2⟩:=h
    by_cases e:p.1=k
    · have e':q.1=k:=h1.symm.trans e
      have b:atKey (q::qs) k=some q.2:=by simp[atKey,Uc,e']
      rw[Zbe e,b]; exact h2
    · have e':¬q.1=k:=λz=>e (h1.trans z)
      have b:atKey (q::qs) k=atKey qs k:=by simp[atKey,Uc,e']
      rw[Zbf e,b]; exact ih
theorem KT.repl{H:Hp}{kvs:List (List Key×V)}{xs:List (List Key×Addr×Value)}(r:KT H kvs xs)(k:List Key){y:V}{u:Value}(ry:RelV y u) :
    KT H (kvs.map λkv=>if kv.1=k then (kv.1,y) else kv) (xs.map (putAt k u)):=by
  induction r with
  | nil=>exact .nil
  | @cons p q ps qs h t ih =>
    rw[W1,W1]
    refine .cons ?_ ih
    obtain ⟨h1,h2,h3⟩:=h
    unfold putAt
    by_cases e:p.1=k
    · rw[if_pos e,if_pos (h1.symm.trans e)]; exact ⟨h1,h2,ry⟩
    · rw[if_neg e,if_neg (λz=>e (h1.trans z))]; exact ⟨h1,h2,h3⟩
theorem KT.put{H:Hp}{kvs:List (List Key×V)}{xs:List (List Key×Addr×Value)}(r:KT H kvs xs)(k:List Key){b:Addr}{y:V}{u:Value}(hb:H b=some (.tup (k.map kV)))(ry:RelV y u) :
    KT H (Zgn kvs k y) (storedH xs k b u):=by
  have e:(kvs.any λkv=>decide (kv.1=k))=(atKey xs k).isSome:=by
    rw[Zeo,(r.val k).isSome_eq,Option.isSome_map]
  unfold Zgn storedH
  rw[e]
  by_cases q:(atKey xs k).isSome=true
  · rw[if_pos q,if_pos q]; exact r.repl k ry
  · rw[if_neg q,if_neg q]; exact Paired.snoc r ⟨rfl,hb,ry⟩
theorem KT.keeps{H H':Hp}{kvs:List (List Key×V)}{xs:List (List Key×Addr×Value)}(r:KT H kvs xs)(ht:∀b ys,H b=some (.tup ys)->H' b=some (.tup ys)):KT H' kvs xs :=
  Paired.mapP r λ_ _ z=>⟨z.1,ht _ _ z.2.1,z.2.2⟩
section
variable{P:Program}{w:World}{H:Hp}{h:Heap}{a:Addr}
theorem Zot{u:HO}(ok:HOk P w H h)(e:Rd H a u):ObjOk P w H h a u:=e.ok ok
theorem Zne{kvs:List (Key×V)}(ok:HOk P w H h)(e:Rd H a (.dK kvs)):kvs.length<=sizeLine/\(a==sysModules)=false/\∃vs,KV kvs vs/\h.DictOf (ZaE P w) a vs :=
  show ObjOk P w H h a (.dK kvs) from Zot ok e
theorem Zpr{kvs:List (Key×V)}(ok:HOk P w H h)(e:H a=some (.dK kvs)):kvs.length<=sizeLine/\(a==sysModules)=false/\∃vs,KV kvs vs/\h.DictOf (ZaE P w) a vs:=Zne ok (.inl e)
theorem Zik{ks:List Key}(ok:HOk P w H h)(e:H a=some (.tup (ks.map kV))):(tupleKind (ZaE P w)).is h ks a:=by
  obtain ⟨_,its,r,o,h1,h2,n,h3⟩:=(show ObjOk P w H h a (.tup (ks.map kV)) from ok a _ e)
  exact ⟨o,its.toArray,n,h1,h2,h3,by simpa using ZgP r⟩
theorem Znf{kvs:List (List Key×V)}(ok:HOk P w H h)(e:Rd H a (.dT kvs)):kvs.length<=sizeLine/\(a==sysModules)=false ∧
    ∃xs,KT H kvs xs/\h.DictOfH (tupleKind (ZaE P w)) a xs:=by
  obtain ⟨z,y,xs,r,o,es,ep,h1,h2,h3,h4,h5⟩:=(show ObjOk P w H h a (.dT kvs) from Zot ok e)
  refine ⟨z,y,xs,r,o,es,ep,h1,h2,h3,h4,λx hx=>?_,h5⟩
  have all:∀ {l:List (List Key×V)} {m:List (List Key×Addr×Value)},KT H l m->∀x∈m,(tupleKind (ZaE P w)).is h x.1 x.2.1:=by
    intro l m q
    induction q with
    | nil=>intro x hx; exact nomatch hx
    | @cons p q ps qs hq t ih =>
      intro x hx
      rcases Q8.mp hx with e | hx
      · subst e
        exact Zik ok (by rw[<-hq.1]; exact hq.2.1)
      · exact ih x hx
  exact all r x hx
theorem Zou{kvs:List (List Key×V)}(ok:HOk P w H h)(e:H a=some (.dT kvs)):kvs.length<=sizeLine/\(a==sysModules)=false ∧
    ∃xs,KT H kvs xs/\h.DictOfH (tupleKind (ZaE P w)) a xs:=Znf ok (.inl e)
end
def DGet(H:Hp)(a:Addr)(y:V)(r:Option V):Prop :=
  (∃kvs k,Rd H a (.dK kvs)/\y=kV k/\r=Zen kvs k)\/∃kvs k b,Rd H a (.dT kvs)/\y = .ref b/\H b=some (.tup (k.map kV))/\r=Zen kvs k
def DPut(H:Hp)(a:Addr)(y v:V)(H':Hp):Prop :=
  (∃kvs k,H a=some (.dK kvs)/\y=kV k/\kvs.length<sizeLine/\H'=upd H a (.dK (Zgn kvs k v))) ∨
  ∃kvs k b,H a=some (.dT kvs)/\y = .ref b/\H b=some (.tup (k.map kV))/\kvs.length<sizeLine/\H'=upd H a (.dT (Zgn kvs k v))
theorem DGet.k{H:Hp}{a:Addr}{kvs:List (Key×V)}{k:Key}(e:H a=some (.dK kvs)):DGet H a (kV k) (Zen kvs k):=.inl ⟨kvs,k,.inl e,rfl,rfl⟩
theorem DPut.k{H:Hp}{a:Addr}{kvs:List (Key×V)}{k:Key}{v:V}(e:H a=some (.dK kvs))(hl:kvs.length<sizeLine):DPut H a (kV k) v (upd H a (.dK (Zgn kvs k v))):=.inl ⟨kvs,k,e,rfl,hl,rfl⟩
theorem DPut.t{H:Hp}{a b:Addr}{kvs:List (List Key×V)}{k:List Key}{v:V}(e:H a=some (.dT kvs))(eb:H b=some (.tup (k.map kV)))(hl:kvs.length<sizeLine) :
    DPut H a (.ref b) v (upd H a (.dT (Zgn kvs k v))):=.inr ⟨kvs,k,b,e,rfl,eb,hl,rfl⟩
section
variable{X:Cx}{pins:List (Addr×Obj)}{σ:St}{H:Hp}{s:Shared}{a:Addr}{y v:V}{u r:Value}{o:Option V}{A:Around}{E:Value->Shared->Prop}
theorem Inv.big(I:Inv X pins σ H s):sysModules<s.heap.objs.size:=by
  have h:mainGlobals<s.heap.objs.size:=(I.mod.glob.keeps I.bk).lt
  exact U9 (by decide) h
theorem ZjZ{Q:Value->Shared->Prop}(hu:A.units+1<cLine)(I:Inv X pins σ H s)(g:DGet H a y (some v))(ry:RelV y u)(h:∀w' s',Inv X pins σ H s'->RelV v w'->Q w' s') :
    wpAny (model X.prog X.w) A (getItem (.ref a) u) Q E s:=by
  rcases g with ⟨kvs,k,e,ey,l⟩ | ⟨kvs,k,b,e,ey,eb,l⟩
  · subst ey
    obtain ⟨z,hd,vs,rel,dd⟩:=Zne I.hok e
    obtain ⟨w',hw,rw'⟩:=RelO.some_of (v:=v) (o:=valueAt vs k) (by rw[l]; exact rel.val k)
    exact wpAny_getItem_of (Znd ry) dd.mapOf hw (h w' _ (I.tok _) rw')
  · subst ey
    cases (show u=Value.ref b from ry)
    obtain ⟨z,hd,xs,rel,dd⟩:=Znf I.hok e
    obtain ⟨w',hw,rw'⟩:=RelO.some_of (v:=v) (o:=(atKey xs k).map (·.2)) (by rw[l]; exact rel.val k)
    obtain ⟨p,hp,hp2⟩:=Option.map_eq_some_iff.mp hw
    refine wpAny_getItem_heap (tupleKind_room_in1 hu) (Zik I.hok eb) dd hp ?_
    rw[hp2]
    exact h w' _ (I.tok _) rw'
theorem ZfL{h':Heap}{t':Nat}{ob:HO}(I:Inv X pins σ H s)(mu:Mut (H a))(hs:Heap.SameBut a s.heap h')(he:∃q,h'.get? a=some q)(new:ObjOk X.prog X.w (upd H a ob) h' a ob) :
    Inv X pins σ (upd H a ob) { s with heap:=h',toks:=t' } :=
  I.write (x:=a) (e:=a) mu (.inl rfl) (λb q hb z=>(hs.2 b hb).trans z) he new
theorem Zov{P:Program}{w:World}{H':Hp}{h':Heap}{kvs:List (Key×V)}{vs:List (Key×Value)}(z:kvs.length<=sizeLine)(hd:(a==sysModules)=false)(rel:KV kvs vs)(dd:h'.DictOf (ZaE P w) a vs) :
    ObjOk P w H' h' a (.dK kvs):=⟨z,hd,vs,rel,dd⟩
theorem Zj0{H':Hp}{Q:Unit->Shared->Prop}(hu:A.units+1<cLine)(I:Inv X pins σ H s)(g:DPut H a y v H')(ry:RelV y u)(rv:RelV v r)(h:∀s',Inv X pins σ H' s'->Q () s') :
    wpAny (model X.prog X.w) A (setItem (.ref a) u r) Q E s:=by
  rcases g with ⟨kvs,k,e,ey,l,eH⟩ | ⟨kvs,k,b,e,ey,eb,l,eH⟩
  · subst ey eH
    obtain ⟨z,hd,vs,rel,dd⟩:=Zpr I.hok e
    have hz:vs.length<=sizeLine:=by rw[<-rel.length]; exact z
    have hl:(Zgn kvs k v).length<=sizeLine:=by have:=Zc7 kvs k v; omega
    refine wpAny_setItem_pairs (hsz:=hz) (Znd ry) dd λh' dd' hs=>h _ ?_
    have he:∃q,h'.get? a=some q:=let ⟨q,_,_,hq,_⟩:=dd'; ⟨q,hq⟩
    exact ZfL I (by rw[e]; exact True.intro) hs he (Zov hl hd (rel.put k rv) dd')
  · subst ey eH
    cases (show u=Value.ref b from ry)
    obtain ⟨z,hd,xs,rel,dd⟩:=Zou I.hok e
    have hz:xs.length<=sizeLine:=by rw[<-Paired.length rel]; exact z
    have hl:(Zgn kvs k v).length<=sizeLine:=by have:=Zc7 kvs k v; omega
    refine wpAny_setItem_heap (hsz:=hz) (tupleKind_room_in1 hu) (Zik I.hok eb) dd λh' dd' hs=>h _ ?_
    obtain ⟨q,es,ep,hq,h2,h3,h4,_,h5⟩:=dd'
    refine ZfL I (by rw[e]; exact True.intro) hs ⟨q,hq⟩ ⟨hl,hd,_,(rel.put k eb rv).keeps λc ys ec=>?_,q,es,ep,hq,h2,h3,h4,h5⟩
    rw[Zap (Zjl ec e (λz=>nomatch z))]
    exact ec
end
section
variable{X:Cx}{pins:List (Addr×Obj)}{σ:St}{H:Hp}{s:Shared}{a:Addr}{kvs:List (Key×V)}{k:Key}{u:Value}{A:Around}{E:Value->Shared->Prop}
end
def ZpV(i:Expr):Prop:=∀ov iv,subscripted i false ov iv=operate [ov,iv] (getItem ov iv)
theorem Zng{prog:Program}{w:World}{A:Around}{E:Value->Shared->Prop}{s:Shared}{env:Env}{value slice:Expr}{pos:Pos}{T id:String}{Q:Value->Shared->Prop}
    (hl:typeLookup (.type T) "__getitem__" = pure (some (.builtin id))) (hs:ZpV slice)
    (h:wpAny (model prog w) A (eval value env) (λo s₁=>wpAny (model prog w) A (eval slice env) (λi s₂=>s₂.TypeIs o T/\wpAny (model prog w) A (getItem o i) Q E s₂) E s₁) E s) :
    wpAny (model prog w) A (eval (.Subscript value slice pos) env) Q E s:=by
  refine Subscript_ (wpAny_mono h (λo s₁ h₁=>wpAny_mono h₁ (λi s₂ h₂=>?_) λ_ _ x=>x) λ_ _ x=>x)
  obtain ⟨hT,h₂⟩:=h₂
  unfold subscriptTail
  refine wpAny_bind ?_
  rw[getitemInPython_of_ne hT.not_modules]
  refine wpAny_bind (wpAny_specialOf hT hl ?_)
  have fin:wpAny (model prog w) A (subscripted slice false o i) (λr s₃=>wpAny (model prog w) A (letTemporaryGo value o r >>= λ_=>pure r) Q E s₃) E s₂:=by
    rw[hs o i]
    exact wpAny_operating (wpAny_mono h₂ (λr s₃ h₃=>wpAny_bind (wpAny_letTemporaryGo (wpAny_pure h₃))) λ_ _ x=>x)
  first
    | exact wpAny_pure (wpAny_bind fin)
    | exact wpAny_bind (wpAny_pure (wpAny_bind fin))
    | exact wpAny_bind fin
theorem Zho{X:Cx}{pins:List (Addr×Obj)}{σ:St}{H:Hp}{s:Shared}{a:Addr}{y:V}{o:Option V}(I:Inv X pins σ H s)(g:DGet H a y o):s.TypeIs (.ref a) "dict" := by
  rcases g with ⟨kvs,k,e,_,_⟩ | ⟨kvs,k,b,e,_,_,_⟩
  · obtain ⟨_,_,vs,_,dd⟩:=Zne I.hok e
    exact dd.typeIs
  · obtain ⟨_,_,xs,_,dd⟩:=Znf I.hok e
    exact dd.typeIs
def Zps(td ty:TE):TE:=λσ H Q=>td σ H λx H1=>ty σ H1 λy H2=>∃a v,x = .ref a/\DGet H2 a y (some v)/\Q v H2
def Zpt(td ty tv:TE):TS:=λD σ H=>tv σ H λv H1=>td σ H1 λx H2=>ty σ H2 λy H3=>∃a H4,x = .ref a/\DPut H3 a y v H4/\D.nx σ H4
section
variable{X:Cx}{o i e value:Expr}{pos pos' tpos:Pos}{td ty tv:TE}
theorem Zj1(hu:X.A.units+1<cLine)(ho:PE X o td)(hi:PE X i ty)(hs:ZpV i):PE X (.Subscript o i pos) (Zps td ty):=by
  intro pins s σ H Q I h
  refine Zng PySem.F.slot_dict_getitem.lookup hs (thn (ho pins s σ H _ I h) λu s1 ⟨x,H1,I1,rx,q1⟩=>thn (hi pins s1 σ H1 _ I1 q1) λiv s2 ⟨y,H2,I2,ry,a,v,ex,g,q2⟩=>?_)
  subst ex
  obtain rfl:u=Value.ref a:=rx
  exact ⟨Zho I2 g,ZjZ hu I2 g ry λw' s3 I3 rw'=>⟨v,H2,I3,rw',q2⟩⟩
theorem Znh(hu:X.A.units+1<cLine)(ho:PE X o td)(hi:PE X i ty)(hv:PE X value tv)(hs:swapsWith value (some (.Subscript o i pos')) pos.line X.env=pure false) :
    PS X (.Assign [.Subscript o i pos'] value pos) (Zpt td ty tv):=by
  intro pins s σ H D I h
  refine wpAny_Assign_Subscript (thn (hv pins s σ H _ I h) λr s1 ⟨v,H1,I1,rv,q1⟩=>thn (ho pins s1 σ H1 _ I1 q1) λu s2 ⟨x,H2,I2,rx,q2⟩=>thn (hi pins s2 σ H2 _ I2 q2) λiv s3 ⟨y,H3,I3,ry,a,H4,ex,g,q3⟩=>?_) hs
  subst ex
  obtain rfl:u=Value.ref a:=rx
  exact Zj0 hu I3 g ry rv λs4 I4=>⟨σ,H4,I4,q3⟩
end
theorem Zil{P:Program}{w:World}{H:Hp}(h:Heap)(hb:sysModules<h.objs.size):ObjOk P w H (h.push { cls:=.type "dict", data:=.dict #[] }) h.objs.size (.dT []) :=
  ⟨Qd _,beq_eq_false_iff_ne.mpr (Ne.symm (Qa hb)),[],.nil,_,#[],0,Heap.get?_push_size _ rfl,⟨rfl,rfl,rfl⟩,rfl,rfl,List.nodup_nil⟩
def Zow:TE:=λ_ H Q=>∀p,H p=none->Q (.ref p) (upd H p (.dT []))
section
variable{X:Cx}{pos:Pos}
theorem ZlB:PE X (.Dict [] [] pos) Zow:=λpins s σ H Q I h =>
  wpAny_Dict_empty ⟨.ref s.heap.objs.size,_,I.laid (a:=s.heap.objs.size) (o:=.dT []) (t':=s.toks) (λ_ _ q=>Heap.get?_push_of_some _ q) (Q1 _) (Zil s.heap I.big),rfl,h _ (I.hok.fresh (Q1 _))⟩
end
end L2
namespace L2
open PySem PySem.Spec PyProof.Rows
section
variable{prog:Program}{w:World}{A:Around}{E:Value->Shared->Prop}{s:Shared}{d it:Addr}{o:Obj}{es:Array DictEntry}{ep i:Nat}
theorem Zni{Q:Value->Shared->Prop}(hd:(d==sysModules)=false)(ho:s.heap.get? d=some o)(hx:o.ExactDict)(hdat:o.data = .dict es ep)
    (hQ:Q (.ref s.heap.objs.size) { s with heap:=s.heap.push { cls:=.type "dict_keyiterator", data:=.fields #[.ref d,.int 0 0,.int es.size 0,.int ep 0] } }) :
    wpAny (model prog w) A (pyIter (.ref d)) Q E s:=by
  have hT:s.TypeIs (.ref d) "dict" := ⟨o,ho,hx.1⟩
  refine wpAny_pyIter_slot hT PySem.F.slot_dict_iter (wpAny_call_entry PySem.F.slot_dict_iter hT PySem.F.entry_dict_iter ?_ (PySem.F.args_dict_iter_1 _))
  unfold Builtin.«dict.__iter__»
  refine wpAny_bind ?_
  unfold Builtin.Dict.dictSlotNone
  refine wpAny_bind (wpAny_notOrdered_dict hT ?_)
  show wpAny _ _ (pure (Value.ref d)) _ _ s
  refine wpAny_pure ?_
  show wpAny _ _ (Builtin.Dict.showsAll d >>= _) _ _ s
  unfold Builtin.Dict.showsAll
  rw[if_neg (by rw[hd]; exact Qj)]
  refine wpAny_bind (wpAny_pure ?_)
  refine wpAny_bind (wpAny_dictEntries ho hdat ?_)
  refine wpAny_bind (wpAny_dictEpoch ho hdat ?_)
  refine wpAny_bind (wpAny_newObj_type (wpAny_pure ⟨_,rfl, "dict_keyiterator", _,⟨_,Heap.get?_push_size _ rfl,rfl⟩,PySem.F.slot_dict_keyiterator_next.lookup,?_⟩))
  simpa [rawInt] using hQ
theorem Znj{Q:Option Value->Shared->Prop}(hit:s.heap.IsKeyIter it d i es.size ep)(ho:s.heap.get? d=some o)(hdat:o.data = .dict es ep)(hi:i<es.size)
    (hQ:∀h',h'.IsKeyIter it d (i+1) es.size ep->Heap.SameBut it s.heap h'->Q (some es[i].key) { s with heap:=h' }) :
    wpAny (model prog w) A (pyNext (.ref it)) Q E s:=by
  obtain ⟨io,hio,hc,hd⟩:=id hit
  unfold pyNext
  refine wpAny_bind (wpAny_attempt (wpAny_callSpecial?_slot (name:=Str.ofString "__next__") hit.typeIs PySem.F.slot_dict_keyiterator_next
    (wpAny_call_entry PySem.F.slot_dict_keyiterator_next hit.typeIs PySem.F.entry_dict_keyiterator_next ?_ (PySem.F.args_dict_keyiterator_next_1 _))))
  refine wpAny_bind (wpAny_pure ?_)
  refine wpAny_bind ?_
  refine wpAny_bind ?_
  first | refine wpAny_bind (wpAny_typeNameOfWhole_keyiter hit.typeIs (wpAny_pure ?_)) | refine wpAny_bind (wpAny_typeNameOf_keyiter hit.typeIs (wpAny_pure ?_))
  refine wpAny_bind (wpAny_fieldsOf hio hd ?_)
  have hown:Builtin.Dict_items.ownsTuple "dict_keyiterator" = false:=by decide
  simp only[hown,Bool.false_eq_true,if_false]
  show wpAny _ _ (if (Value.ref d==Value.none)=true then _ else _) _ _ s
  rw[if_neg (show ¬((Value.ref d==Value.none)=true) from Qj)]
  refine wpAny_bind (wpAny_pure ?_)
  refine wpAny_bind (wpAny_dictEntries ho hdat ?_)
  rw[if_neg (by simp)]
  refine wpAny_bind (wpAny_pure ?_)
  refine wpAny_bind (wpAny_dictEpoch ho hdat ?_)
  rw[if_neg (by simp)]
  refine wpAny_pure ?_
  simp only[show ¬((i:Int)<0) from by omega,if_false,Q7,Array.getElem?_eq_getElem hi]
  refine wpAny_bind ?_
  first | refine wpAny_bind (wpAny_typeNameOfWhole_keyiter hit.typeIs (wpAny_pure ?_)) | refine wpAny_bind (wpAny_typeNameOf_keyiter hit.typeIs (wpAny_pure ?_))
  refine wpAny_bind (wpAny_isOneOf_keyiter hit.typeIs ?_)
  show wpAny _ _ (setField (.ref it) 1 (rawInt ((i:Int)+1)) >>= _) _ _ s
  refine wpAny_bind (wpAny_setField hio hd (by simp) ?_)
  have hit':(s.heap.update it (Obj.mapFields (·.setIfInBounds 1 (rawInt ((i:Int)+1))))).IsKeyIter it d (i+1) es.size ep :=
    ⟨_,Heap.get?_update_self _ hio (Obj.isFreed_of_fields (Obj.data_mapFields hd _)),(Obj.cls_mapFields ..).trans hc,by rw[Obj.data_mapFields hd]; simp[rawInt]⟩
  refine wpAny_bind (wpAny_holding ?_)
  refine wpAny_bind (wpAny_isOneOf_keyiter (s:={ s with heap:=s.heap.update it (Obj.mapFields (·.setIfInBounds 1 (rawInt ((i:Int)+1)))) }) hit'.typeIs ?_)
  show wpAny _ _ (pure es[i].key) _ _ _
  exact wpAny_pure (wpAny_pure ⟨_,rfl,wpAny_pure (hQ _ hit' (Heap.SameBut.update ..))⟩)
theorem Zox{Q:Option Value->Shared->Prop}(hh:A.handled=none)(hit:s.heap.IsKeyIter it d i es.size ep)(ho:s.heap.get? d=some o)(hdat:o.data = .dict es ep)(hi:es.size<=i)
    (hQ:∀h',Heap.ExtBut it s.heap h'->Q none { s with heap:=h' }):wpAny (model prog w) A (pyNext (.ref it)) Q E s:=by
  obtain ⟨io,hio,hc,hd⟩:=id hit
  unfold pyNext
  refine wpAny_bind (wpAny_attempt (wpAny_callSpecial?_slot (name:=Str.ofString "__next__") hit.typeIs PySem.F.slot_dict_keyiterator_next
    (wpAny_call_entry PySem.F.slot_dict_keyiterator_next hit.typeIs PySem.F.entry_dict_keyiterator_next ?_ (PySem.F.args_dict_keyiterator_next_1 _))))
  refine wpAny_bind (wpAny_pure ?_)
  refine wpAny_bind ?_
  refine wpAny_bind ?_
  first | refine wpAny_bind (wpAny_typeNameOfWhole_keyiter hit.typeIs (wpAny_pure ?_)) | refine wpAny_bind (wpAny_typeNameOf_keyiter hit.typeIs (wpAny_pure ?_))
  refine wpAny_bind (wpAny_fieldsOf hio hd ?_)
  have hown:Builtin.Dict_items.ownsTuple "dict_keyiterator" = false:=by decide
  simp only[hown,Bool.false_eq_true,if_false]
  show wpAny _ _ (if (Value.ref d==Value.none)=true then _ else _) _ _ s
  rw[if_neg (show ¬((Value.ref d==Value.none)=true) from Qj)]
  refine wpAny_bind (wpAny_pure ?_)
  refine wpAny_bind (wpAny_dictEntries ho hdat ?_)
  rw[if_neg (by simp)]
  refine wpAny_bind (wpAny_pure ?_)
  refine wpAny_bind (wpAny_dictEpoch ho hdat ?_)
  rw[if_neg (by simp)]
  refine wpAny_pure ?_
  simp only[show ¬((i:Int)<0) from by omega,if_false,Q7,Array.getElem?_eq_none hi]
  refine wpAny_bind ?_
  first | refine wpAny_bind (wpAny_typeNameOfWhole_keyiter hit.typeIs (wpAny_pure ?_)) | refine wpAny_bind (wpAny_typeNameOf_keyiter hit.typeIs (wpAny_pure ?_))
  show wpAny _ _ (setField (.ref it) 0 .none >>= _) _ _ s
  refine wpAny_bind (wpAny_setField hio hd (by simp) ?_)
  show wpAny _ _ (newExc (.type "StopIteration") [] >>= _) _ _ _
  refine wpAny_bind ?_
  simp only[newExc,newTuple]
  refine wpAny_bind (wpAny_newObj_type ?_ (by size_fits))
  refine wpAny_bind (m:=firstArgMember _ _) (wpAny_of_eq (a:=Value.none) (by first | rfl | (simp only[firstArgMember]; rfl)) ?_)
  refine wpAny_newObj_type ?_ (by size_fits)
  simp only[raiseNew]
  refine wpAny_bind (wpAny_handled ?_)
  rw[show A.in1.handled=none from hh]
  refine wpAny_bind (wpAny_pure (wpAny_throw ?_))
  refine wpAny_bind (wpAny_isInstance (T := "StopIteration") (b:=true) ⟨_,Heap.get?_push_size _ rfl,rfl⟩ isSubtype_stop ?_)
  exact wpAny_pure (hQ _ (((Heap.SameBut.update ..).extBut.push _).push _))
end
theorem Zfx{α β:Type}{F:α->β->Prop}:∀ {l₁:List α} {l₂:List β},Paired F l₁ l₂->∀ {i:Nat} {a:α},l₁[i]?=some a->∃b,l₂[i]?=some b/\F a b
  | _,_,.nil,i,a,h=>by cases h
  | _,_,.cons r rs,0,a,h=>by cases h; exact ⟨_,rfl,r⟩
  | _,_,.cons r rs,i+1,a,h=>Zfx rs (i:=i) h
def Znk(o:Obj):Nat:=match o.data with
  | .dict _ ep=>ep
  | _=>0
structure DAt (P:Program) (w:World) (H:Hp) (h:Heap) (a:Addr) (o:Obj) (kvs:List (List Key×V)) (es:Array DictEntry):Prop where
  get:h.get? a=some o
  ex:o.ExactDict
  dat:o.data = .dict es (Znk o)
  sz:es.size=kvs.length
  nos:(a==sysModules)=false
  key:∀(i:Nat) (hi:i<es.size) (k:List Key) (v:V),kvs[i]?=some (k,v)->∃b,es[i].key = .ref b/\H b=some (.tup (k.map kV))
theorem Zj2{P:Program}{w:World}{H:Hp}{h:Heap}{a:Addr}{o:Obj}{kvs:List (List Key×V)}(g:h.get? a=some o)(x:ObjOk P w H h a (.dT kvs)):∃es,DAt P w H h a o kvs es:=by
  obtain ⟨z,y,xs,r,o',es,ep,h1,h2,h3,h4,h5⟩:=x
  rw[g] at h1
  cases h1
  have e:Znk o=ep:=by unfold Znk; rw[h3]
  have lx:=Paired.length r
  have ls:es.size=xs.length:=by
    have:=congrArg List.length h4
    rw[Q0] at this
    simpa using this
  refine ⟨es,g,h2,by rw[e]; exact h3,by omega,y,λi hi k v hk=>?_⟩
  obtain ⟨q,hq,rq⟩:=Zfx r hk
  have hq2:es.toList[i]?=some (entryOfKey (tupleKind (ZaE P w)) q):=by rw[h4,Qh,hq]; rfl
  have hq3:es[i]=entryOfKey (tupleKind (ZaE P w)) q:=by
    have e2:es.toList[i]?=some es[i]:=by simp[hi]
    rw[e2] at hq2
    exact Option.some.inj hq2
  refine ⟨q.2.1,by rw[hq3]; rfl,?_⟩
  exact rq.2.1
def Itk(a:Addr)(o:Obj)(kvs:List (List Key×V)):It :=
  ⟨λi H=>i<kvs.length/\H a=some (.frz o (.dT kvs)),λi H x H'=>H'=H/\∃k v b,kvs[i]?=some (k,v)/\x = .ref b/\H b=some (.tup (k.map kV)),λi H=>i=kvs.length/\H a=some (.frz o (.dT kvs))⟩
theorem Znl{P:Program}{w:World}{K:PySem.W.Frag}{tg:Expr}(a it:Addr)(o:Obj)(kvs:List (List Key×V)):Turn P w K tg (Itk a o kvs) [it] it (λi h=>h.IsKeyIter it a i kvs.length (Znk o)) where
  mem:=by simp
  obj:=λi h st b hb=>by
    have e:b=it:=by simpa using hb
    subst e
    obtain ⟨o,e,c,d⟩:=st
    exact ⟨o,e,λv z=>by rw[d] at z; cases z⟩
  keep:=λi h h' st k=>st.at λo e=>k it (by simp) o e
  item:=by
    intro X hP hw hK hc i pins s σ H E I hf st hg
    subst hP hw hK
    obtain ⟨hi,hH⟩:=hg
    obtain ⟨g,x⟩:=(show ObjOk X.prog X.w H s.heap a (.frz o (.dT kvs)) from I.hok a _ hH)
    obtain ⟨es,D⟩:=Zj2 g x
    have hs:=D.sz
    rw[<-hs] at st
    obtain ⟨f0,f1,f2,f3,f4,f5⟩:=hf it (by simp)
    refine Znj st D.get D.dat (by omega) λh' st' sb=>?_
    rw[hs] at st'
    have I1:Inv X pins σ H { s with heap:=h' }:=I.turned (t':=s.toks) (λb o hb e=>(sb.2 b hb).trans e) f0 f1 f3 f4 f5
    obtain ⟨io,e,c,d⟩:=id st'
    obtain ⟨b,eb,hb⟩:=D.key i (by omega) kvs[i].1 kvs[i].2 (by rw[Q5 hi])
    refine ⟨_,rfl,Zlf (s:={ s with heap:=h' }) e c d (by decide) ⟨.ref b,H,I1,?_,⟨rfl,_,_,b,by rw[Q5 hi],rfl,hb⟩,st',λb hb=>(hf b hb).1⟩⟩
    rw[eb]; rfl
  done:=by
    intro X hP hw hK hc i pins s σ H E I hf st hg
    subst hP hw hK
    obtain ⟨hi,hH⟩:=hg
    subst hi
    obtain ⟨g,x⟩:=(show ObjOk X.prog X.w H s.heap a (.frz o (.dT kvs)) from I.hok a _ hH)
    obtain ⟨es,D⟩:=Zj2 g x
    have hs:=D.sz
    obtain ⟨f0,f1,f2,f3,f4,f5⟩:=hf it (by simp)
    have st2:s.heap.IsKeyIter it a kvs.length es.size (Znk o):=by rw[hs]; exact st
    exact Zox (I.ok.hd hc) st2 D.get D.dat (by omega) λh' eb=>⟨rfl,I.turned (t':=s.toks) (λb o hb e=>eb b o hb e) f0 f1 f3 f4 f5⟩
  self:=λ_ _ _ _ _ st h=>wpAny_pyIter_keyiter st h
section
variable{X:Cx}{tg:Expr}
def Zqp(tl:TE):TI:=λσ H R=>tl σ H λx H1=>∃a kvs,x = .ref a/\H1 a=some (.dT kvs)/\∀o,R (Itk a o kvs) (upd H1 a (.frz o (.dT kvs)))
theorem Zoy{l:Expr}{tl:TE}(hl:PE X l tl):PI X tg l (Zqp tl):=by
  intro pins s σ H R I h
  refine thn (hl pins s σ H _ I h) λv s1 ⟨x,H1,I1,r1,q1⟩=>?_
  obtain ⟨a,kvs,e,hq,q⟩:=q1
  subst e
  cases r1
  have ok:=(show ObjOk X.prog X.w H1 s1.heap a (.dT kvs) from I1.hok a _ hq)
  obtain ⟨z,y,xs,rr,o,es,ep,h1,h2,h3,h4,h5⟩:=id ok
  obtain ⟨es',D⟩:=Zj2 h1 ok
  have nf:∀c ys,H1 c=some (.tup ys)->upd H1 a (.frz o (.dT kvs)) c=some (.tup ys):=λc ys ec=>by
    rw[Zap (Zjl ec hq (λz=>nomatch z))]; exact ec
  have I2:Inv X pins σ (upd H1 a (.frz o (.dT kvs))) { s1 with heap:=s1.heap,toks:=s1.toks } :=
    ZfL I1 (by rw[hq]; exact True.intro) ⟨rfl,λb hb=>rfl⟩ ⟨o,h1⟩ ⟨h1,z,y,xs,KT.keeps rr nf,o,es,ep,h1,h2,h3,h4,h5⟩
  refine Zni D.nos D.get D.ex D.dat ?_
  have hI:({ s1 with heap:=s1.heap.push { cls:=.type "dict_keyiterator", data:=.fields #[.ref a,.int 0 0,.int es'.size 0,.int (Znk o) 0] } }:Shared).heap.IsKeyIter s1.heap.objs.size a 0 kvs.length (Znk o):=by
    refine ⟨_,Heap.get?_push_size _ rfl,rfl,?_⟩
    rw[<-D.sz]; rfl
  refine ⟨s1.heap.objs.size,[s1.heap.objs.size],_,_,_,rfl,I2.kept (t':=s1.toks) λb o e=>Heap.get?_push_of_some _ e,Znl a _ o kvs,hI,λb hb=>?_,q o⟩
  have e:b=s1.heap.objs.size:=by simpa using hb
  subst e
  exact I2.fpOk (Q1 _) (I2.hok.fresh (Q1 _))
end
end L2
namespace L2
open PySem PySem.Spec PyProof.Rows
section
variable{prog:Program}{w:World}{A:Around}{E:Value->Shared->Prop}{s:Shared}
theorem Zpu{pairs:List (Sem Value×Sem Value)}{Q:Addr->Shared->Prop}(hu:A.units<cLine)(hlen:pairs.length<=15)
    (h:wpAny (model prog w) A (evalPairs pairs) (λvs s₁=>∃(ks:List Key) (b:Addr) (v:Value),vs=[(.ref b,v)]/\(tupleKind (ZaE prog w)).is s₁.heap ks b/\s₁.heap.DictOfH (tupleKind (ZaE prog w)) s.heap.objs.size [] ∧
      ∀h' t,h'.DictOfH (tupleKind (ZaE prog w)) s.heap.objs.size (storedH [] ks b v)->Heap.SameBut s.heap.objs.size s₁.heap h'->Q s.heap.objs.size { s₁ with heap:=h',toks:=t }) E
      { s with heap:=s.heap.push { cls:=.type "dict", data:=.dict #[] } }) :
    wpAny (model prog w) A (subDict pairs) Q E s:=by
  unfold subDict
  refine wpAny_bind (wpAny_alloc ?_)
  refine wpAny_bind (wpAny_holding ?_)
  rw[if_pos hlen]
  refine wpAny_bind (wpAny_mono h (λvs s₁ h₁=>?_) λ_ _ e=>e)
  obtain ⟨ks,b,v,rfl,hi,hm,hQ⟩:=h₁
  refine wpAny_holding ?_
  refine wpAny_bind ?_
  rw[List.forIn_cons]
  refine wpAny_bind (wpAny_bind (wpAny_dictSet_heap (hsz:=Qd _) (knd:=tupleKind (ZaE prog w)) hu hi hm λh' hm' hs=>wpAny_pure ?_))
  dsimp only
  rw[List.forIn_nil]
  exact wpAny_pure (wpAny_pure (wpAny_pure (hQ h' _ hm' hs)))
end
section
variable{X:Cx}
def Zoz(tk tv:TE):TE:=λσ H Q=>∀p,H p=none->tk σ (upd H p (.dT [])) λx H1=>tv σ H1 λy H2=>H2 p=some (.dT [])/\∃(ks:List Key) (b:Addr),x = .ref b/\H2 b=some (.tup (ks.map kV))/\Q (.ref p) (upd H2 p (.dT [(ks,y)]))
theorem ZlC{k v:Expr}{pos:Pos}{tk tv:TE}(hu:X.A.units+1<cLine)(hk:PE X k tk)(hv:PE X v tv):PE X (.Dict [some k] [v] pos) (Zoz tk tv):=by
  intro pins s σ H Q I q
  have hn:=I.hok.fresh (Q1 s.heap.objs.size)
  have I1:=I.laid (a:=s.heap.objs.size) (o:=.dT []) (h':=s.heap.push { cls:=.type "dict", data:=.dict #[] }) (t':=s.toks) (λ_ _ q=>Heap.get?_push_of_some _ q) (Q1 _) (Zil s.heap I.big)
  rw[arm_eval_Dict,zip_pairTrees [some k] [v] X.env pos rfl rfl,dictDisplay_pairs (pairTrees [some k] [v] X.env pos) (λz=>by have:=congrArg List.length z; rw[pairTrees_length _ _ _ _ rfl rfl] at this; cases this) (by rw[pairTrees_length _ _ _ _ rfl rfl]; show 1<17; decide)]
  refine wpAny_bind (wpAny_standAt (wpAny_bind (Zpu (Q:=λd s'=>wpAny (model X.prog X.w) X.A (pure (Value.ref d)) (EP X pins σ Q) X.xe s') (by omega) (by rw[pairTrees_length _ _ _ _ rfl rfl]; show 1<=15; decide) ?_)))
  refine pairTrees_cons_walk (thn (hk pins _ σ _ _ I1 (q _ hn)) λu s1 ⟨x,H1,I2,rx,q1⟩=>thn (hv pins s1 σ H1 _ I2 q1) λw2 s2 ⟨y,H2,I3,ry,e,ks,b,ex,hb,q2⟩=>pairTrees_nil_walk ?_)
  subst ex
  cases (show u=Value.ref b from rx)
  obtain ⟨z,hd,xs,rel,dd⟩:=Zou I3.hok e
  cases rel
  refine ⟨ks,b,w2,rfl,Zik I3.hok hb,dd,λh' t dd' hs=>wpAny_pure ⟨.ref s.heap.objs.size,_,?_,rfl,q2⟩⟩
  obtain ⟨o,es,ep,hq,h2,h3,h4,_,h5⟩:=dd'
  refine ZfL I3 (by rw[e]; exact True.intro) hs ⟨o,hq⟩ ⟨(by show 1<=sizeLine; decide),hd,[(ks,b,w2)],.cons ⟨rfl,?_,ry⟩ .nil,o,es,ep,hq,h2,h3,h4,h5⟩
  rw[Zap (Zjl hb e (λz=>nomatch z))]
  exact hb
end
theorem Znm{a:Addr}{o:Obj}{kvs:List (List Key×V)}{g:TG}{tb:TS}{D:Ends}{σ:St}{H:Hp}(Pv:Nat->St->Hp->Prop)(h0:Pv 0 σ H)(hl:∀i σ H,i<=kvs.length->Pv i σ H->H a=some (.frz o (.dT kvs)))
    (hs:∀i k v b σ H,kvs[i]?=some (k,v)->H b=some (.tup (k.map kV))->Pv i σ H->g (.ref b) σ H λσ2 H2=>tb { D with nx:=Pv (i+1),ct:=Pv (i+1),bk:=D.nx } σ2 H2) (hd:∀σ H,Pv kvs.length σ H->D.nx σ H) :
    ∃W:Nat->Nat->St->Hp->Prop,(∃m,W 0 m σ H)/\∀i m σ H,W i m σ H →
      ((Itk a o kvs).stop i H/\D.nx σ H)\/((Itk a o kvs).go i H/\∃N:St->Hp->Prop,(∀σ' H',N σ' H'->∃m',m'<m/\W (i+1) m' σ' H')/\∀x H',(Itk a o kvs).yld i H x H'->g x σ H' λσ2 H2=>tb { D with nx:=N,ct:=N,bk:=D.nx } σ2 H2):=by
  refine ⟨λi m σ H=>m=kvs.length-i/\i<=kvs.length/\Pv i σ H,⟨kvs.length,by simp,Qd _,h0⟩,?_⟩
  rintro i m σ H ⟨rfl,hi,p⟩
  have q:=hl i σ H hi p
  by_cases hlt:i<kvs.length
  · refine .inr ⟨⟨hlt,q⟩,Pv (i+1),λσ' H' p'=>⟨kvs.length-(i+1),by omega,rfl,hlt,p'⟩,λx H' y=>?_⟩
    obtain ⟨e,k,v,b,e1,e2,e3⟩:=y
    subst e e2
    exact hs i k v b σ _ e1 e3 p
  · have e:i=kvs.length:=by omega
    subst e
    exact .inl ⟨⟨rfl,q⟩,hd σ H p⟩
end L2
namespace L2
open PySem PySem.Spec PyProof.Rows
section
variable{prog:Program}{w:World}{A:Around}{E:Value->Shared->Prop}{s:Shared}{it t:Addr}{i:Nat}{items:Array Value}
theorem ZiU{x:Value}{Q:Value->Shared->Prop}(hit:s.heap.IsTupleIter it t i)(ht:s.heap.IsTuple t items)(hx:items[i]?=some x)
    (hQ:∀h',h'.IsTupleIter it t (i+1)->Heap.SameBut it s.heap h'->Q x { s with heap:=h' }) :
    wpAny (model prog w) A (Builtin.SmallTypes.nextOf (.ref it)) Q E s:=by
  obtain ⟨o,ho,hc,hd⟩:=id hit
  obtain ⟨ol,hol,_,nl,hdl⟩:=ht
  unfold Builtin.SmallTypes.nextOf
  refine wpAny_bind (wpAny_callSpecial?_slot (name:=Str.ofString "__next__") hit.typeIs PySem.F.slot_tuple_iterator_next
    (wpAny_call_entry PySem.F.slot_tuple_iterator_next hit.typeIs PySem.F.entry_tuple_iterator_next ?_ (PySem.F.args_tuple_iterator_next_1 _)))
  show wpAny _ _ (field (.ref it) 0 >>= _) _ _ s
  refine wpAny_bind (wpAny_field ho hd (x:=.ref t) rfl ?_)
  show wpAny _ _ (if (Value.ref t==Value.none)=true then _ else _) _ _ s
  rw[if_neg (show ¬((Value.ref t==Value.none)=true) from Qj)]
  show wpAny _ _ (field (.ref it) 1 >>= _) _ _ s
  refine wpAny_bind (wpAny_field ho hd (x:=.int i 0) rfl ?_)
  show wpAny _ _ (seqItems? (.ref t) >>= _) _ _ s
  refine wpAny_bind (wpAny_seqItems hol hdl ?_)
  simp only[Q7,hx]
  refine wpAny_bind (wpAny_setField ho hd (by simp) (wpAny_pure ⟨x,rfl,wpAny_pure (hQ _ ?_ (Heap.SameBut.update ..))⟩))
  exact ⟨_,Heap.get?_update_self _ ho (Obj.isFreed_of_fields (Obj.data_mapFields hd _)),(Obj.cls_mapFields ..).trans hc,by
    rw[Obj.data_mapFields hd]; simp[rawInt]⟩
theorem Zj3{Q:Value->Shared->Prop}(hh:A.handled=none)(hit:s.heap.IsTupleIter it t i)(ht:s.heap.IsTuple t items)(hx:items[i]?=none)
    (hE:∀h' e,Heap.ExtBut it s.heap h'->(∃o,h'.get? e=some o/\o.cls = .type "StopIteration")->E (.ref e) { s with heap:=h' }) :
    wpAny (model prog w) A (Builtin.SmallTypes.nextOf (.ref it)) Q E s:=by
  obtain ⟨o,ho,hc,hd⟩:=id hit
  obtain ⟨ol,hol,_,nl,hdl⟩:=ht
  unfold Builtin.SmallTypes.nextOf
  refine wpAny_bind (wpAny_callSpecial?_slot (name:=Str.ofString "__next__") hit.typeIs PySem.F.slot_tuple_iterator_next
    (wpAny_call_entry PySem.F.slot_tuple_iterator_next hit.typeIs PySem.F.entry_tuple_iterator_next ?_ (PySem.F.args_tuple_iterator_next_1 _)))
  show wpAny _ _ (field (.ref it) 0 >>= _) _ _ s
  refine wpAny_bind (wpAny_field ho hd (x:=.ref t) rfl ?_)
  show wpAny _ _ (if (Value.ref t==Value.none)=true then _ else _) _ _ s
  rw[if_neg (show ¬((Value.ref t==Value.none)=true) from Qj)]
  show wpAny _ _ (field (.ref it) 1 >>= _) _ _ s
  refine wpAny_bind (wpAny_field ho hd (x:=.int i 0) rfl ?_)
  show wpAny _ _ (seqItems? (.ref t) >>= _) _ _ s
  refine wpAny_bind (wpAny_seqItems hol hdl ?_)
  simp only[Q7,hx]
  refine wpAny_bind (wpAny_rule (wpAny_bind (wpAny_setField ho hd (by simp) ?_)))
  show wpAny _ _ (newExc (.type "StopIteration") [] >>= _) _ _ _
  refine wpAny_bind ?_
  simp only[newExc,newTuple]
  refine wpAny_bind (wpAny_newObj_type ?_ (by size_fits))
  refine wpAny_bind (m:=firstArgMember _ _) (wpAny_of_eq (a:=Value.none) (by first | rfl | (simp only[firstArgMember]; rfl)) ?_)
  refine wpAny_newObj_type ?_ (by size_fits)
  simp only[raiseNew]
  refine wpAny_bind (wpAny_handled ?_)
  first | rw[show A.in1.handled=none from hh] | rw[hh]
  refine wpAny_bind (wpAny_pure (wpAny_throw ?_))
  exact hE _ _ (((Heap.SameBut.update ..).extBut.push _).push _) ⟨_,Heap.get?_push_size _ rfl,rfl⟩
end
theorem ZgQ{prog:Program}{w:World}{A:Around}(hh:A.handled=none)(it t:Addr)(hne:t≠it)(items:Array Value) :
    Draws prog w A it [it,t] items.size (λi v=>items[i]?=some v) (λi h=>h.IsTupleIter it t i/\h.IsTuple t items) where
  live:=λ_ _ st=>let ⟨o,ho,_⟩:=st.1; ⟨o,ho⟩
  frame:=λ_ _ _ st hk=>⟨let ⟨o,ho,r⟩:=st.1; ⟨o,hk it (by simp) o ho,r⟩,let ⟨o,ho,r⟩:=st.2; ⟨o,hk t (by simp) o ho,r⟩⟩
  item:=λi s Q E hi st hQ=>by
    refine ZiU st.1 st.2 (x:=items[i]) (by simp[hi]) λh' hit' hs'=>?_
    exact hQ _ h' s.toks (by simp[hi]) ⟨hit',st.2.extBut hs'.extBut hne⟩ hs'
  done:=λs Q E st hE=>Zj3 hh st.1 st.2 (by simp) hE
set_option maxRecDepth 100000 in
set_option maxHeartbeats 2000000 in
theorem Zj4(l:Addr)(items:Array Value)(n:Nat)(dct:Option Addr)(sl:Array (Option Value)) :
    Meets (Builtin.«enumerate.__new__» ⟨[.type "enumerate", .ref l],[]⟩) (λ_ R s=>s.heap.get? l=some { cls:=.type "tuple", dict:=dct,data:=.seq items n,slots:=sl } ∧
      R (.ok (.ret (.ref (s.heap.push { cls:=.type "tuple_iterator", data:=.fields #[.ref l,.int 0 0] }).objs.size)))
        { s with heap:=(s.heap.push { cls:=.type "tuple_iterator", data:=.fields #[.ref l,.int 0 0] }).push { cls:=.type "enumerate", data:=.fields #[.none,.bool false,.ref s.heap.objs.size,rawInt 0,.none,.none] } }) :=
  .of_wp λprog w A R s h=>by
    obtain ⟨hp,g,d,tk,os⟩:=s; obtain ⟨hl,h⟩:=h
    have hsub:=sub_enumerate
    have hL:Heap.IsTuple (Shared.heap ⟨hp,g,d,tk,os⟩) l items:=⟨_,hl,rfl,n,rfl⟩
    wp_walk using AutoSeq1.wpAny_loadPart' hl
    refine wpAny_stack_any λst=>wpAny_pure ?_
    split
    · rename_i c _ _ _ _ _
      cases (c==Value.type "enumerate")
      · wp_walk using AutoSeq1.wpAny_loadPart' hl,wpAny_pyIter_tuple hL
        exact ⟨_,rfl,h⟩
      · wp_walk using AutoSeq1.wpAny_loadPart' hl,wpAny_pyIter_tuple hL
        exact ⟨_,rfl,h⟩
    · wp_walk using AutoSeq1.wpAny_loadPart' hl,wpAny_pyIter_tuple hL
      exact ⟨_,rfl,h⟩
theorem ZlD{prog:Program}{w:World}{A:Around}{E:Value->Shared->Prop}{s:Shared}{l:Addr}{items:Array Value}{Q:Value->Shared->Prop}(hL:s.heap.IsTuple l items)
    (h:∀h',IsEnum h' (s.heap.objs.size+1) s.heap.objs.size 0 .none->h'.IsTupleIter s.heap.objs.size l 0->h'.objs.size=s.heap.objs.size+2 →
      (∀b o,s.heap.get? b=some o->h'.get? b=some o)->Q (.ref (s.heap.objs.size+1)) { s with heap:=h' }) :
    wpAny (model prog w) A (call (.type "enumerate") [.ref l]) Q E s:=by
  obtain ⟨⟨c,dct,dt,sl⟩,hl,hc,n,hd⟩:=hL
  replace hc:c = .type "tuple" := hc
  replace hd:dt = .seq items n:=hd
  subst hc hd
  refine callType_new PySem.F.called_enumerate (by decide) (PySem.F.typeCall_enumerate_1 _) (PySem.F.newCall_enumerate_1 _) (λobj=>PySem.F.args_object_init_2 obj _) PySem.F.entry_enumerate_new
    (Zj4 l items n dct sl) ⟨hl,?_⟩
  have hz:(s.heap.push { cls:=.type "tuple_iterator", data:=.fields #[.ref l,.int 0 0] }).objs.size=s.heap.objs.size+1:=Heap.size_push ..
  show _/\_
  rw[hz]
  have he:IsEnum ((s.heap.push { cls:=.type "tuple_iterator", data:=.fields #[.ref l,.int 0 0] }).push
      { cls:=.type "enumerate", data:=.fields #[.none,.bool false,.ref s.heap.objs.size,rawInt 0,.none,.none] }) (s.heap.objs.size+1) s.heap.objs.size 0 .none:=by
    have:=Heap.get?_push_size (s.heap.push { cls:=.type "tuple_iterator", data:=.fields #[.ref l,.int 0 0] })
      (o:={ cls:=.type "enumerate", data:=.fields #[.none,.bool false,.ref s.heap.objs.size,rawInt 0,.none,.none] }) rfl
    rw[hz] at this; exact this
  refine ⟨⟨_,he,rfl⟩,h _ he ⟨_,Heap.get?_push_of_some _ (Heap.get?_push_size _ rfl),rfl,rfl⟩ (by rw[Heap.size_push,hz]) λb o x=>Heap.get?_push_of_some _ (Heap.get?_push_of_some _ x)⟩
end L2
namespace L2
open PySem PySem.Spec PyProof.Rows
def Ite(K:PySem.W.Frag)(a:Addr):It :=
  ⟨λi H=>∃xs x,SqT K H a xs/\xs[i]?=some x,
   λi H v H'=>∃T,H T=none/\v = .ref T/\∃x,(∀xs,SqT K H a xs->xs[i]?=some x)/\H'=upd H T (.tup [.int (i:Int),x]),
   λi H=>∃xs,SqT K H a xs/\xs.length=i⟩
theorem ZlE{P:Program}{w:World}{K:PySem.W.Frag}{elts:List Expr}{k0}{pos:Pos}{a e it:Addr}(n1:e≠it)(n2:a≠it)(n3:e≠a) :
    Turn P w K (.Tuple elts k0 pos) (Ite K a) [e,it] e (λi h=>(∃old,IsEnum h e it i old)/\h.IsTupleIter it a i) where
  mem:=by simp
  obj:=λi h ⟨⟨old,he⟩,⟨o,eo,_,d⟩⟩ c hc=>by
    simp only[Q8,Qz,or_false] at hc
    rcases hc with rfl | rfl
    · exact ⟨_,he,λv e=>nomatch (show Data.fields _=Data.cell v from e)⟩
    · exact ⟨o,eo,λv e=>by rw[d] at e; cases e⟩
  keep:=λi h h' ⟨⟨old,he⟩,⟨o,eo,r⟩⟩ k=>⟨⟨old,k e (by simp) _ he⟩,⟨o,k it (by simp) _ eo,r⟩⟩
  item:=by
    intro X hP hw hK hc i pins s σ H E I hf ⟨⟨old,he⟩,hit⟩ hg
    subst hP hw hK
    obtain ⟨xs,x,hq,hx⟩:=hg
    obtain ⟨its,rv,p,_⟩:=I.tuple hq
    have p:s.heap.IsTuple a its.toArray:=p
    have hl:=rv.length
    have hi:i<xs.length:=(Qf.mp hx).1
    obtain ⟨u,hu,ru⟩:=rv.get hx
    refine wpAny_pyNext_enum_itemD (ZgQ (prog:=X.prog) (w:=X.w) (A:=X.A.in1) (I.ok.hd hc) it a n2 its.toArray) he ⟨hit,p⟩ (by rw[Qb]; omega) n1 (by simp only[Q8,Qz,or_false]; exact λz=>z.elim n1 n3) λy h' tk hP ho hs' hT hsz hk=>?_
    have ey:y=u:=by
      have h1:its.toArray[i]?=some y:=hP
      have h2:its.toArray[i]?=some u:=by simpa using hu
      rw[h1] at h2
      exact Option.some.inj h2
    subst ey
    refine ⟨_,rfl,wpAny_letOwnedTupleGo_enum (s:={ s with heap:=h',toks:=tk+1 }) ho λh2 he2 hs2=>?_⟩
    have le:e<s.heap.objs.size:=Heap.lt_size he
    have lit:it<s.heap.objs.size:=let ⟨_,z,_⟩:=hit; Heap.lt_size z
    have kz:∀c o,c∉[e,it]->s.heap.get? c=some o->h2.get? c=some o:=λc o hc z=>by
      simp only[Q8,Qz,or_false,not_or] at hc
      exact (hs2.2 c hc.1).trans (hk c o hc.1 hc.2 z)
    have fresh:=I.hok.fresh (Q1 s.heap.objs.size)
    have I2:Inv X pins σ (upd H s.heap.objs.size (.tup [.int (i:Int),x])) { s with heap:=h2,toks:=tk+1 }:=I.multiT (t':=tk+1) (its:=[.int i tk,y]) hf kz (Q1 _) ⟨_,(hs2.2 _ (Wn le)).trans hT,rfl,_,rfl⟩ (.cons ⟨_,rfl⟩ (.cons ru .nil)) (by show 2<=sizeLine; decide)
    refine ⟨.ref s.heap.objs.size,_,I2,rfl,⟨_,fresh,rfl,x,λxs' z=>by rw[I.tuple_inj z hq]; exact hx,rfl⟩,⟨⟨_,by simpa using he2⟩,hs'.1.extBut hs2.extBut (Ne.symm n1)⟩,λc hc=>?_⟩
    have lt:c<s.heap.objs.size:=by
      simp only[Q8,Qz,or_false] at hc
      rcases hc with rfl | rfl
      · exact le
      · exact lit
    rw[Zap (Qa lt)]
    exact (hf c hc).1
  done:=by
    intro X hP hw hK hc i pins s σ H E I hf ⟨⟨old,he⟩,hit⟩ hg
    subst hP hw hK
    obtain ⟨xs,hq,hx⟩:=hg
    obtain ⟨its,rv,p,_⟩:=I.tuple hq
    have p:s.heap.IsTuple a its.toArray:=p
    have hl:=rv.length
    have ei:its.toArray.size=i:=by rw[Qb]; omega
    refine wpAny_pyNext_enum_endD (ZgQ (prog:=X.prog) (w:=X.w) (A:=X.A.in1) (I.ok.hd hc) it a n2 its.toArray) he (by rw[ei]; exact ⟨hit,p⟩) λh' k=>⟨rfl,I.multi (t':=s.toks) hf λc o hc z=>?_⟩
    simp only[Q8,Qz,or_false,not_or] at hc
    exact k c o hc.2 z
  self:=λ_ _ _ _ _ ⟨⟨_,he⟩,_⟩ h=>wpAny_pyIter_enum he h
section
variable{X:Cx}
def Zqq(K:PySem.W.Frag)(ta:TA):TI:=λσ H R=>ta σ H λvs H1=>∃a,vs=[.ref a]/\(∃xs,SqT K H1 a xs)/\R (Ite K a) H1
theorem ZoA{e1:Expr}{elts:List Expr}{k0}{tpos:Pos}{ta:TA}{p pos:Pos}(hg:Gl X "enumerate") (hm:X.mg "enumerate" = none) (ha:PA X [e1] ta) (hs:starEach [e1] X.env=[(false,eval e1 X.env)]:=by rfl) :
    PI X (.Tuple elts k0 tpos) (.Call (.Name "enumerate" p) [e1] [] pos) (Zqq X.K ta):=by
  intro pins s σ H R I h
  refine wpAny_Call_Name_kw (Zc0 I hg hm PyProof.Rows.Boot.«enumerate» (PyProof.Rows.callWith_type1 (thn (ha pos pins s σ H _ I h) λus s1 ⟨vs,H1,I1,r1,q1⟩=>?_) (by rw[hs]; rfl) (by rfl)))
  obtain ⟨a,e,⟨xs,hq⟩,q⟩:=q1
  subst e
  obtain ⟨u,rfl,ru⟩:=ZfB r1
  cases (show u=Value.ref a from ru)
  obtain ⟨its,_,pl,_⟩:=I1.tuple hq
  have pl:s1.heap.IsTuple a its.toArray:=pl
  have la:a<s1.heap.objs.size:=by obtain ⟨o,e,_⟩:=pl; exact Heap.lt_size e
  refine ZlD pl λh' he hi hsz k=>?_
  refine wpAny_pyIter_enum (s:={ s1 with heap:=h' }) he ?_
  refine ⟨_,[s1.heap.objs.size+1,s1.heap.objs.size],_,_,H1,rfl,I1.kept (t':=s1.toks) k,ZlE (a:=a) (e:=s1.heap.objs.size+1) (it:=s1.heap.objs.size) (Wn (U6 _)) (Qa la) (Wn (Nat.lt_succ_of_lt la)),⟨⟨_,he⟩,hi⟩,λc hc=>?_,q⟩
  have hc':s1.heap.objs.size<=c:=by
    simp only[Q8,Qz,or_false] at hc
    rcases hc with rfl | rfl <;> omega
  exact I1.fpOk hc' (I1.hok.fresh hc')
end
theorem ZlF{caps:List (Nat×Str)}{te:TE}{K:PySem.W.Frag}{a:Addr}{xs:List V}{σ:St}{H:Hp}{QL:List V->Hp->Prop}(Pv:Nat->List V->Hp->Prop)(hz:xs.length<=1000)(h0:Pv 0 [] H)(hl:∀i zs H,Pv i zs H->SqT K H a xs)
    (hs:∀i x T zs H,xs[i]?=some x->zs.length=i->H T=none->Pv i zs H->te (some (.int (i:Int))::some x::caps.map λp=>(σ[p.1]?).join) (upd H T (.tup [.int (i:Int),x])) λv H'=>Pv (i+1) (zs++[v]) H')
    (hd:∀zs H,zs.length=xs.length->Pv xs.length zs H->QL zs H) :
    ZeD 2 caps (Zo3 K 2 (Zjo (Zb6 0) (Zjo (Zb6 1) Zpe))) te σ (Ite K a) H QL:=by
  have hz':xs.length<sizeLine:=Zbu hz
  refine ⟨λi m zs H=>m=xs.length-i/\i<=xs.length/\zs.length=i/\Pv i zs H,⟨_,rfl,Qd _,rfl,h0⟩,?_⟩
  rintro i m zs H' ⟨rfl,hi,hy,p⟩
  have q1:=hl i zs H' p
  refine ⟨by omega,?_⟩
  by_cases hlt:i<xs.length
  · refine .inr ⟨⟨xs,xs[i],q1,by simp[hlt]⟩,by omega,λv H4=>Pv (i+1) (zs++[v]) H4,λv H4 p'=>⟨xs.length-(i+1),by omega,rfl,hlt,by rw[Qc,hy]; rfl,p'⟩,λx H2 y=>?_⟩
    obtain ⟨T,nT,rfl,u,e1,rfl⟩:=y
    exact ⟨T,[.int (i:Int),u],rfl,SqT.of Zae,rfl,.int (i:Int),_,rfl,u,_,rfl,rfl,Zon,hs i u T zs H' (e1 xs q1) hy nT p⟩
  · have e:i=xs.length:=by omega
    subst e
    exact .inl ⟨⟨xs,q1,rfl⟩,hd zs H' hy p⟩
end L2
namespace L2
open PySem PySem.Spec PyProof.Rows
section
variable{X:Cx}
def ZoB(K:PySem.W.Frag)(t:TE):TT:=λσ H Q=>t σ H λx H1=>∃a xs,x = .ref a/\SqT K H1 a xs/\Q (!xs.isEmpty) H1
theorem ZoC{e:Expr}{t:TE}(h:PE X e t)(he:∀whole,isTrue e X.env whole=(do let v ← whole; standAt e.pos; holding [v] (truthy v)):=by intro _; rfl):PT X e (ZoB X.K t):=by
  intro pins s σ H Q I hw
  refine isTrue_plain (thn (h pins s σ H _ I hw) λv s1 ⟨x,H1,I1,r1,q1⟩=>?_) (he _)
  obtain ⟨a,xs,rfl,hq,q⟩:=q1
  cases (show v=Value.ref a from r1)
  obtain ⟨its,rv,p,hz⟩:=I1.tuple hq
  have hl:=rv.length
  refine truthy_tuple p ?_ ?_
  · have:sizeLine<2^62:=by decide
    rw[Qb]
    omega
  · have e:(its.toArray.isEmpty)=xs.isEmpty:=by
      cases xs with
      | nil=>cases its with
        | nil=>rfl
        | cons _ _=>simp at hl
      | cons _ _=>cases its with
        | nil=>simp at hl
        | cons _ _=>rfl
    rw[e]
    exact ⟨H1,I1.tok _,q⟩
end
end L2
namespace L2
open PySem PySem.Spec PyProof.Rows
def ZoD(K:PySem.W.Frag)(C CE:Addr):Bool:=(K.lookup C).any λo=>match o.cls,o.data with
  | .type ty,.cls c=>ty == "type" && !c.hasDel&&c.hasDict&&c.mro == .ref C :: .ref CE::bmV&&(match o.slots.toList with | [_,_,_,_,some (.builtin n),_]=>n == "ValueError.__new__" | _=>false)
  | _,_=>false
structure XIni (K:PySem.W.Frag) (mg:Str->Option Value) (x:Str) (C CE f:Addr):Prop where
  cls:XCls K C
  mgx:mg x=some (.ref C)
  own:ZoD K C CE=true
  tail:PySem.W.tailIn K bmV (.ref CE::bmV)=true
  ini:PySem.W.findIn K (.ref C) "__init__" = some (some (.ref f))
  fn:PySem.W.typeIn K (.ref f)=some (.type "function")
  kp:PySem.W.keepIn K (.ref C)=true
  sa:PySem.W.findIn K (.ref C) "__setattr__" = some (some (.builtin "object.__setattr__"))
  sf:PySem.W.mroIn K C (.ref C)=some true
def Zpv(h:Heap)(C:Addr)(rest:List Value):Heap:=(h.push { cls:=.type "tuple", data:=.seq rest.toArray }).push { cls:=.ref C,data:=.fields #[.ref h.objs.size,.none,.none,.none,.bool false,.none] }
section
variable{prog:Program}{w:World}{A:Around}{K:PySem.W.Frag}{mg:Str->Option Value}{x:Str}{C CE f:Addr}{h:Heap}{g:Array GenState}{d:Drawn}{t:Nat}{os:OsState}{R:Result->Shared->Prop}
end
def ZpW(e C:Addr)(dd:Option Addr):HO:=.ext λh=>∃oe t,h.get? e=some oe/\oe.cls = .ref C/\oe.dict=dd/\oe.data = .fields #[.ref t,.none,.none,.none,.bool false,.none]
theorem Znn{P:Program}{w:World}{H:Hp}{h:Heap}{e C t:Addr}{dd:Option Addr}{oe:Obj}(he:h.get? e=some oe)(hc:oe.cls = .ref C)(hd:oe.dict=dd)(hv:oe.data = .fields #[.ref t,.none,.none,.none,.bool false,.none]):ObjOk P w H h e (ZpW e C dd) :=
  ⟨⟨oe,t,he,hc,hd,hv⟩,⟨oe,he⟩,λh1 h2 ⟨o1,t1,a,b,c,d⟩ k=>⟨o1,t1,k _ a,b,c,d⟩⟩
section
variable{X:Cx}{pins:List (Addr×Obj)}{σ:St}{H:Hp}{s:Shared}{C CE f e dd:Addr}{x:Str}
theorem Inv.exc(I:Inv X pins σ H s)(rest:List Value):Inv X pins σ (upd H (s.heap.objs.size+1) (ZpW (s.heap.objs.size+1) C none)) { s with heap:=Zpv s.heap C rest }:=by
  have he:(Zpv s.heap C rest).get? (s.heap.objs.size+1)=some { cls:=.ref C,data:=.fields #[.ref s.heap.objs.size,.none,.none,.none,.bool false,.none] }:=by unfold Zpv; heap_get
  exact I.laid (t':=s.toks) (λb o q=>Heap.get?_push_of_some _ (Heap.get?_push_of_some _ q)) (U7 _) (Znn he rfl rfl rfl)
end
section
variable{M:Model}{A:Around}{E:Value->Shared->Prop}{s:Shared}{P:Program}{w:World}{env:Env}{outer:List Env}{H:Hp}{L e t:Addr}{cls:Value}{dd:Option Addr}{Q:Unit->Shared->Prop}{B0:Heap}
end
section
variable{P:Program}{w:World}{K:PySem.W.Frag}{mg:Str->Option Value}{base:Heap}{N:List Str}{qual:Str}{scope:Scope}{f:Addr}{cd:Value}{A:Around}{outer:List Env}{s:Shared}{H:Hp}{E:XK}
end
end L2
namespace L2
open PySem PySem.Spec PyProof.Rows
section
variable{M:Model}{A:Around}{E:Value->Shared->Prop}{env:Env}{nm qn:Str}{C N:Addr}{bs bm:List Value}{hdct:Bool}{sn:List Str}{sub:List Value}{ab:Bool}{col:Option Bool}{dd:Option Addr}{k0 k1 k2 k3 k5:Option Value}{newId:String}
end
section
variable{X:Cx}{k:Nat}{C CE f:Addr}{fd:FuncData}{ps:List Str}{sp:Sp}{x:Str}{p pos np cpos:Pos}{e:Expr}{es:List Expr}{t:TA}
end
section
variable{X:Cx}{e:Expr}{te:TE}{c1 c2:Str}{p1 p2 p3 pos:Pos}
structure XUp (K:PySem.W.Frag) (mg:Str->Option Value) (x:Str) (CE:Addr):Prop where
  mgx:mg x=some (.ref CE)
  sg:PySem.W.specialIn K (.ref CE) "__getattribute__" = some (some (.builtin "type.__getattribute__"))
  rd:PySem.W.readsIn K CE (.type "type")=true
  fc:PySem.W.findCls K (.ref CE) (.type "type") "__init__" = some (.val (.builtin "ValueError.__init__"))
end
end L2
namespace L2
open PySem PySem.Spec PyProof.Rows
theorem Zj5:∀ {xs:List V} {us:List Value},xs.length=us.length->(∀(i:Nat) x u,xs[i]?=some x->us[i]?=some u->RelV x u)->Vals xs us
  | [],[],_,_ => .nil
  | [],_::_,h,_=>by simp at h
  | _::_,[],h,_=>by simp at h
  | x::xs,u::us,h,k => .cons (k 0 x u rfl rfl) (Zj5 (by simpa using h) λi y z a b=>k (i+1) y z (by simpa using a) (by simpa using b))
section
variable{X:Cx}{e1:Expr}{ta:TA}{p p2 pos pos2:Pos}
end
end L2
namespace L2
open PySem PySem.Spec PyProof.Rows
def ZpX(s:Shared)(a c:Int)(n:Nat)(res:Result)(s':Shared):Prop:=∃(h':Heap) (tk:Nat) (acc':Array Value) (c':Nat),res = .ok (.ret (.ref s.heap.objs.size))/\s'={ s with heap:=h',toks:=tk }/\(∀b o,s.heap.get? b=some o->h'.get? b=some o)/\h'.get? s.heap.objs.size=some { cls:=.type "list", dict:=none,data:=.seq acc' c',slots:=#[] }/\ItemsOf (λi v=>∃t,v = .int (a+i*c) t) acc' n
section
variable{prog:Program}{w:World}{A:Around}{E:Value->Shared->Prop}{s:Shared}
theorem Zhp{Q:List Value->Shared->Prop}{r:Addr}{a b c:Int}{t u v:Tok}{n:Nat}(hh:A.handled=none)(hr:IsRange s.heap r a b c t u v)(hsmall:Builtin.Range.small a b c=true)
    (hn:Builtin.Range.rangeSize a b c=n) (hlen:n<=2^24)
    (hQ:∀h' tk acc,(∀b o,s.heap.get? b=some o->h'.get? b=some o)->ItemsOf (λi v=>∃t,v = .int (a+i*c) t) acc n->Q acc.toList { s with heap:=h',toks:=tk }) :
    wpAny (model prog w) A (collect (.ref r)) Q E s:=by
  have lr:r<s.heap.objs.size:=Heap.lt_size hr
  unfold collect
  refine wpAny_bind (wpAny_runValue (codeAny_builtin PySem.F.entry_proto_collect ?_))
  rw[Around.under_plainId PySem.F.plain_proto_collect _]
  show wpAny _ A.in1 (newList [] >>= λl=>again (.builtin "list.__iadd__" ⟨[l,.ref r],[]⟩)) _ _ s
  refine wpAny_bind (wpAny_newObj_type ?_)
  have hS₁:(s.heap.push { cls:=.type "list", data:=.seq ([]:List Value).toArray }).get? s.heap.objs.size=some { cls:=.type "list", data:=.seq ([]:List Value).toArray }:=Heap.get?_push_size _ rfl
  refine wpAny_pure ⟨plainId_quiet PySem.F.plain_list_iadd _,codeAny_mono (codeAny_builtin (R:=ZpX s a c n) PySem.F.entry_list_iadd ?_) λr' s' hq=>?_⟩
  · rw[Around.under_plainId PySem.F.plain_list_iadd _]
    show wpAny _ A.in1 (Builtin.List.listExtendWith (.ref s.heap.objs.size) (.ref r) (.ref s.heap.objs.size)) _ _ _
    exact wpAny_extend_range (R:=ZpX s a c n) (prog:=prog) (w:=w) (s:={ s with heap:=s.heap.push { cls:=.type "list", data:=.seq ([]:List Value).toArray } }) (A:=A) hh (Heap.get?_push_of_some _ hr) hsmall hn hlen s.heap.objs.size (.ref s.heap.objs.size) _ hS₁ λh' tk acc' c' hk hS' hacc=>⟨h',tk,acc',c',rfl,rfl,λb o e=>hk b o (Qa (Heap.lt_size e)) (Heap.get?_push_of_some _ e),hS',hacc⟩
  · obtain ⟨h',tk,acc',c',rfl,rfl,hk,hS',hacc⟩:=hq
    show wpAny _ A (load s.heap.objs.size >>= _) _ _ _
    refine wpAny_bind (wpAny_load hS' ?_)
    exact wpAny_pure (hQ h' tk acc' hk hacc)
end
set_option maxRecDepth 100000 in
theorem ZiV(r:Addr)(a b c:Int)(t u v:Tok)(n:Nat)(hsmall:Builtin.Range.small a b c=true)(hn:Builtin.Range.rangeSize a b c=n)(hlen:n<=1000) :
    Meets (Builtin.«tuple.__new__» ⟨[.type "tuple", .ref r],[]⟩)
      (λA R s=>A.handled=none/\IsRange s.heap r a b c t u v/\∀(h':Heap) (tk:Nat) (acc:Array Value),(∀b o,s.heap.get? b=some o->h'.get? b=some o)->ItemsOf (λi v=>∃t,v = .int (a+i*c) t) acc n →
        R (.ok (.ret (.ref h'.objs.size))) { s with heap:=h'.push { cls:=.type "tuple", data:=.seq acc },toks:=tk }) :=
  .of_wp λprog w A R s h=>by
    obtain ⟨hh,hr,h⟩:=h
    have hsub:=sub_tuple_self
    have hinit:=init_tuple_lookup
    have hmh:=madeHere_tuple
    have hT:s.TypeIs (.ref r) "range" := ⟨_,hr,rfl⟩
    have hh1:A.in1.handled=none:=hh
    have hz:n<=sizeLine:=Qt (Zbu hlen)
    wp_walk using wpAny_typeOf hT,Zhp hh1 hr hsmall hn (Q2 hlen (by decide))
    intro h' tk acc hk hacc
    show wpAny _ _ (Builtin.Tuple.tupleExact acc.toList.toArray >>= λv=>ret v) _ _ _
    unfold Builtin.Tuple.tupleExact
    refine wpAny_bind (wpAny_newObj_type ?_ (show acc.toList.toArray.size<=sizeLine by simp only[Array.toArray_toList]; rw[hacc.1]; exact hz))
    refine wpAny_pure ⟨_,rfl,?_⟩
    have e:acc.toList.toArray=acc:=by simp
    rw[e]
    exact h h' tk acc hk hacc
section
variable{prog:Program}{w:World}{A:Around}{E:Value->Shared->Prop}{s:Shared}
theorem Zj6{Q:Value->Shared->Prop}{r:Addr}{a b c:Int}{t u v:Tok}{n:Nat}(hh:A.handled=none)(hr:IsRange s.heap r a b c t u v)(hsmall:Builtin.Range.small a b c=true)
    (hn:Builtin.Range.rangeSize a b c=n) (hlen:n<=1000)
    (h:∀(h':Heap) (tk:Nat) (acc:Array Value),(∀b o,s.heap.get? b=some o->h'.get? b=some o)->ItemsOf (λi v=>∃t,v = .int (a+i*c) t) acc n->Q (.ref h'.objs.size) { s with heap:=h'.push { cls:=.type "tuple", data:=.seq acc },toks:=tk }) :
    wpAny (model prog w) A (call (.type "tuple") [.ref r]) Q E s:=by
  refine callType_new PySem.F.called_tuple (by decide) (PySem.F.typeCall_tuple_1 _) (PySem.F.newCall_tuple_1 _) (λobj=>PySem.F.args_object_init_2 obj _) PySem.F.entry_tuple_new
    (ZiV r a b c t u v n hsmall hn hlen) ⟨hh,hr,λh' tk acc hk hacc=>⟨⟨_,Heap.get?_push_size _ rfl,rfl⟩,h h' tk acc hk hacc⟩⟩
end
section
variable{X:Cx}{e1:Expr}{ta:TA}{p p2 pos pos2:Pos}
def Zpw(ta:TA):TE:=λσ H Q=>ta σ H λvs H1=>∃n:Nat,vs=[.int (n:Int)]/\n<=1000/\∀p,H1 p=none->Q (.ref p) (upd H1 p (.tup ((List.range n).map λ(i:Nat)=>V.int (i:Int))))
theorem Zj7(hgl:Gl X "tuple") (hml:X.mg "tuple" = none) (hg:Gl X "range") (hm:X.mg "range" = none) (hcalm:X.calm=true) (ha:PA X [e1] ta) (hs:starEach [e1] X.env=[(false,eval e1 X.env)]:=by rfl) (hs2:starEach [.Call (.Name "range" p) [e1] [] pos] X.env=[(false,eval (.Call (.Name "range" p) [e1] [] pos) X.env)]:=by rfl) :
    PE X (.Call (.Name "tuple" p2) [.Call (.Name "range" p) [e1] [] pos] [] pos2) (Zpw ta):=by
  intro pins s σ H Q I h
  refine wpAny_Call_Name_kw (Zc0 I hgl hml boot_tuple ?_)
  refine PyProof.Rows.callWith_type1 ?_ (by rw[hs2]; rfl) (by rfl)
  rw[hs2]
  show wpAny _ _ (spliced ((false,eval (.Call (.Name "range" p) [e1] [] pos) X.env)::backTo pos2 (starEach [] X.env))) _ _ s
  refine Calls.spliced_cons ?_
  refine wpAny_Call_Name_kw (Zc0 I hg hm boot_range (PyProof.Rows.callWith_type1 (thn (ha pos pins s σ H _ I h) λus s1 ⟨vs,H1,I1,r1,q1⟩=>?_) (by rw[hs]; rfl) (by rfl)))
  obtain ⟨n,e,hn,q⟩:=q1
  subst e
  obtain ⟨u,rfl,t,rfl⟩:=ZfB r1
  refine call_range_1 (Calls.spliced_nil ?_)
  have sm:Builtin.Range.small 0 (n:Int) 1=true:=small_one (by omega) (by omega) (by omega) (by omega)
  have sz:Builtin.Range.rangeSize 0 (n:Int) 1=n:=by
    unfold Builtin.Range.rangeSize
    rw[if_pos (by decide)]
    simp only[Int.ediv_one]
    split <;> omega
  refine Zj6 (I1.ok.hd hcalm) (IsRange.new ..) sm sz hn λh' tk acc hk hacc=>?_
  obtain ⟨a1,a2⟩:=hacc
  have kp:∀b o',s1.heap.get? b=some o'->(h'.push { cls:=.type "tuple", data:=.seq acc }).get? b=some o':=λb o' e=>Heap.get?_push_of_some _ (hk b o' (Heap.get?_push_of_some _ e))
  have hp:s1.heap.objs.size<=h'.objs.size:=by
    have lt:s1.heap.objs.size<h'.objs.size:=Heap.lt_size (hk s1.heap.objs.size _ (Heap.get?_push_size s1.heap rfl))
    exact Qt lt
  refine ⟨.ref _,_,I1.laid (t':=tk) (h':=h'.push { cls:=.type "tuple", data:=.seq acc }) kp hp ?_,rfl,q _ (I1.hok.fresh hp)⟩
  refine ⟨by rw[Q0,W4]; exact Qt (Zbu hn),acc.toList,Zj5 (by rw[Q0,W4,Uv,a1]) (λi y z hy hz=>?_),⟨_,Heap.get?_push_size _ rfl,rfl,0,by simp⟩⟩
  have hi:i<n:=by
    have:=(Qf.mp hy).1
    rwa [Q0,W4] at this
  rw[Qh,Wj hi] at hy
  cases hy
  obtain ⟨t',rfl⟩:=a2 i z (by rw[<-hz,Array.getElem?_toList])
  exact ⟨t',by rw[show (0:Int)+(i:Int)*1=(i:Int) by omega]⟩
end
end L2
namespace My
open PySem L2 PyProof.Rows
def top(i:Nat):Stmt:=PySem.Challenge.pw_turnframe_k34_whole_three_ways.main.body.getD i (.Pass ⟨0,0,0,0⟩)
abbrev Zc8:Stmt:=top 7
abbrev Zci:Stmt:=top 8
abbrev Zc9:Stmt:=top 9
abbrev Zcw:Stmt:=top 10
abbrev ZdN:Stmt:=top 11
abbrev Zda:Stmt:=top 12
abbrev Zhq:Stmt:=top 13
abbrev ZdO:Stmt:=top 16
abbrev ZeH:Stmt:=top 17
abbrev ZfM:Stmt:=top 18
abbrev Zcx:Stmt:=top 19
abbrev ZdP:Stmt:=top 20
abbrev ZeI:Stmt:=top 21
abbrev Zdb:Stmt:=top 23
abbrev ZeJ:Stmt:=top 25
abbrev Zj8:Stmt:=top 26
abbrev ZbZ:Stmt:=top 27
abbrev Zb0:Stmt:=top 28
abbrev Zb1:Stmt:=top 29
abbrev ZeK:Stmt:=top 30
abbrev ZdQ:Stmt:=top 32
abbrev ZdR:Stmt:=top 33
abbrev Zb2:Stmt:=top 34
abbrev Zdc:Stmt:=top 35
abbrev Zdd:Stmt:=top 36
abbrev Za6:Stmt:=ZaZ (top 38) 2
abbrev ZaM:Stmt:=ZaZ (top 39) 0
abbrev ZbB:Stmt:=ZaZ (top 39) 1
abbrev Zbk:Stmt:=ZaZ (top 39) 2
abbrev Zbl:Stmt:=ZaZ (top 39) 3
abbrev ZbC:Stmt:=ZaZ (top 39) 4
abbrev ZaG:Stmt:=ZaZ (top 39) 5
abbrev ZaN:Stmt:=ZaZ (top 39) 6
abbrev Za0:Stmt:=ZaZ (top 39) 8
abbrev ZbD:Stmt:=ZaZ (top 40) 0
abbrev Za9:Stmt:=ZaZ (top 40) 1
abbrev Zcy:Stmt:=ZaZ (top 40) 2
abbrev Zcj:Stmt:=ZaZ (top 40) 3
abbrev Zck:Stmt:=ZaZ (top 40) 4
abbrev Zcz:Stmt:=ZaZ (top 40) 5
abbrev ZaS:Stmt:=ZaZ (top 40) 6
abbrev Zbm:Stmt:=ZaZ (top 40) 7
abbrev ZbE:Stmt:=top 42
abbrev ZbF:Stmt:=top 44
abbrev Zbn:Stmt:=top 45
abbrev ZeL:Stmt:=top 46
abbrev ZeM:Stmt:=top 48
abbrev Zde:Stmt:=top 49
abbrev ZcA:Stmt:=top 50
abbrev ZeN:Stmt:=top 51
abbrev ZfN:Stmt:=top 52
abbrev ZdS:Stmt:=top 53
abbrev ZfO:Stmt:=top 54
abbrev ZeO:Stmt:=top 55
abbrev ZfP:Stmt:=top 56
abbrev ZeP:Stmt:=top 57
abbrev ZeQ:Stmt:=top 58
abbrev ZeR:Stmt:=top 59
abbrev ZfQ:Stmt:=top 60
abbrev ZdT:Stmt:=top 61
abbrev Zhr:Stmt:=top 62
abbrev ZeS:Stmt:=top 63
abbrev Zdf:Stmt:=top 64
abbrev Zcl:Stmt:=top 65
abbrev ZfR:Stmt:=top 66
abbrev Zno:Stmt:=top 67
structure Nm (mg:Str->Option Value):Prop where
  abs:mg "abs" = none
  isinstance:mg "isinstance" = none
  int:mg "int" = none
  bool:mg "bool" = none
  tuple:mg "tuple" = none
  list:mg "list" = none
  len:mg "len" = none
  range:mg "range" = none
  PB:∃t,mg "PRIME_BOUND" = some (.int 1000000 t)
theorem nm_mk{mg:Str->Option Value}{v:Value}(h1:mg "PRIME_BOUND" = some v) (h2:∃t,v = .int 1000000 t) (a1:mg "abs" = none) (a2:mg "isinstance" = none) (a3:mg "int" = none) (a4:mg "bool" = none) (a5:mg "tuple" = none) (a6:mg "list" = none) (a7:mg "len" = none) (a8:mg "range" = none):Nm mg :=
  ⟨a1,a2,a3,a4,a5,a6,a7,a8,let ⟨t,e⟩:=h2; ⟨t,by rw[h1,e]⟩⟩
structure Kd (K:PySem.W.Frag) (mg:Str->Option Value) (CF CR:Addr):Prop where
  clF:Cls K CF
  clR:Cls K CR
  nP:NoAttr K CR "prime"
  mkF:Mk0 K CF
  mgF:mg "Fractions" = some (.ref CF)
  mgR:mg "Rests" = some (.ref CR)
def fsR(p:Int):List (Str×V):=Zgv "prime" (.int p) []
theorem ZbM(p:Int):(fsR p).lookup ("prime" : Str)=some (.int p):=by
  unfold fsR
  rw[Zce,if_pos rfl]
theorem Zc3(p:Int){m:Str}(h:¬m = "prime"):(fsR p).lookup m=none:=by
  unfold fsR
  rw[Zce,if_neg h]
  rfl
structure Fc (a b:Int):Prop where
  pos:0<b
  cop:Int.gcd a b=1
def FrA(CF:Addr)(H:Hp)(a:Addr):Prop:=∃dx,H a=some (.ins CF dx [])
theorem Zj9{b:Int}(h:0<b):0<b.natAbs:=Ua (Int.natAbs_ne_zero.mpr (Wv h))
inductive ZaU (vs:List V) (H:Hp) (Q:VK) (zE:XK):Prop
  | mk (a b:Int) (_:vs=[.int a,.int b]) (_:Q (.int (Int.gcd a b)) H):ZaU vs H Q zE
section
variable{P:Program}{w:World}{K:PySem.W.Frag}{mg:Str->Option Value}{base:Heap}
theorem sc_divisor:FnScope ["one", "other", "rest"] ["one", "other"] (Zah ZeH):=⟨rfl,rfl,rfl,by decide +kernel,rfl,by decide +kernel,by decide +kernel⟩
theorem ZiW(h:Here K mg "divisor" ZeH) (T:Nm mg):Has P w K mg base "divisor" 1 ["one", "other"] ZaU:=by
  refine h.has (λf fd F=>F.binds λ_ _ _ _ _ _ us hl=>by obtain ⟨_,_,rfl⟩:=Zed hl; exact rfl) λf fd F=>F.ok sc_divisor (λvs H Q E h=>?_) (λcdv A outer s H vs Q E hr h=>?_)
  · obtain ⟨a,b,rfl,_⟩:=h
    rfl
  obtain ⟨x,y,rfl,k⟩:=h
  have nd:=sc_divisor.nd
  refine ⟨_,(Zab (ZcN PassesOwn.never (Zaq Zgt (pv 1) Zac (Zar _)) (Zab (Zaj (i:=2) nd rfl (Or.inl rfl) (Zai ZaD (pv 0) (pv 1)))
      (Zab (Zaj (i:=0) nd rfl (Or.inl rfl) (pv 1))
      (Zaf (Zaj (i:=1) nd rfl (Or.inl rfl) (pv 2))))))
    (Zaf (Zam (Zas Zid (by rfl) T.abs boot_abs (Zaa (pv 0) Zad))))),?_⟩
  refine ⟨λm σ H'=>∃(a b:Int) (r:Option V),m=b.natAbs/\σ=[some (.int a),some (.int b),r]/\H'=H/\Int.gcd a b=Int.gcd x y,⟨_,x,y,none,rfl,rfl,rfl,rfl⟩,?_⟩
  rintro m σ H' ⟨a,b,r,rfl,rfl,rfl,g⟩
  refine ⟨_,rfl,rfl,_,rfl,?_⟩
  refine ZeC (λhb=>⟨_,λ_ _ h=>h,?_⟩) (λhb=>?_)
  · refine ⟨_,rfl,_,rfl,_,_,rfl,rfl,hb,_,rfl,_,rfl,?_⟩
    exact ⟨_,M1.fmod_lt a hb,b,a.fmod b,_,rfl,rfl,rfl,by rw[M1.fmod_gcd]; exact g⟩
  · refine ⟨_,rfl,_,rfl,?_⟩
    subst hb
    rw[<-M1.gcd_zero' a,g]
    exact k
end
section
variable{P:Program}{w:World}{K:PySem.W.Frag}{mg:Str->Option Value}{base:Heap}
theorem sc_l_divisor:FnScope ["_law_one", "_law_other"] ["_law_one", "_law_other"] (Zah Zde):=⟨rfl,rfl,rfl,by decide +kernel,rfl,by decide +kernel,by decide +kernel⟩
theorem ZgR(h:Here K mg "_law_divisor" Zde) (T:Nm mg):Has P w K mg base "_law_divisor" 1 ["_law_one", "_law_other"] ZaU:=by
  refine h.has (λf fd F=>F.binds λ_ _ _ _ _ _ us hl=>by obtain ⟨_,_,rfl⟩:=Zed hl; exact rfl) λf fd F=>F.ok sc_l_divisor (λvs H Q E h=>?_) (λcdv A outer s H vs Q E hr h=>?_)
  · obtain ⟨a,b,rfl,_⟩:=h
    rfl
  obtain ⟨x,y,rfl,k⟩:=h
  have nd:=sc_l_divisor.nd
  refine ⟨_,(Zab (ZcN PassesOwn.never (Zaq Zgt (pv 1) Zac (Zar _)) (Zaf (Zn5 (i:=0) (j:=1) rfl nd rfl rfl (by decide) rfl rfl (Zaa (pv 1) (Zaa (Zai ZaD (pv 0) (pv 1)) Zad)) rfl)))
    (Zaf (Zam (Zas Zid (by rfl) T.abs boot_abs (Zaa (pv 0) Zad))))),?_⟩
  refine ⟨λm σ H'=>∃(a b:Int),m=b.natAbs/\σ=[some (.int a),some (.int b)]/\H'=H/\Int.gcd a b=Int.gcd x y,⟨_,x,y,rfl,rfl,rfl,rfl⟩,?_⟩
  rintro m σ H' ⟨a,b,rfl,rfl,rfl,g⟩
  refine ⟨_,rfl,rfl,_,rfl,?_⟩
  refine ZeC (λhb=>⟨_,λ_ _ h=>h,?_⟩) (λhb=>?_)
  · refine ⟨_,rfl,_,rfl,_,rfl,_,_,rfl,rfl,hb,_,_,rfl,?_⟩
    exact ⟨_,M1.fmod_lt a hb,b,a.fmod b,rfl,rfl,rfl,by rw[M1.fmod_gcd]; exact g⟩
  · refine ⟨_,rfl,_,rfl,?_⟩
    subst hb
    rw[<-M1.gcd_zero' a,g]
    exact k
end
inductive Zdw (vs:List V) (H:Hp) (Q:VK) (zE:XK):Prop
  | mk (i:Int) (_:vs=[.int i]) (_:Q (.bl true) H):Zdw vs H Q zE
section
variable{P:Program}{w:World}{K:PySem.W.Frag}{mg:Str->Option Value}{base:Heap}
theorem Zhs:FnScope ["thing"] ["thing"] (Zah ZdO):=⟨rfl,rfl,rfl,by decide +kernel,rfl,by decide +kernel,by decide +kernel⟩
theorem Zht(h:Here K mg "is_whole" ZdO) (T:Nm mg):Has P w K mg base "is_whole" 1 ["thing"] Zdw:=by
  refine h.has (λf fd F=>F.binds λ_ _ _ _ _ _ us hl=>by obtain ⟨_,rfl⟩:=Zlu hl; exact rfl) λf fd F=>F.ok Zhs (λvs H Q E h=>?_) (λcdv A outer s H vs Q E hr h=>?_)
  · obtain ⟨_,rfl,_⟩:=h
    rfl
  obtain ⟨i,rfl,k⟩:=h
  refine ⟨_,(Zaf (Zam (Zfp (Zas Zcg (by rfl) T.isinstance boot_isinstance (Zaa (pv 0) (Zaa (ZjH (by rfl) T.int boot_int) Zad))) (Zgs (Zmj (Zas Zcg (by rfl) T.isinstance boot_isinstance (Zaa (pv 0) (Zaa (ZjH (by rfl) T.bool boot_bool) Zad)))))))),?_⟩
  refine ⟨_,rfl,_,_,_,_,rfl,.int i,ZfF K _,_,rfl,?_⟩
  refine ZiN ?_
  exact ⟨_,rfl,_,_,_,_,rfl,.int i,Zea K,_,rfl,k⟩
end
section
variable{P:Program}{w:World}{K:PySem.W.Frag}{mg:Str->Option Value}{base:Heap}
theorem ZiX:FnScope ["_law_found"] ["_law_found"] (Zah ZeM):=⟨rfl,rfl,rfl,by decide +kernel,rfl,by decide +kernel,by decide +kernel⟩
theorem ZiY(h:Here K mg "_law_whole" ZeM) (T:Nm mg):Has P w K mg base "_law_whole" 1 ["_law_found"] Zdw:=by
  refine h.has (λf fd F=>F.binds λ_ _ _ _ _ _ us hl=>by obtain ⟨_,rfl⟩:=Zlu hl; exact rfl) λf fd F=>F.ok ZiX (λvs H Q E h=>?_) (λcdv A outer s H vs Q E hr h=>?_)
  · obtain ⟨_,rfl,_⟩:=h
    rfl
  obtain ⟨i,rfl,k⟩:=h
  refine ⟨_,(Zaf (Zam (Zfp (Zas Zcg (by rfl) T.isinstance boot_isinstance (Zaa (pv 0) (Zaa (ZjH (by rfl) T.int boot_int) Zad))) (Zgs (Zmj (Zas Zcg (by rfl) T.isinstance boot_isinstance (Zaa (pv 0) (Zaa (ZjH (by rfl) T.bool boot_bool) Zad)))))))),?_⟩
  refine ⟨_,rfl,_,_,_,_,rfl,.int i,ZfF K _,_,rfl,?_⟩
  refine ZiN ?_
  exact ⟨_,rfl,_,_,_,_,rfl,.int i,Zea K,_,rfl,k⟩
end
inductive Zdx (vs:List V) (H:Hp) (Q:VK) (zE:XK):Prop
  | mk (n:Int) (_:vs=[.int n]) (_:n<1000000) (_:(M2.Prm n->Q (.bl true) H)) (_:(¬M2.Prm n->Q (.bl false) H)):Zdx vs H Q zE
section
variable{P:Program}{w:World}{K:PySem.W.Frag}{mg:Str->Option Value}{base:Heap}
theorem sc_is_prime:FnScope ["number", "trial"] ["number"] (Zah ZdP):=⟨rfl,rfl,rfl,by decide +kernel,rfl,by decide +kernel,by decide +kernel⟩
theorem Zhu(h:Here K mg "is_prime" ZdP) (T:Nm mg):Has P w K mg base "is_prime" 1 ["number"] Zdx:=by
  refine h.has (λf fd F=>F.binds λ_ _ _ _ _ _ us hl=>by obtain ⟨_,rfl⟩:=Zlu hl; exact rfl) λf fd F=>F.ok sc_is_prime (λvs H Q E h=>?_) (λcdv A outer s H vs Q E hr h=>?_)
  · obtain ⟨_,rfl,_⟩:=h
    rfl
  obtain ⟨n,rfl,hn,kt,kf⟩:=h
  have nd:=sc_is_prime.nd
  obtain ⟨tk,hPB⟩:=T.PB
  refine ⟨_,(Zab (ZaF (Zjn (Zaq Zhg (pv 0) Zac (Zar _)) (Zgr (Zaq Zpk (pv 0) (ZmO (v:=.int 1000000) (by rfl) hPB ⟨tk,rfl⟩) (Zar _)))).pt (Zaf (Zam Zgq)) Zav)
    (Zab (ZaF (Zaq Za8 (Zai ZaQ (pv 0) Zac) Zac (Zar _)) (Zaf (Zam (Zbz Za8 (pv 0) Zac (Zar _)))) Zav)
    (Zab (Zaj (i:=1) nd rfl (Or.inl rfl) Zac)
    (Zab (ZcN PassesOwn.never (Zaq Zn7 (Zai ZaA (pv 1) (pv 1)) (pv 0) (Zar _)) (Zab (ZaF (Zaq Za8 (Zai ZaD (pv 0) (pv 1)) Zac (Zar _)) (Zaf (Zam Zgq)) Zav)
      (Zaf (Zjp (i:=1) nd rfl (Or.inl rfl) Zac Zmk))))
    (Zaf (Zam Zgq)))))),?_⟩
  refine ⟨_,rfl,_,_,rfl,rfl,_,rfl,?_⟩
  refine Zcu (λh=>ZiN (kf λp=>by have:=p.1; omega)) (λh2=>?_)
  refine ⟨_,rfl,_,_,rfl,rfl,_,rfl,?_⟩
  refine Zcu (λh=>absurd h (by omega)) (λ_=>?_)
  refine ⟨_,rfl,_,_,rfl,rfl,(by show (0:Int)<_; decide),rfl,_,rfl,?_⟩
  refine Zbv (λe=>?_) (λe=>?_)
  · refine ⟨_,rfl,rfl,?_⟩
    rw[Zhi]
    have iff:=M2.prm_even (n:=n) (by omega) e
    by_cases hp:n=2
    · rw[decide_eq_true hp]; exact kt (iff.mpr hp)
    · rw[decide_eq_false hp]; exact kf λz=>hp (iff.mp z)
  refine ⟨λm σ H'=>∃t:Int,m=(n+2-t).toNat/\σ=[some (.int n),some (.int t)]/\H'=H/\3<=t/\t%2=1/\t<=n+2/\M2.No n t,⟨_,3,rfl,rfl,rfl,by omega,by omega,by omega,M2.No.odd e⟩,?_⟩
  rintro m σ H' ⟨t,rfl,rfl,rfl,h3,ho,hle,no⟩
  have tf:t.natAbs<=10^150:=Q2 (show t.natAbs<=1000002 by omega) (by decide)
  refine ⟨_,rfl,_,rfl,_,_,rfl,rfl,(ZbA tf tf),_,rfl,_,_,rfl,rfl,_,rfl,?_⟩
  refine Zcu (λhl=>⟨_,λ_ _ h=>h,?_⟩) (λhl=>?_)
  · refine ⟨_,rfl,_,rfl,_,_,rfl,rfl,(show t≠0 by omega),rfl,_,rfl,?_⟩
    have lt:=M2.le_of_sq (by omega) hl
    refine Zbv (λz=>kf (M2.found (by omega) hl ((M2.fmod_dvd (by omega)).mp z))) (λz=>?_)
    refine ⟨_,rfl,_,_,rfl,rfl,?_⟩
    exact ⟨_,by omega,t+2,rfl,rfl,rfl,by omega,by omega,by omega,no.next e ho λd=>z ((M2.fmod_dvd (by omega)).mpr d)⟩
  · exact kt (no.done (by omega) (by omega) hl)
end
section
variable{P:Program}{w:World}{K:PySem.W.Frag}{mg:Str->Option Value}{base:Heap}
theorem sc_l_is_prime:FnScope ["_law_number", "_law_by"] ["_law_number"] (Zah ZcA):=⟨rfl,rfl,rfl,by decide +kernel,rfl,by decide +kernel,by decide +kernel⟩
theorem ZfS(h:Here K mg "_law_is_prime" ZcA):Has P w K mg base "_law_is_prime" 1 ["_law_number"] Zdx:=by
  refine h.has (λf fd F=>F.binds λ_ _ _ _ _ _ us hl=>by obtain ⟨_,rfl⟩:=Zlu hl; exact rfl) λf fd F=>F.ok sc_l_is_prime (λvs H Q E h=>?_) (λcdv A outer s H vs Q E hr h=>?_)
  · obtain ⟨_,rfl,_⟩:=h
    rfl
  obtain ⟨n,rfl,hn,kt,kf⟩:=h
  have nd:=sc_l_is_prime.nd
  refine ⟨_,(Zab (Zaj (i:=1) nd rfl (Or.inl rfl) Zac)
    (Zab (ZcN PassesOwn.never (Zaq Zn7 (Zai ZaA (pv 1) (pv 1)) (pv 0) (Zar _)) (Zab (ZaF (Zaq Za8 (Zai ZaD (pv 0) (pv 1)) Zac (Zar _)) (Zaf (Zam Zgq)) Zav)
      (Zaf (Zaj (i:=1) nd rfl (Or.inl rfl) (Zai ZaY (pv 1) Zac)))))
    (Zaf (Zam (Zbz ZfA (pv 0) Zac (Zar _)))))),?_⟩
  refine ⟨λm σ H'=>∃t:Int,m=(n+2-t).toNat/\σ=[some (.int n),some (.int t)]/\H'=H/\2<=t/\(t<=2\/t<=n)/\M2.No n t,⟨_,2,rfl,rfl,rfl,by omega,by omega,M2.No.two⟩,?_⟩
  rintro m σ H' ⟨t,rfl,rfl,rfl,h3,hle,no⟩
  have tf:t.natAbs<=10^150:=Q2 (show t.natAbs<=1000002 by omega) (by decide)
  refine ⟨_,rfl,_,rfl,_,_,rfl,rfl,(ZbA tf tf),_,rfl,_,_,rfl,rfl,_,rfl,?_⟩
  refine Zcu (λhl=>⟨_,λ_ _ h=>h,?_⟩) (λhl=>?_)
  · refine ⟨_,rfl,_,rfl,_,_,rfl,rfl,(show t≠0 by omega),rfl,_,rfl,?_⟩
    have lt:=M2.le_of_sq (by omega) hl
    refine Zbv (λz=>kf (M2.found (by omega) hl ((M2.fmod_dvd (by omega)).mp z))) (λz=>?_)
    refine ⟨_,rfl,_,_,rfl,rfl,?_⟩
    exact ⟨_,by omega,t+1,rfl,rfl,rfl,by omega,by omega,no.one λd=>z ((M2.fmod_dvd (by omega)).mpr d)⟩
  · refine ⟨_,rfl,_,_,rfl,rfl,?_⟩
    show Q (V.bl (decide (1<n))) _
    by_cases h2:1<n
    · rw[decide_eq_true h2]; exact kt (no.done (by omega) (by omega) hl)
    · rw[decide_eq_false h2]; exact kf λp=>by have:=p.1; omega
end
inductive Zcm (K:PySem.W.Frag) (vs:List V) (H:Hp) (Q:VK) (zE:XK):Prop
  | mk (p r:Addr) (q a0 a1 a2 b0 b1 b2:Int) (_:vs=[.ref p,.int q,.ref r]) (_:SqT K H p [.int a0,.int a1,.int a2]) (_:SqT K H r [.int b0,.int b1,.int b2]) (_:IntMulOk q b0) (_:IntMulOk q b1) (_:IntMulOk q b2) (_:∀t,H t=none->Q (.ref t) (upd H t (.tup [.int (a0-q*b0),.int (a1-q*b1),.int (a2-q*b2)]))):Zcm K vs H Q zE
section
variable{P:Program}{w:World}{K:PySem.W.Frag}{mg:Str->Option Value}{base:Heap}
theorem ZfT:FnScope ["some", "factor", "others"] ["some", "factor", "others"] (Zah Zcx):=⟨rfl,rfl,rfl,by decide +kernel,rfl,by decide +kernel,by decide +kernel⟩
theorem ZfU(h:Here K mg "less_times" Zcx):Has P w K mg base "less_times" 1 ["some", "factor", "others"] (Zcm K):=by
  refine h.has (λf fd F=>F.binds λ_ _ _ _ _ _ us hl=>by obtain ⟨_,_,_,rfl⟩:=Zei hl; exact rfl) λf fd F=>F.ok ZfT (λvs H Q E h=>?_) (λcdv A outer s H vs Q E hr h=>?_)
  · obtain ⟨_,_,_,_,_,_,_,_,_,rfl,_⟩:=h
    rfl
  obtain ⟨p,r,q,a0,a1,a2,b0,b1,b2,rfl,hp,hq,m0,m1,m2,k⟩:=h
  refine ⟨_,(Zaf (Zam (ZaB (Zaa (Zai Zc1 (Zak Zal (pv 0) Zac (λ_ _=>rfl)) (Zai ZaA (pv 1) (Zak Zal (pv 2) Zac (λ_ _=>rfl)))) (Zaa (Zai Zc1 (Zak Zal (pv 0) Zac (λ_ _=>rfl)) (Zai ZaA (pv 1) (Zak Zal (pv 2) Zac (λ_ _=>rfl)))) (Zaa (Zai Zc1 (Zak Zal (pv 0) Zac (λ_ _=>rfl)) (Zai ZaA (pv 1) (Zak Zal (pv 2) Zac (λ_ _=>rfl)))) Zad)))))),?_⟩
  refine ⟨_,rfl,_,_,_,_,rfl,rfl,hp,rfl,_,rfl,_,rfl,_,_,_,_,rfl,rfl,hq,rfl,_,_,rfl,rfl,m0,_,_,rfl,rfl,?_⟩
  refine ⟨_,rfl,_,_,_,_,rfl,rfl,hp,rfl,_,rfl,_,rfl,_,_,_,_,rfl,rfl,hq,rfl,_,_,rfl,rfl,m1,_,_,rfl,rfl,?_⟩
  refine ⟨_,rfl,_,_,_,_,rfl,rfl,hp,rfl,_,rfl,_,rfl,_,_,_,_,rfl,rfl,hq,rfl,_,_,rfl,rfl,m2,_,_,rfl,rfl,?_⟩
  exact ⟨(by show 3<=sizeLine; decide),k⟩
end
inductive ZcB (vs:List V) (H:Hp) (Q:VK) (zE:XK):Prop
  | mk (x y:Int) (_:vs=[.int x,.int y]) (_:x.natAbs<=10^100) (_:y.natAbs<=10^100) (_:∀(t:Addr) (H':Hp) (u v:Int),Same H H'->H' t=some (.tup [.int (Int.gcd x y),.int u,.int v])->(Int.gcd x y:Int)=x*u+y*v->u.natAbs<=10^101->v.natAbs<=10^101->Q (.ref t) H'):ZcB vs H Q zE
section
variable{P:Program}{w:World}{K:PySem.W.Frag}{mg:Str->Option Value}{base:Heap}
theorem sc_shares:FnScope ["one", "other", "upper", "lower", "following"] ["one", "other"] (Zah ZfM):=⟨rfl,rfl,rfl,by decide +kernel,rfl,by decide +kernel,by decide +kernel⟩
theorem Zka(h:Here K mg "shares" ZfM) (h_less_times:Has P w K mg base "less_times" 1 ["some", "factor", "others"] (Zcm K)):Has P w K mg base "shares" 2 ["one", "other"] ZcB:=by
  refine h.has (λf fd F=>F.binds λ_ _ _ _ _ _ us hl=>by obtain ⟨_,_,rfl⟩:=Zed hl; exact rfl) λf fd F=>F.ok sc_shares (λvs H Q E h=>?_) (λcdv A outer s H vs Q E hr h=>?_)
  · obtain ⟨_,_,rfl,_⟩:=h
    rfl
  obtain ⟨x,y,rfl,bx,bY,k⟩:=h
  have nd:=sc_shares.nd
  refine ⟨_,(Zab (Zaj (i:=2) nd rfl (Or.inl rfl) (ZaB (Zaa (pv 0) (Zaa Zac (Zaa Zac Zad)))))
    (Zab (Zaj (i:=3) nd rfl (Or.inl rfl) (ZaB (Zaa (pv 1) (Zaa Zac (Zaa Zac Zad)))))
    (Zab (ZcN PassesOwn.never (Zaq Zgt (Zak Zal (pv 3) Zac (λ_ _=>rfl)) Zac (Zar _)) (Zab (Zaj (i:=4) nd rfl (Or.inl rfl) (Zao h_less_times hr (by rfl) (Zaa (pv 2) (Zaa (Zai ZfE (Zak Zal (pv 2) Zac (λ_ _=>rfl)) (Zak Zal (pv 3) Zac (λ_ _=>rfl))) (Zaa (pv 3) Zad)))))
      (Zab (Zaj (i:=2) nd rfl (Or.inl rfl) (pv 3))
      (Zaf (Zaj (i:=3) nd rfl (Or.inl rfl) (pv 4))))))
    (Zab (ZaF (Zaq Zhg (Zak Zal (pv 2) Zac (λ_ _=>rfl)) Zac (Zar _)) (Zaf (Zam (Zao h_less_times hr (by rfl) (Zaa (ZaB (Zaa Zac (Zaa Zac (Zaa Zac Zad)))) (Zaa Zac (Zaa (pv 2) Zad)))))) Zav)
    (Zaf (Zam (pv 2))))))),?_⟩
  refine ⟨_,rfl,(by show 3<=sizeLine; decide),λp0 hp0=>?_⟩
  refine ⟨_,rfl,(by show 3<=sizeLine; decide),λp1 hp1=>?_⟩
  have S0:Same H (upd H p0 (.tup [.int x,.int 1,.int 0])):=Zag hp0 _
  have S1:=S0.trans (Zag hp1 (.tup [.int y,.int 0,.int 1]))
  refine ⟨λm σ H'=>∃(p r:Addr) (f:Option V) (a u1 v1 b u2 v2:Int),m=b.natAbs/\σ=[some (.int x),some (.int y),some (.ref p),some (.ref r),f]/\Same H H'/\H' p=some (.tup [.int a,.int u1,.int v1])/\H' r=some (.tup [.int b,.int u2,.int v2])/\M1.Sh x y a u1 v1 b u2 v2,
    ⟨_,p0,p1,none,x,1,0,y,0,1,rfl,rfl,S1,by rw[Zap (Zaz Zae hp1)]; exact Zae,Zae,M1.Sh.start x y⟩,?_⟩
  rintro m σ H' ⟨p,r,f,a,u1,v1,b,u2,v2,rfl,rfl,S,hp,hr',I⟩
  have bd:=I.bound
  have lim:x.natAbs+2*y.natAbs+1+1<=10^150:=by omega
  have lim0:=Nat.le_of_succ_le lim
  refine ⟨_,rfl,_,_,_,_,rfl,rfl,SqT.of hr',rfl,rfl,_,rfl,?_⟩
  refine ZeC (λhb=>⟨_,λ_ _ h=>h,?_⟩) (λhb=>?_)
  · refine ⟨_,rfl,_,rfl,_,_,_,_,rfl,rfl,SqT.of hp,rfl,_,rfl,_,_,_,_,rfl,rfl,SqT.of hr',rfl,_,_,rfl,rfl,⟨hb,Q2 bd.2.2.2.1 lim0⟩,_,rfl,?_⟩
    have fd:=Q2 (M1.fdiv_small a hb) (Q2 (Nat.succ_le_succ bd.1) lim)
    refine ⟨p,r,a.fdiv b,a,u1,v1,b,u2,v2,rfl,SqT.of hp,SqT.of hr',ZbA fd (Q2 bd.2.2.2.1 lim0),ZbA fd (Q2 bd.2.2.2.2.1 lim0),ZbA fd (Q2 bd.2.2.2.2.2 lim0),λt ht=>?_⟩
    refine ⟨_,rfl,_,rfl,?_⟩
    exact ⟨_,(by rw[M1.rest_eq]; exact M1.fmod_lt a hb),r,t,_,b,u2,v2,_,_,_,rfl,rfl,S.trans (Zag ht _),by rw[Zap (Zaz hr' ht)]; exact hr',Zae,I.turn hb⟩
  · subst hb
    obtain ⟨g1,g2⟩:=I.done
    refine ⟨_,rfl,_,_,_,_,rfl,rfl,SqT.of hp,rfl,_,_,rfl,rfl,_,rfl,?_⟩
    refine Zcu (λhn=>?_) (λhn=>?_)
    · refine ⟨(by show 3<=sizeLine; decide),λz hz=>?_⟩
      refine ⟨_,rfl,?_⟩
      refine ⟨z,p,1,0,0,0,a,u1,v1,rfl,SqT.of Zae,SqT.of (by rw[Zap (Zaz hp hz)]; exact hp),ZbA (by decide) (Q2 bd.1 lim0),ZbA (by decide) (Q2 bd.2.1 lim0),ZbA (by decide) (Q2 bd.2.2.1 lim0),λt ht=>?_⟩
      have ed:(0:Int)-1*a=Int.gcd x y:=by omega
      refine k t _ (0-1*u1) (0-1*v1) ((S.trans (Zag hz _)).trans (Zag ht _)) (by rw[Zae,ed]) ?_ (by omega) (by omega)
      rw[<-ed,g2,Ud,Ud,Ud,Int.mul_sub,Int.mul_sub]
      omega
    · refine ⟨_,rfl,?_⟩
      have ed:a=Int.gcd x y:=by omega
      refine k p H' u1 v1 S (by rw[<-ed]; exact hp) (by rw[<-ed]; exact g2) (by omega) (by omega)
end
def ReA(CR:Addr)(p:Int)(H:Hp)(a:Addr):Prop:=∃dx,H a=some (.ins CR dx (fsR p))
inductive ZfV (CR:Addr) (vs:List V) (H:Hp) (Q:VK) (zE:XK):Prop
  | mk (x dx:Addr) (p:Int) (_:vs=[.ref x,.int p]) (_:H x=some (.ins CR dx [])) (_:M2.Prm p) (_:p<1000000) (_:Q .non (upd H x (.ins CR dx (fsR p)))):ZfV CR vs H Q zE
section
variable{P:Program}{w:World}{K:PySem.W.Frag}{mg:Str->Option Value}{base:Heap}
theorem ZdU:FnScope ["self", "prime"] ["self", "prime"] (Zah ZbD):=⟨rfl,rfl,rfl,by decide +kernel,rfl,by decide +kernel,by decide +kernel⟩
theorem ZlG{CR:Addr}(h:HereI K CR "Rests.__init__" ZbD) (cl:Cls K CR) (nP:NoAttr K CR "prime") (h_is_whole:Has P w K mg base "is_whole" 1 ["thing"] Zdw) (h_is_prime:Has P w K mg base "is_prime" 1 ["number"] Zdx):HasI P w K mg base CR 2 ["self", "prime"] (ZfV CR):=by
  refine h.hasI (λf fd F=>F.binds λ_ _ _ _ _ _ us hl=>by obtain ⟨_,_,rfl⟩:=Zed hl; exact rfl) λf fd F=>F.ok ZdU (λvs H Q E h=>?_) (λcdv A outer s H vs Q E hr h=>?_)
  · obtain ⟨_,_,_,rfl,_⟩:=h
    rfl
  obtain ⟨x,dx,p,rfl,hx,hp,lp,k⟩:=h
  refine ⟨_,(Zab (ZaF (Zjn (Zdr (Zdq (Zao h_is_whole hr (by rfl) (Zaa (pv 1) Zad)))) (Zgr (Zdr (Zdq (Zao h_is_prime hr (by rfl) (Zaa (pv 1) Zad)))))).pt (Zaf Zle) Zav)
    (Zaf (Zn8 (pv 0) (pv 1) rfl))),?_⟩
  refine ⟨_,rfl,p,rfl,_,rfl,?_⟩
  refine Zji ?_
  refine ⟨_,rfl,p,rfl,lp,λ_=>⟨_,rfl,?_⟩,λz=>absurd hp z⟩
  refine Zji ?_
  exact ⟨_,rfl,_,rfl,x,CR,dx,_,rfl,hx,cl,nP,(by show 0<1000; decide),k⟩
end
structure CN (K:PySem.W.Frag) (mg:Str->Option Value) (x:Str) (C:Addr):Prop where
  m:mg x=some (.ref C)
  c:PySem.W.isClsIn K C=true
  t:PySem.W.typeIn K (.ref C)=some (.type "type")
structure Rf (K:PySem.W.Frag) (mg:Str->Option Value) (CE cK cN cF cT cI cX cM cR:Addr):Prop where
  e:CN K mg "FrameError" CE
  eb:PySem.W.mroIn K CE (.type "BaseException")=some true
  k:CN K mg "NoKind" cK
  n:CN K mg "NoNumber" cN
  f:CN K mg "NoFit" cF
  t:CN K mg "NoTurn" cT
  i:CN K mg "NoInverse" cI
  x:CN K mg "NoText" cX
  m:CN K mg "NoName" cM
  r:CN K mg "NoRow" cR
  ve:mg "ValueError" = none
theorem Rf.cat{K:PySem.W.Frag}{mg:Str->Option Value}{CE cK cN cF cT cI cX cM cR:Addr}(R:Rf K mg CE cK cN cF cT cI cX cM cR):CatC K mg "FrameError" CE:=⟨R.e.m,R.e.t,R.eb,R.e.c⟩
def ZlH(K:PySem.W.Frag)(C:Addr):List Addr->Prop
  | []=>True
  | D::r=>(PySem.W.mroIn K C (.ref D)=some false/\C≠D)/\ZlH K C r
structure Rz (K:PySem.W.Frag) (mg:Str->Option Value) (x:Str) (CE C:Addr) (os:List Addr):Prop where
  c:ExcC K mg x C
  e:PySem.W.mroIn K C (.ref CE)=some true
  v:PySem.W.mroIn K C (.type "ValueError")=some true
  o:ZlH K C os
theorem CN.no{K:PySem.W.Frag}{mg:Str->Option Value}{x:Str}{C D:Addr}(n:CN K mg x D)(h:PySem.W.mroIn K C (.ref D)=some false/\C≠D):PySem.W.kitOne K (.ref C) (.ref D)=some false:=Zna n.c n.t h.1 h.2
def Zqr(m:Nat)(g:Nat->V):List V:=(List.range m).map g
theorem ZaT{rs:List Addr}{i:Nat}{x:V}(h:(rs.map V.ref)[i]?=some x):∃r,rs[i]?=some r/\x = .ref r:=by
  rw[Qh] at h
  cases e:rs[i]? with
  | none=>rw[e] at h; cases h
  | some r=>rw[e] at h; exact ⟨r,rfl,(Option.some.inj h).symm⟩
theorem Zcr{rs:List Addr}{i:Nat}{r:Addr}(h:rs[i]?=some r):atI (rs.map V.ref) (i:Int)=some (.ref r):=Za5 (by rw[Qh,h]; rfl)
def Rows(H:Hp)(rs:List Addr)(m:Nat)(g:Nat->Nat->V):Prop:=∀(i:Nat) (r:Addr),rs[i]?=some r->H r=some (.lst (Zqr m (g i)))
structure Tb (H:Hp) (t:Addr) (rs:List Addr) (m:Nat) (g:Nat->Nat->V):Prop where
  l:H t=some (.lst (rs.map V.ref))
  r:Rows H rs m g
structure New (H:Hp) (rs:List Addr):Prop where
  nd:rs.Nodup
  no:∀r∈rs,H r=none
theorem ZgS{l:List Addr}(h:l.Nodup){i j:Nat}{a:Addr}(hi:l[i]?=some a)(hj:l[j]?=some a):i=j:=by
  obtain ⟨l1,e1⟩:=Qf.mp hi
  obtain ⟨l2,e2⟩:=Qf.mp hj
  have p:=List.pairwise_iff_getElem.mp h
  rcases Nat.lt_trichotomy i j with c | c | c
  · exact absurd (e1.trans e2.symm) (p i j l1 l2 c)
  · exact c
  · exact absurd (e2.trans e1.symm) (p j i l2 l1 c)
theorem New.out{H:Hp}{rs:List Addr}{a:Addr}{o:HO}(h:New H rs)(q:H a=some o):a∉rs:=λm=>by rw[h.no a m] at q; cases q
theorem Znp{n i:Nat}(h:i<n):ixN n ((i:Nat):Int)=some i:=by
  have:=Za5 (xs:=List.range n) (j:=i) (v:=i) (by simp[h])
  unfold atI at this
  rw[W4] at this
  cases q:ixN n (i:Int) with
  | none=>rw[q] at this; cases this
  | some j =>
    rw[q] at this
    simp only[Option.bind_some] at this
    have h2:=(Qf.mp this).2
    simp at h2
    rw[h2]
def KdA(CF CR:Addr)(p:Int)(H:Hp)(k:Addr):Prop:=(p=0/\FrA CF H k)\/(M2.Prm p/\p<1000000/\ReA CR p H k)
def Ez(H:Hp)(p e:Int)(v:V):Prop:=(p=0/\∃t,v = .ref t/\H t=some (.tup [.int e,.int 1]))\/(0<p/\v = .int e)
theorem ZgT{ns:List Int}{i:Nat}(h:i<ns.length):atI (ns.map V.int) (i:Int)=some (.int ns[i]):=Za5 (by rw[Qh,Q5 h] <;> rfl)
def PK(p:Int):Prop:=p=0\/(M2.Prm p/\p<1000000)
theorem PK.ge{p:Int}(h:PK p):0<=p:=by
  rcases h with rfl | ⟨h,_⟩
  · exact Int.le_refl _
  · have:=h.1; omega
def Nu(H:Hp)(p:Int)(v:V):Prop:=(p=0/\∃t a b,v = .ref t/\H t=some (.tup [.int a,.int b])/\Fc a b/\a.natAbs<=10^60/\b.natAbs<=10^60)\/(0<p/\∃x,v = .int x/\0<=x/\x<p)
theorem Zpx(c:Int):∃m:Int,atI [V.int 11,V.int 11,V.int 999982] (c%3)=some (.int m)/\11<=m/\m<=999982:=by
  rcases (by omega:c%3=0\/c%3=1\/c%3=2) with e | e | e <;> rw[e]
  · exact ⟨11,rfl,by decide,by decide⟩
  · exact ⟨11,rfl,by decide,by decide⟩
  · exact ⟨999982,rfl,by decide,by decide⟩
structure Ce (H:Hp) (c:Addr) (cs:List Int):Prop where
  l:H c=some (.lst (cs.map V.int))
  h1:1<=cs.length
  h2:cs.length<=66
  b:∀i∈cs,Bits 1048576 i
theorem Ce.same{H H':Hp}{c:Addr}{cs:List Int}(h:Ce H c cs)(S:Same H H'):Ce H' c cs:=⟨S _ _ h.l,h.h1,h.h2,h.b⟩
def Off(D:List Addr)(H H':Hp):Prop:=∀a o,a∉D->H a=some o->H' a=some o
theorem Off.same{D:List Addr}{H0 H H':Hp}(O:Off D H H')(S:Same H0 H)(n:∀r∈D,H0 r=none):Same H0 H':=λb o q=>O b o (λm=>by rw[n b m] at q; cases q) (S _ _ q)
def Zqs(H:Hp)(p:Int)(x y:V):Prop:=(0<p/\∃i,x = .int i/\y = .int i)\/(p=0/\∃s t a b,x = .ref s/\y = .ref t/\H s=some (.tup [.int a,.int b])/\H t=some (.tup [.int a,.int b]))
theorem Ez.eq{H:Hp}{p e:Int}{x y:V}(h:Ez H p e x)(h':Ez H p e y):Zqs H p x y:=by
  rcases h with ⟨z,t,e1,h1⟩ | ⟨z,e1⟩
  · rcases h' with ⟨_,t',e2,h2⟩ | ⟨z',_⟩
    · exact .inr ⟨z,t,t',_,_,e1,e2,h1,h2⟩
    · omega
  · rcases h' with ⟨z',_⟩ | ⟨_,e2⟩
    · omega
    · exact .inl ⟨z,_,e1,e2⟩
theorem Nu.kind{H:Hp}{p:Int}{x:V}(h:Nu H p x):(∃i,x = .int i)\/∃a,x = .ref a:=by
  rcases h with ⟨_,t,_,_,e,_⟩ | ⟨_,i,e,_⟩
  · exact .inr ⟨t,e⟩
  · exact .inl ⟨i,e⟩
end My
namespace My
open PySem L2 PyProof.Rows
class Fd (α:Type) extends Lean.Grind.CommRing α where
  inv:α->α
  mul_inv:∀a:α,a≠0->a*inv a=1
  zne:(0:α)≠1
instance:Fd Rat where
  inv:=Rat.inv
  mul_inv:=λa h=>Rat.mul_inv_cancel a h
  zne:=by decide
theorem bez:∀a b:Nat,∃u v:Int,a*u+b*v=(Nat.gcd a b:Int):=by
  intro a b
  induction a,b using Nat.gcd.induction with
  | H0 n=>exact ⟨0,1,by simp⟩
  | H1 m n hm ih =>
    obtain ⟨u,v,e⟩:=ih
    refine ⟨v-(n/m:Nat)*u,u,?_⟩
    rw[Nat.gcd_rec,<-e]
    have h:(n:Int)=m*(n/m:Nat)+(n%m:Nat):=by
      have:=Nat.div_add_mod n m
      exact_mod_cast this.symm
    rw[Int.mul_sub]
    conv=>lhs; rw[h]
    rw[Uo]
    generalize ((n/m:Nat):Int)=q
    generalize ((n%m:Nat):Int)=r
    have e1:(m:Int)*(q*u)=m*q*u:=by rw[Qi]
    omega
structure PrN (p:Nat):Prop where
  pr:M2.Prm (p:Int)
  lt:p<1000000
theorem PrN.two{p:Nat}(h:PrN p):2<=p:=by have:=h.pr.1; omega
theorem PrN.nz{p:Nat}(h:PrN p):NeZero p:=⟨by have:=h.two; omega⟩
theorem Zkb{p:Nat}(h:PrN p):letI:=h.nz; ∀a:Fin p,a≠0->∃b:Fin p,a*b=1:=by
  letI:=h.nz
  intro a ha
  have h2:=h.two
  have nd:¬(p:Int) ∣ (a.val:Int):=by
    rintro ⟨k,hk⟩
    have hv:a.val≠0:=λz=>ha (Fin.ext (by simpa using z))
    have hl:=a.isLt
    have hk0:0<k:=by
      rcases Int.lt_or_le 0 k with c | c
      · exact c
      · have:(p:Int)*k<=0:=Int.mul_nonpos_of_nonneg_of_nonpos (by omega) c
        omega
    have:(p:Int)*1<=p*k:=Ub (by omega) (by omega)
    omega
  have g:=M2.prm_gcd h.pr nd
  obtain ⟨u,v,e⟩:=bez a.val p
  have g':Nat.gcd a.val p=1:=by
    have:Int.gcd (a.val:Int) (p:Int)=Nat.gcd a.val p:=rfl
    omega
  rw[g'] at e
  refine ⟨⟨(u%p).toNat,?_⟩,?_⟩
  · have:=Ue u (show 0<(p:Int) by omega)
    have:=U2 u (show (p:Int)≠0 by omega)
    omega
  · refine Fin.ext ?_
    rw[Fin.val_mul]
    have e0:=U2 u (show (p:Int)≠0 by omega)
    have e1:((a.val*(u%p).toNat%p:Nat):Int)=((1:Nat):Int):=by
      rw[Wf,Wl,Int.toNat_of_nonneg e0,Int.mul_emod,Int.emod_emod_of_dvd _ (Int.dvd_refl _),<-Int.mul_emod]
      have:(a.val:Int)*u=1-p*v:=by omega
      rw[this,Int.sub_emod,Int.mul_emod_right]
      simp
      exact Uf (by omega) (by omega)
    have e2:a.val*(u%p).toNat%p=1:=by exact_mod_cast e1
    have e3:(1:Fin p).val=1:=by
      show 1%p=1
      exact Nat.mod_eq_of_lt h2
    rw[e3]
    exact e2
@[reducible] noncomputable def finFd {p:Nat} (h:PrN p):Fd (Fin p) :=
  letI:=h.nz
  { (inferInstance:Lean.Grind.CommRing (Fin p)) with
    inv:=λa=>if ha:a≠0 then Classical.choose (Zkb h a ha) else 0
    mul_inv:=λa ha=>by
      simp only[dif_pos ha]
      exact Classical.choose_spec (Zkb h a ha)
    zne:=λz=>by
      have:=congrArg Fin.val z
      have h2:=h.two
      have e3:(1:Fin p).val=1:=by
        show 1%p=1
        exact Nat.mod_eq_of_lt h2
      have e4:(0:Fin p).val=0:=by simp
      rw[e3,e4] at this
      cases this }
inductive KX where
  | q
  | r (p:Nat) (h:PrN p)
@[reducible] def KX.F:KX->Type
  | .q=>Rat
  | .r p _=>Fin p
noncomputable instance (κ:KX):Fd κ.F:=match κ with
  | .q=>inferInstanceAs (Fd Rat)
  | .r _ h=>finFd h
def KX.P:KX->Int
  | .q=>0
  | .r p _=>p
def KX.D:(κ:KX)->κ.F->PyData
  | .q,x => .tuple [.int x.num,.int x.den]
  | .r _ _,x => .int x.val
def NR(κ:KX)(H:Hp)(v:V)(x:κ.F):Prop:=match κ with
  | .q=>∃a,v = .ref a/\H a=some (.tup [.int x.num,.int x.den])
  | .r _ _=>v = .int x.val
theorem NR.same{κ:KX}{H H':Hp}{v:V}{x:κ.F}(h:NR κ H v x)(S:Same H H'):NR κ H' v x:=by
  cases κ with
  | q=>obtain ⟨a,e,h⟩:=h; exact ⟨a,e,S _ _ h⟩
  | r p hp=>exact h
theorem NR.off{κ:KX}{H H':Hp}{t:Addr}{ys:List V}{v:V}{x:κ.F}(h:NR κ H v x)(ht:H t=some (.lst ys))(O:Off [t] H H'):NR κ H' v x:=by
  cases κ with
  | q =>
    obtain ⟨a,e,h⟩:=h
    refine ⟨a,e,O _ _ (λm=>?_) h⟩
    rw[Q3.mp m,ht] at h
    cases h
  | r p hp=>exact h
theorem Zhv{H:Hp}{i:Int}:Fl H (.int i) (.int i):=.inr (.inr (.inl ⟨i,rfl,rfl⟩))
theorem NR.rp{κ:KX}{H:Hp}{v:V}{x:κ.F}(h:NR κ H v x):Rp H 1 v (κ.D x):=by
  cases κ with
  | q =>
    obtain ⟨a,rfl,h⟩:=h
    exact Zop h (.cons Zhv (.cons Zhv .nil))
  | r p hp =>
    have h:v = .int x.val:=h
    subst h
    exact .inl Zhv
def Bd(κ:KX)(n m:Nat)(x:κ.F):Prop:=match κ with
  | .q=>Bits n x.num/\Bits m (x.den:Int)
  | .r _ _=>True
theorem Zkc{n d N D:Int}(fc:Fc n d)(hD:0<D)(e:n*D=N*d):(Rat.divInt N D).num=n/\((Rat.divInt N D).den:Int)=d:=by
  have hd:=fc.pos
  have q0:∃q:Rat,q.num=n/\(q.den:Int)=d:=by
    refine ⟨⟨n,d.toNat,by omega,?_⟩,rfl,by show ((d.toNat:Nat):Int)=d; omega⟩
    have:=fc.cop
    rw[Nat.coprime_iff_gcd_eq_one]
    have e:Int.gcd n d=Nat.gcd n.natAbs d.natAbs:=rfl
    have e2:d.natAbs=d.toNat:=by omega
    rw[<-e2]
    omega
  obtain ⟨q,e1,e2⟩:=q0
  have:Rat.divInt N D=q:=by
    rw[<-Qo q,e1,e2,W5 (by omega) (by omega)]
    exact e.symm
  rw[this]
  exact ⟨e1,e2⟩
theorem Za4(x:Rat):Fc x.num x.den:=⟨by have:=x.den_nz; omega,by
  have:=x.reduced
  rw[Nat.coprime_iff_gcd_eq_one] at this
  exact this⟩
theorem Zkd{x y:Rat}{n d:Int}(fc:Fc n d)(e:n*((x.den:Int)*y.den)=(x.num*y.den+y.num*x.den)*d):(x+y).num=n/\((x+y).den:Int)=d:=by
  have hx:=(Za4 x).pos
  have hy:=(Za4 y).pos
  have:x+y=Rat.divInt (x.num*y.den+y.num*x.den) ((x.den:Int)*y.den):=by
    rw[<-Ug _ _ (by omega) (by omega),Qo,Qo]
  rw[this]
  exact Zkc fc (Qm hx hy) e
theorem Zke{x y:Rat}{n d:Int}(fc:Fc n d)(e:n*((x.den:Int)*y.den)=(x.num*y.num)*d):(x*y).num=n/\((x*y).den:Int)=d:=by
  have hx:=(Za4 x).pos
  have hy:=(Za4 y).pos
  have:x*y=Rat.divInt (x.num*y.num) ((x.den:Int)*y.den):=by
    rw[<-Wm,Qo,Qo]
  rw[this]
  exact Zkc fc (Qm hx hy) e
end My
namespace My
open PySem L2 PyProof.Rows
inductive Zdy (K:PySem.W.Frag) (CF:Addr) (vs:List V) (H:Hp) (Q:VK) (zE:XK):Prop
  | mk (s p q:Addr) (a1 b1 a2 b2:Int) (_:vs=[.ref s,.ref p,.ref q]) (_:FrA CF H s) (_:SqT K H p [.int a1,.int b1]) (_:SqT K H q [.int a2,.int b2]) (_:Fc a1 b1) (_:Fc a2 b2) (_:Bits 1000000 a1) (_:Bits 4000 b1) (_:Bits 1000000 a2) (_:Bits 4000 b2) (_:∀(t:Addr) (H':Hp) (x y:Int),Same H H'->H' t=some (.tup [.int x,.int y])->H t=none->Fc x y->x*(b1*b2)=(a1*b2+a2*b1)*y->Q (.ref t) H'):Zdy K CF vs H Q zE
section
variable{P:Program}{w:World}{K:PySem.W.Frag}{mg:Str->Option Value}{base:Heap}
theorem sc_Fractions_plusG:FnScope ["self", "one", "other", "common", "ahead", "top", "left"] ["self", "one", "other"] (Zah ZbB):=⟨rfl,rfl,rfl,by decide +kernel,rfl,by decide +kernel,by decide +kernel⟩
theorem Zkf{CF:Addr}(h:HereM K CF "plus" "Fractions.plus" ZbB) (h_divisor:Has P w K mg base "divisor" 1 ["one", "other"] ZaU):HasM P w K mg base CF "plus" 2 ["self", "one", "other"] [] (Zdy K CF):=by
  refine h.hasM (λf fd F=>F.binds λ_ _ _ _ _ _ us hl=>by obtain ⟨_,_,_,rfl⟩:=Zei hl; exact rfl) λf fd F=>F.ok sc_Fractions_plusG (λvs H Q E h=>?_) (λcdv A outer s H vs Q E hr h=>?_)
  · obtain ⟨_,_,_,_,_,_,_,rfl,_⟩:=h
    rfl
  obtain ⟨sf,p,q,a1,b1,a2,b2,rfl,_,hp,hq,f1,f2,la1,lb1,la2,lb2,k⟩:=h
  have nd:=sc_Fractions_plusG.nd
  refine ⟨_,(Zab (Zaj (i:=3) nd rfl (Or.inl rfl) (Zao h_divisor hr (by rfl) (Zaa (Zak Zal (pv 1) Zac (λ_ _=>rfl)) (Zaa (Zak Zal (pv 2) Zac (λ_ _=>rfl)) Zad))))
    (Zab (Zaj (i:=4) nd rfl (Or.inl rfl) (Zai ZbI (Zak Zal (pv 1) Zac (λ_ _=>rfl)) (pv 3)))
    (Zab (Zaj (i:=5) nd rfl (Or.inl rfl) (Zai ZaY (Zai ZaA (Zak Zal (pv 1) Zac (λ_ _=>rfl)) (Zai ZbI (Zak Zal (pv 2) Zac (λ_ _=>rfl)) (pv 3))) (Zai ZaA (Zak Zal (pv 2) Zac (λ_ _=>rfl)) (pv 4))))
    (Zab (Zaj (i:=6) nd rfl (Or.inl rfl) (Zao h_divisor hr (by rfl) (Zaa (pv 5) (Zaa (pv 3) Zad))))
    (Zaf (Zam (ZaB (Zaa (Zai ZbI (pv 5) (pv 6)) (Zaa (Zai ZaA (pv 4) (Zai ZbI (Zak Zal (pv 2) Zac (λ_ _=>rfl)) (pv 6))) Zad))))))))),?_⟩
  have hb1:=f1.pos
  have hb2:=f2.pos
  have hg:=M3.gcd_ne (a:=b1) (b:=b2) (by omega)
  have gl:Int.gcd b1 b2<=b2.natAbs:=Ww (by omega) (Wx.mpr (Qy b1 b2))
  have hg1:(Int.gcd b1 b2:Int)≠0/\Bits 4000 (Int.gcd b1 b2:Int):=⟨by omega,lb2.le (by rw[Wa]; exact gl)⟩
  have d1:=M3.fdiv_le (Wi b1 b2) hg1.1
  have d2:=M3.fdiv_le (Qy b1 b2) hg1.1
  refine ⟨_,rfl,_,_,_,_,rfl,rfl,hp,rfl,_,rfl,_,_,_,_,rfl,rfl,hq,rfl,b1,b2,rfl,?_⟩
  refine ⟨_,rfl,_,_,_,_,rfl,rfl,hp,rfl,_,rfl,_,_,rfl,rfl,hg1,?_⟩
  refine ⟨_,rfl,_,_,_,_,rfl,rfl,hp,rfl,_,rfl,_,_,_,_,rfl,rfl,hq,rfl,_,rfl,_,_,rfl,rfl,hg1,_,_,rfl,rfl,la1.mulG (lb2.le d2),_,rfl,_,_,_,_,rfl,rfl,hq,rfl,_,rfl,_,_,rfl,rfl,la2.mulG (lb1.le d1),_,_,rfl,rfl,?_⟩
  refine ⟨_,rfl,_,rfl,_,_,rfl,?_⟩
  obtain ⟨o1,o2,o3,o4⟩:=M3.plus_ok hb1 hb2 f1.cop f2.cop rfl
  have ll:Int.gcd (a1*b2.fdiv (Int.gcd b1 b2)+a2*b1.fdiv (Int.gcd b1 b2)) (Int.gcd b1 b2)<=Int.gcd b1 b2:=Ww (by omega) (Int.ofNat_dvd.mp (Qy (a1*b2.fdiv (Int.gcd b1 b2)+a2*b1.fdiv (Int.gcd b1 b2)) (Int.gcd b1 b2)))
  have hl1:(Int.gcd (a1*b2.fdiv (Int.gcd b1 b2)+a2*b1.fdiv (Int.gcd b1 b2)) (Int.gcd b1 b2):Int)≠0/\Bits 4000 (Int.gcd (a1*b2.fdiv (Int.gcd b1 b2)+a2*b1.fdiv (Int.gcd b1 b2)) (Int.gcd b1 b2):Int):=⟨by have:=M3.gcd_ne (a:=a1*b2.fdiv (Int.gcd b1 b2)+a2*b1.fdiv (Int.gcd b1 b2)) (b:=(Int.gcd b1 b2:Int)) (by omega); omega,lb2.le (by rw[Wa]; exact Q2 ll gl)⟩
  have d3:=M3.fdiv_le (Wi (a1*b2.fdiv (Int.gcd b1 b2)+a2*b1.fdiv (Int.gcd b1 b2)) (Int.gcd b1 b2)) hl1.1
  have d4:=M3.fdiv_le (Int.dvd_trans (Qy (a1*b2.fdiv (Int.gcd b1 b2)+a2*b1.fdiv (Int.gcd b1 b2)) (Int.gcd b1 b2)) (Qy b1 b2)) hl1.1
  refine ⟨_,rfl,_,rfl,_,_,rfl,rfl,hl1,_,rfl,_,rfl,_,_,_,_,rfl,rfl,hq,rfl,_,rfl,_,_,rfl,rfl,hl1,_,_,rfl,rfl,((lb1.le d1).up (by decide)).mulG (lb2.le d4),(by show 2<=sizeLine; decide),λt ht'=>?_⟩
  exact k t _ _ _ (Zag ht' _) Zae ht' ⟨o2,o3⟩ o4
end
inductive ZdV (K:PySem.W.Frag) (CF:Addr) (vs:List V) (H:Hp) (Q:VK) (zE:XK):Prop
  | mk (s p q:Addr) (a1 b1 a2 b2:Int) (_:vs=[.ref s,.ref p,.ref q]) (_:FrA CF H s) (_:SqT K H p [.int a1,.int b1]) (_:SqT K H q [.int a2,.int b2]) (_:Fc a1 b1) (_:Fc a2 b2) (_:Bits 1000000 a1) (_:Bits 4000 b1) (_:Bits 1000000 a2) (_:Bits 4000 b2) (_:∀(t:Addr) (H':Hp) (x y:Int),Same H H'->H' t=some (.tup [.int x,.int y])->H t=none->Fc x y->x*(b1*b2)=(a1*a2)*y->Q (.ref t) H'):ZdV K CF vs H Q zE
section
variable{P:Program}{w:World}{K:PySem.W.Frag}{mg:Str->Option Value}{base:Heap}
theorem sc_Fractions_timesG:FnScope ["self", "one", "other", "falling", "rising", "top"] ["self", "one", "other"] (Zah Zbl):=⟨rfl,rfl,rfl,by decide +kernel,rfl,by decide +kernel,by decide +kernel⟩
theorem ZiZ{CF:Addr}(h:HereM K CF "times" "Fractions.times" Zbl) (h_divisor:Has P w K mg base "divisor" 1 ["one", "other"] ZaU):HasM P w K mg base CF "times" 2 ["self", "one", "other"] [] (ZdV K CF):=by
  refine h.hasM (λf fd F=>F.binds λ_ _ _ _ _ _ us hl=>by obtain ⟨_,_,_,rfl⟩:=Zei hl; exact rfl) λf fd F=>F.ok sc_Fractions_timesG (λvs H Q E h=>?_) (λcdv A outer s H vs Q E hr h=>?_)
  · obtain ⟨_,_,_,_,_,_,_,rfl,_⟩:=h
    rfl
  obtain ⟨sf,p,q,a1,b1,a2,b2,rfl,_,hp,hq,f1,f2,la1,lb1,la2,lb2,k⟩:=h
  have nd:=sc_Fractions_timesG.nd
  refine ⟨_,(Zab (Zaj (i:=3) nd rfl (Or.inl rfl) (Zao h_divisor hr (by rfl) (Zaa (Zak Zal (pv 1) Zac (λ_ _=>rfl)) (Zaa (Zak Zal (pv 2) Zac (λ_ _=>rfl)) Zad))))
    (Zab (Zaj (i:=4) nd rfl (Or.inl rfl) (Zao h_divisor hr (by rfl) (Zaa (Zak Zal (pv 2) Zac (λ_ _=>rfl)) (Zaa (Zak Zal (pv 1) Zac (λ_ _=>rfl)) Zad))))
    (Zab (Zaj (i:=5) nd rfl (Or.inl rfl) (Zai ZaA (Zai ZbI (Zak Zal (pv 1) Zac (λ_ _=>rfl)) (pv 3)) (Zai ZbI (Zak Zal (pv 2) Zac (λ_ _=>rfl)) (pv 4))))
    (Zaf (Zam (ZaB (Zaa (pv 5) (Zaa (Zai ZaA (Zai ZbI (Zak Zal (pv 1) Zac (λ_ _=>rfl)) (pv 4)) (Zai ZbI (Zak Zal (pv 2) Zac (λ_ _=>rfl)) (pv 3))) Zad)))))))),?_⟩
  have hb1:=f1.pos
  have hb2:=f2.pos
  have hf:=M3.gcd_ne (a:=a1) (b:=b2) (by omega)
  have hg:=M3.gcd_ne (a:=a2) (b:=b1) (by omega)
  have gf:Int.gcd a1 b2<=b2.natAbs:=Ww (Zj9 hb2) (Wx.mpr (Qy a1 b2))
  have gg:Int.gcd a2 b1<=b1.natAbs:=Ww (Zj9 hb1) (Wx.mpr (Qy a2 b1))
  have hf1:(Int.gcd a1 b2:Int)≠0/\Bits 4000 (Int.gcd a1 b2:Int):=⟨by omega,lb2.le (by rw[Wa]; exact gf)⟩
  have hg1:(Int.gcd a2 b1:Int)≠0/\Bits 4000 (Int.gcd a2 b1:Int):=⟨by omega,lb1.le (by rw[Wa]; exact gg)⟩
  have d1:=M3.fdiv_le (Wi a1 b2) hf1.1
  have d2:=M3.fdiv_le (Qy a1 b2) hf1.1
  have d3:=M3.fdiv_le (Wi a2 b1) hg1.1
  have d4:=M3.fdiv_le (Qy a2 b1) hg1.1
  refine ⟨_,rfl,_,_,_,_,rfl,rfl,hp,rfl,_,rfl,_,_,_,_,rfl,rfl,hq,rfl,a1,b2,rfl,?_⟩
  refine ⟨_,rfl,_,_,_,_,rfl,rfl,hq,rfl,_,rfl,_,_,_,_,rfl,rfl,hp,rfl,a2,b1,rfl,?_⟩
  refine ⟨_,rfl,_,_,_,_,rfl,rfl,hp,rfl,_,rfl,_,_,rfl,rfl,hf1,_,rfl,_,_,_,_,rfl,rfl,hq,rfl,_,rfl,_,_,rfl,rfl,hg1,_,_,rfl,rfl,(la1.le d1).mulT (la2.le d3),?_⟩
  refine ⟨_,rfl,_,rfl,_,_,_,_,rfl,rfl,hp,rfl,_,rfl,_,_,rfl,rfl,hg1,_,rfl,_,_,_,_,rfl,rfl,hq,rfl,_,rfl,_,_,rfl,rfl,hf1,_,_,rfl,rfl,((lb1.le d4).up (by decide)).mulG (lb2.le d2),(by show 2<=sizeLine; decide),λt ht'=>?_⟩
  obtain ⟨o2,o3,o4⟩:=M3.times_ok hb1 hb2 f1.cop f2.cop
  exact k t _ _ _ (Zag ht' _) Zae ht' ⟨o2,o3⟩ o4
end
inductive ZeT (CR:Addr) (g:Int->Int->Int) (vs:List V) (H:Hp) (Q:VK) (zE:XK):Prop
  | mk (s:Addr) (p a b:Int) (_:vs=[.ref s,.int a,.int b]) (_:ReA CR p H s) (_:2<=p) (_:a.natAbs<=10^150) (_:b.natAbs<=10^150) (_:Q (.int (g a b%p)) H):ZeT CR g vs H Q zE
section
variable{P:Program}{w:World}{K:PySem.W.Frag}{mg:Str->Option Value}{base:Heap}
theorem ZfW:FnScope ["self", "one", "other"] ["self", "one", "other"] (Zah Zcy):=⟨rfl,rfl,rfl,by decide +kernel,rfl,by decide +kernel,by decide +kernel⟩
theorem ZlI{CR:Addr}(h:HereM K CR "plus" "Rests.plus" Zcy) (cl:Cls K CR) (nP:NoAttr K CR "prime"):HasM P w K mg base CR "plus" 1 ["self", "one", "other"] [] (ZeT CR λa b=>a+b):=by
  refine h.hasM (λf fd F=>F.binds λ_ _ _ _ _ _ us hl=>by obtain ⟨_,_,_,rfl⟩:=Zei hl; exact rfl) λf fd F=>F.ok ZfW (λvs H Q E h=>?_) (λcdv A outer s H vs Q E hr h=>?_)
  · obtain ⟨_,_,_,_,rfl,_⟩:=h
    rfl
  obtain ⟨sr,p,a,b,rfl,⟨dx,hs⟩,h2,la,lb,k⟩:=h
  refine ⟨_,(Zaf (Zam (Zai ZaD (Zai ZaY (pv 1) (pv 2)) (Zez (pv 0) rfl)))),?_⟩
  refine ⟨_,rfl,_,rfl,_,_,rfl,rfl,_,rfl,sr,CR,dx,_,_,rfl,hs,cl,nP,ZbM p,_,_,rfl,rfl,(show p≠0 by omega),?_⟩
  show Q (V.int ((a+b).fmod p)) _
  rw[Qx _ (by omega)]
  exact k
end
section
variable{P:Program}{w:World}{K:PySem.W.Frag}{mg:Str->Option Value}{base:Heap}
theorem Zfj:FnScope ["self", "one", "other"] ["self", "one", "other"] (Zah Zck):=⟨rfl,rfl,rfl,by decide +kernel,rfl,by decide +kernel,by decide +kernel⟩
theorem Zkg{CR:Addr}(h:HereM K CR "times" "Rests.times" Zck) (cl:Cls K CR) (nP:NoAttr K CR "prime"):HasM P w K mg base CR "times" 1 ["self", "one", "other"] [] (ZeT CR λa b=>a*b):=by
  refine h.hasM (λf fd F=>F.binds λ_ _ _ _ _ _ us hl=>by obtain ⟨_,_,_,rfl⟩:=Zei hl; exact rfl) λf fd F=>F.ok Zfj (λvs H Q E h=>?_) (λcdv A outer s H vs Q E hr h=>?_)
  · obtain ⟨_,_,_,_,rfl,_⟩:=h
    rfl
  obtain ⟨sr,p,a,b,rfl,⟨dx,hs⟩,h2,la,lb,k⟩:=h
  refine ⟨_,(Zaf (Zam (Zai ZaD (Zai ZaA (pv 1) (pv 2)) (Zez (pv 0) rfl)))),?_⟩
  refine ⟨_,rfl,_,rfl,_,_,rfl,rfl,ZbA la lb,_,rfl,sr,CR,dx,_,_,rfl,hs,cl,nP,ZbM p,_,_,rfl,rfl,(show p≠0 by omega),?_⟩
  show Q (V.int ((a*b).fmod p)) _
  rw[Qx _ (by omega)]
  exact k
end
theorem Zpy{t b:Int}(hb:b≠0):∃c:Int,c=(if b<0 then -(Int.gcd t b:Int) else (Int.gcd t b:Int))/\c≠0/\c.natAbs<=b.natAbs/\Fc (t.fdiv c) (b.fdiv c)/\t.fdiv c*b=t*b.fdiv c/\(t.fdiv c).natAbs<=t.natAbs/\(b.fdiv c).natAbs<=b.natAbs:=by
  have hg:=M3.gcd_ne (a:=t) hb
  have gl:Int.gcd t b<=b.natAbs:=Ww (by omega) (Wx.mpr (Qy t b))
  by_cases h:b<0
  · refine ⟨-(Int.gcd t b:Int),by rw[if_pos h],by omega,by omega,?_⟩
    have e1:t.fdiv (-(Int.gcd t b:Int))=(-t).fdiv (Int.gcd t b):=by rw[<-Int.neg_fdiv_neg,Int.neg_neg]
    have e2:b.fdiv (-(Int.gcd t b:Int))=(-b).fdiv (Int.gcd t b):=by rw[<-Int.neg_fdiv_neg,Int.neg_neg]
    have e3:Int.gcd t b=Int.gcd (-t) (-b):=by rw[Int.neg_gcd,Int.gcd_neg]
    obtain ⟨l1,l2,l3,l4,l5⟩:=M3.low (t:=-t) (b:=-b) (by omega)
    rw[e1,e2,e3]
    refine ⟨⟨l2,l1⟩,?_,by omega,by omega⟩
    rw[Wq,Int.neg_mul] at l3
    exact Int.neg_inj.mp l3
  · refine ⟨(Int.gcd t b:Int),by rw[if_neg h],by omega,by omega,?_⟩
    obtain ⟨l1,l2,l3,l4,l5⟩:=M3.low (t:=t) (b:=b) (by omega)
    exact ⟨⟨l2,l1⟩,l3,l4,l5⟩
inductive ZcS (cN:Addr) (vs:List V) (H:Hp) (Q:VK) (E:XK):Prop
  | mk (s:Addr) (t b:Int) (_:vs=[.ref s,.int t,.int b]) (_:b.natAbs<=10^150) (_:(b=0->E (.ref cN) none H)) (_:(b≠0->∀(r:Addr) (x y:Int),H r=none->Fc x y->x*b=t*y->x.natAbs<=t.natAbs->y.natAbs<=b.natAbs->Q (.ref r) (upd H r (.tup [.int x,.int y])))):ZcS cN vs H Q E
section
variable{P:Program}{w:World}{K:PySem.W.Frag}{mg:Str->Option Value}{base:Heap}
theorem sc_Fractions_number:FnScope ["self", "top", "bottom", "common"] ["self", "top", "bottom"] (Zah ZaM):=⟨rfl,rfl,rfl,by decide +kernel,rfl,by decide +kernel,by decide +kernel⟩
theorem Zhw{cN:Addr}{f T:Addr}{fd:FuncData}{items:Array Value}(F:FunD K "number" "Fractions.number" ZaM f fd T items) (c:ExcC K mg "NoNumber" cN) (h_divisor:Has P w K mg base "divisor" 1 ["one", "other"] ZaU):FnOk P w K mg base (CXx P w) 2 f fd ["self", "top", "bottom"] (ZcS cN):=by
  refine F.okx sc_Fractions_number (λvs H Q E h=>?_) (λcdv A outer s H vs Q E hr h=>?_)
  · obtain ⟨_,_,_,rfl,_⟩:=h
    rfl
  obtain ⟨sf,t,b,rfl,lb,k0,k⟩:=h
  have nd:=sc_Fractions_number.nd
  refine ⟨_,(Zab (ZaF (Zaq Za8 (pv 2) Zac (Zar _)) (Zaf (Zdt c ZgK rfl (by rfl) (Zaa ZaW Zad))) Zav)
    (Zab (Zaj (i:=3) nd rfl (Or.inl rfl) (Zao h_divisor hr (by rfl) (Zaa (pv 1) (Zaa (pv 2) Zad))))
    (Zab (ZaF (Zaq Zhg (pv 2) Zac (Zar _)) (Zaf (Zaj (i:=3) nd rfl (Or.inl rfl) (ZdJ Zb8 (pv 3)))) Zav)
    (Zaf (Zam (ZaB (Zaa (Zai ZfE (pv 1) (pv 3)) (Zaa (Zai ZfE (pv 2) (pv 3)) Zad)))))))),?_⟩
  refine ⟨_,rfl,rfl,_,rfl,?_⟩
  refine Zbv (λz=>⟨(by show 1<=1000; decide),k0 z⟩) (λhb=>?_)
  refine ⟨_,rfl,_,rfl,t,b,rfl,?_⟩
  obtain ⟨c,ec,c0,cl,fc,e,l1,l2⟩:=Zpy (t:=t) hb
  refine ⟨_,rfl,_,_,rfl,rfl,_,rfl,?_⟩
  refine Zcu (λhn=>?_) (λhn=>?_)
  · refine ⟨_,rfl,_,rfl,?_⟩
    have ec':c = -(Int.gcd t b:Int):=by rw[ec,if_pos hn]
    refine ⟨_,rfl,_,rfl,_,_,rfl,rfl,(by rw[<-ec']; exact ⟨c0,by omega⟩),_,rfl,_,rfl,_,_,rfl,rfl,(by rw[<-ec']; exact ⟨c0,by omega⟩),(by show 2<=sizeLine; decide),λr hr'=>?_⟩
    rw[<-ec']
    exact k hb r _ _ hr' fc e l1 l2
  · have ec':c=(Int.gcd t b:Int):=by rw[ec,if_neg hn]
    refine ⟨_,rfl,_,rfl,_,_,rfl,rfl,(by rw[<-ec']; exact ⟨c0,by omega⟩),_,rfl,_,rfl,_,_,rfl,rfl,(by rw[<-ec']; exact ⟨c0,by omega⟩),(by show 2<=sizeLine; decide),λr hr'=>?_⟩
    rw[<-ec']
    exact k hb r _ _ hr' fc e l1 l2
theorem Zhx{CF cN:Addr}{tk:Tok}(h:HereD K CF "number" "Fractions.number" ZaM #[.int 1 tk]) (c:ExcC K mg "NoNumber" cN) (h_divisor:Has P w K mg base "divisor" 1 ["one", "other"] ZaU):HasMX P w K mg base CF "number" 2 ["self", "top", "bottom"] [.int 1] (ZcS cN) :=
  h.hasMX (ds:=[.int 1 tk]) (.cons ⟨_,rfl⟩ .nil) (λf fd T F=>F.binds λ_ _ _ _ _ _ us hl=>by obtain ⟨_,_,rfl⟩:=Zed (show us.length=2 by simpa using hl); exact ⟨_,rfl,rfl⟩) λf fd T F=>Zhw F c h_divisor
end
theorem Zpz{p t b u v r:Int}(hp:2<=p)(h:(1:Int)=b*u+p*v)(hr:r=t*u%p):0<=r/\r<p/\p ∣ r*b-t:=by
  subst hr
  refine ⟨U2 _ (by omega),Ue _ (by omega),?_⟩
  have e:=Int.emod_add_mul_ediv (t*u) p
  have e1:t*u%p=t*u-p*(t*u/p):=by omega
  refine ⟨-(t*v)-(t*u/p)*b,?_⟩
  rw[e1]
  have e2:t=t*b*u+t*p*v:=by
    have:=congrArg (t * ·) h
    simp only[Wo,Int.mul_add] at this
    rw[Qi,Qi]; exact this
  generalize t*u/p=k at *
  rw[Int.sub_mul,Int.mul_sub,Wq,Qi p k b]
  have e3:t*u*b=t*b*u:=by rw[Qi,Qn u b,<-Qi]
  have e4:p*(t*v)=t*p*v:=by rw[<-Qi,Qn p t]
  omega
inductive Zbo (CR cN:Addr) (vs:List V) (H:Hp) (Q:VK) (E:XK):Prop
  | mk (s:Addr) (p t b:Int) (_:vs=[.ref s,.int t,.int b]) (_:ReA CR p H s) (_:M2.Prm p) (_:p<1000000) (_:t.natAbs<=10^140) (_:b.natAbs<=10^100) (_:(p ∣ b->E (.ref cN) none H)) (_:(¬p ∣ b->∀(H':Hp) (r:Int),Same H H'->0<=r->r<p->p ∣ r*b-t->Q (.int r) H')):Zbo CR cN vs H Q E
section
variable{P:Program}{w:World}{K:PySem.W.Frag}{mg:Str->Option Value}{base:Heap}
theorem ZeU:FnScope ["self", "top", "bottom"] ["self", "top", "bottom"] (Zah Za9):=⟨rfl,rfl,rfl,by decide +kernel,rfl,by decide +kernel,by decide +kernel⟩
theorem ZeV{CR cN:Addr}{f T:Addr}{fd:FuncData}{items:Array Value}(F:FunD K "number" "Rests.number" Za9 f fd T items) (cl:Cls K CR) (nP:NoAttr K CR "prime") (c:ExcC K mg "NoNumber" cN) (h_shares:Has P w K mg base "shares" 2 ["one", "other"] ZcB):FnOk P w K mg base (CXx P w) 3 f fd ["self", "top", "bottom"] (Zbo CR cN):=by
  refine F.okx ZeU (λvs H Q E h=>?_) (λcdv A outer s H vs Q E hr h=>?_)
  · obtain ⟨_,_,_,_,rfl,_⟩:=h
    rfl
  obtain ⟨sr,p,t,b,rfl,⟨dx,hs⟩,pr,lp,lt,lb,k0,k⟩:=h
  have h2:=pr.1
  refine ⟨_,(Zab (ZaF (Zaq Za8 (Zai ZaD (pv 2) (Zez (pv 0) rfl)) Zac (Zar _)) (Zaf (Zdt c ZgK rfl (by rfl) (Zaa ZaW Zad))) Zav)
    (Zaf (Zam (Zai ZaD (Zai ZaA (pv 1) (Zak Zal (Zao h_shares hr (by rfl) (Zaa (pv 2) (Zaa (Zez (pv 0) rfl) Zad))) Zac (λ_ _=>rfl))) (Zez (pv 0) rfl))))),?_⟩
  refine ⟨_,rfl,_,rfl,sr,CR,dx,_,_,rfl,hs,cl,nP,ZbM p,_,_,rfl,rfl,(show p≠0 by omega),rfl,_,rfl,?_⟩
  refine Zbv (λz=>⟨(by show 1<=1000; decide),k0 ((M2.fmod_dvd (by omega)).mp z)⟩) (λhb=>?_)
  have hb':¬p ∣ b:=λz=>hb ((M2.fmod_dvd (by omega)).mpr z)
  have g1:=M2.prm_gcd pr hb'
  refine ⟨_,rfl,_,rfl,_,rfl,sr,CR,dx,_,_,rfl,hs,cl,nP,ZbM p,b,p,rfl,lb,by omega,λq H1 u v S hq e bu bv=>?_⟩
  refine ⟨_,_,_,_,rfl,rfl,SqT.of hq,rfl,_,_,rfl,rfl,ZbA (by omega) (by omega),_,rfl,sr,CR,dx,_,_,rfl,S _ _ hs,cl,nP,ZbM p,_,_,rfl,rfl,(show p≠0 by omega),?_⟩
  rw[g1] at e
  obtain ⟨r0,r1,r2⟩:=Zpz (p:=p) (t:=t) (b:=b) (r:=t*u%p) h2 e rfl
  show Q (V.int ((t*u).fmod p)) _
  rw[Qx _ (by omega)]
  exact k hb' H1 _ S r0 r1 r2
theorem Zi0{CR cN:Addr}{tk:Tok}(h:HereD K CR "number" "Rests.number" Za9 #[.int 1 tk]) (cl:Cls K CR) (nP:NoAttr K CR "prime") (c:ExcC K mg "NoNumber" cN) (h_shares:Has P w K mg base "shares" 2 ["one", "other"] ZcB):HasMX P w K mg base CR "number" 3 ["self", "top", "bottom"] [] (Zbo CR cN) :=
  h.hasMX (ds:=[]) .nil (λf fd T F=>F.binds λ_ _ _ _ _ _ us hl=>by obtain ⟨_,_,_,rfl⟩:=Zei (show us.length=3 by simpa using hl); exact ⟨_,rfl,rfl⟩) λf fd T F=>ZeV F cl nP c h_shares
theorem Zhy{CR cN:Addr}{tk:Tok}(h:HereD K CR "number" "Rests.number" Za9 #[.int 1 tk]) (cl:Cls K CR) (nP:NoAttr K CR "prime") (c:ExcC K mg "NoNumber" cN) (h_shares:Has P w K mg base "shares" 2 ["one", "other"] ZcB):HasMX P w K mg base CR "number" 3 ["self", "top", "bottom"] [.int 1] (Zbo CR cN) :=
  h.hasMX (ds:=[.int 1 tk]) (.cons ⟨_,rfl⟩ .nil) (λf fd T F=>F.binds λ_ _ _ _ _ _ us hl=>by obtain ⟨_,_,rfl⟩:=Zed (show us.length=2 by simpa using hl); exact ⟨_,rfl,rfl⟩) λf fd T F=>ZeV F cl nP c h_shares
end
inductive ZdW (K:PySem.W.Frag) (CF:Addr) (vs:List V) (H:Hp) (Q:VK) (zE:XK):Prop
  | mk (s p q:Addr) (a1 b1 a2 b2:Int) (_:vs=[.ref s,.ref p,.ref q]) (_:FrA CF H s) (_:SqT K H p [.int a1,.int b1]) (_:SqT K H q [.int a2,.int b2]) (_:Fc a1 b1) (_:Fc a2 b2) (_:Bits 1000000 a1) (_:Bits 4000 b1) (_:Bits 1000000 a2) (_:Bits 4000 b2) (_:∀(t:Addr) (H':Hp) (x y:Int),Same H H'->H' t=some (.tup [.int x,.int y])->H t=none->Fc x y->x*(b1*b2)=(a1*b2+(-a2)*b1)*y->Q (.ref t) H'):ZdW K CF vs H Q zE
section
variable{P:Program}{w:World}{K:PySem.W.Frag}{mg:Str->Option Value}{base:Heap}
theorem Zdg:FnScope ["self", "one", "other"] ["self", "one", "other"] (Zah Zbk):=⟨rfl,rfl,rfl,by decide +kernel,rfl,by decide +kernel,by decide +kernel⟩
theorem Zi1{CF:Addr}(h:HereM K CF "minus" "Fractions.minus" Zbk) (cl:Cls K CF) (hM:HasM P w K mg base CF "plus" 2 ["self", "one", "other"] [] (Zdy K CF)):HasM P w K mg base CF "minus" 3 ["self", "one", "other"] [] (ZdW K CF):=by
  refine h.hasM (λf fd F=>F.binds λ_ _ _ _ _ _ us hl=>by obtain ⟨_,_,_,rfl⟩:=Zei hl; exact rfl) λf fd F=>F.ok Zdg (λvs H Q E h=>?_) (λcdv A outer s H vs Q E hr h=>?_)
  · obtain ⟨_,_,_,_,_,_,_,rfl,_⟩:=h
    rfl
  obtain ⟨sf,p,q,a1,b1,a2,b2,rfl,⟨dx,hs⟩,hp,hq,f1,f2,la1,lb1,la2,lb2,k⟩:=h
  refine ⟨_,(Zaf (Zam (ZaK (pv 0) hr (Zaa (pv 1) (Zaa (ZaB (Zaa (ZdJ Zb8 (Zak Zal (pv 2) Zac (λ_ _=>rfl))) (Zaa (Zak Zal (pv 2) Zac (λ_ _=>rfl)) Zad))) Zad))))),?_⟩
  refine ⟨_,rfl,_,_,_,_,_,_,_,rfl,hs,cl,hM,rfl,_,rfl,_,rfl,_,_,_,_,rfl,rfl,hq,rfl,_,rfl,_,rfl,_,_,_,_,rfl,rfl,hq,rfl,(by show 2<=sizeLine; decide),λr hr'=>?_⟩
  have S:=Zag hr' (.tup [.int (-a2),.int b2])
  refine ⟨sf,p,r,a1,b1,-a2,b2,rfl,⟨dx,S _ _ hs⟩,S.tup hp,SqT.of Zae,f1,⟨f2.pos,by rw[Int.neg_gcd]; exact f2.cop⟩,la1,lb1,la2.le (by omega),lb2,λt H' x y S' ht hn fc e=>?_⟩
  exact k t H' x y (S.trans S') ht (by
    cases z:H t with
    | none=>rfl
    | some o=>rw[S t o z] at hn; cases hn) fc e
end
section
variable{P:Program}{w:World}{K:PySem.W.Frag}{mg:Str->Option Value}{base:Heap}
theorem Zfk:FnScope ["self", "one", "other"] ["self", "one", "other"] (Zah Zcj):=⟨rfl,rfl,rfl,by decide +kernel,rfl,by decide +kernel,by decide +kernel⟩
theorem Zkh{CR:Addr}(h:HereM K CR "minus" "Rests.minus" Zcj) (cl:Cls K CR) (nP:NoAttr K CR "prime"):HasM P w K mg base CR "minus" 1 ["self", "one", "other"] [] (ZeT CR λa b=>a-b):=by
  refine h.hasM (λf fd F=>F.binds λ_ _ _ _ _ _ us hl=>by obtain ⟨_,_,_,rfl⟩:=Zei hl; exact rfl) λf fd F=>F.ok Zfk (λvs H Q E h=>?_) (λcdv A outer s H vs Q E hr h=>?_)
  · obtain ⟨_,_,_,_,rfl,_⟩:=h
    rfl
  obtain ⟨sr,p,a,b,rfl,⟨dx,hs⟩,h2,la,lb,k⟩:=h
  refine ⟨_,(Zaf (Zam (Zai ZaD (Zai Zc1 (pv 1) (pv 2)) (Zez (pv 0) rfl)))),?_⟩
  refine ⟨_,rfl,_,rfl,_,_,rfl,rfl,_,rfl,sr,CR,dx,_,_,rfl,hs,cl,nP,ZbM p,_,_,rfl,rfl,(show p≠0 by omega),?_⟩
  show Q (V.int ((a-b).fmod p)) _
  rw[Qx _ (by omega)]
  exact k
end
inductive ZfX (K:PySem.W.Frag) (cN:Addr) (vs:List V) (H:Hp) (Q:VK) (E:XK):Prop
  | mk (s p:Addr) (a b:Int) (_:vs=[.ref s,.ref p]) (_:SqT K H p [.int a,.int b]) (_:Fc a b) (_:(a=0->E (.ref cN) none H)) (_:(a≠0->∀(r:Addr) (x y:Int),H r=none->Fc x y->x*a=b*y->x.natAbs=b.natAbs->y.natAbs=a.natAbs->Q (.ref r) (upd H r (.tup [.int x,.int y])))):ZfX K cN vs H Q E
section
variable{P:Program}{w:World}{K:PySem.W.Frag}{mg:Str->Option Value}{base:Heap}
theorem ZdX:FnScope ["self", "one"] ["self", "one"] (Zah ZbC):=⟨rfl,rfl,rfl,by decide +kernel,rfl,by decide +kernel,by decide +kernel⟩
theorem ZlJ{CF cN:Addr}(h:HereM K CF "back" "Fractions.back" ZbC) (c_NoNumber:ExcC K mg "NoNumber" cN):HasMX P w K mg base CF "back" 1 ["self", "one"] [] (ZfX K cN):=by
  refine h.hasMX (λf fd F=>F.binds λ_ _ _ _ _ _ us hl=>by obtain ⟨_,_,rfl⟩:=Zed hl; exact rfl) λf fd F=>F.okx ZdX (λvs H Q E h=>?_) (λcdv A outer s H vs Q E hr h=>?_)
  · obtain ⟨_,_,_,_,rfl,_⟩:=h
    rfl
  obtain ⟨sf,p,a,b,rfl,hp,fc,k0,k⟩:=h
  have hb:=fc.pos
  refine ⟨_,(Zab (ZaF (Zaq Za8 (Zak Zal (pv 1) Zac (λ_ _=>rfl)) Zac (Zar _)) (Zaf (Zdt c_NoNumber ZgK rfl (by rfl) (Zaa ZaW Zad))) Zav)
    (Zab (ZaF (Zaq Zhg (Zak Zal (pv 1) Zac (λ_ _=>rfl)) Zac (Zar _)) (Zaf (Zam (ZaB (Zaa (ZdJ Zb8 (Zak Zal (pv 1) Zac (λ_ _=>rfl))) (Zaa (ZdJ Zb8 (Zak Zal (pv 1) Zac (λ_ _=>rfl))) Zad))))) Zav)
    (Zaf (Zam (ZaB (Zaa (Zak Zal (pv 1) Zac (λ_ _=>rfl)) (Zaa (Zak Zal (pv 1) Zac (λ_ _=>rfl)) Zad))))))),?_⟩
  refine ⟨_,rfl,_,_,_,_,rfl,rfl,hp,rfl,rfl,_,rfl,?_⟩
  refine Zbv (λz=>⟨(by show 1<=1000; decide),k0 z⟩) (λha=>?_)
  refine ⟨_,rfl,_,_,_,_,rfl,rfl,hp,rfl,_,_,rfl,rfl,_,rfl,?_⟩
  refine Zcu (λhn=>?_) (λhn=>?_)
  · refine ⟨_,rfl,_,_,_,_,rfl,rfl,hp,rfl,_,rfl,_,rfl,_,_,_,_,rfl,rfl,hp,rfl,_,rfl,(by show 2<=sizeLine; decide),λr hr'=>?_⟩
    refine k ha r (-b) (-a) hr' ⟨by omega,?_⟩ (by rw[Int.neg_mul,Wq]) (by omega) (by omega)
    rw[Int.neg_gcd,Int.gcd_neg,Ui]; exact fc.cop
  · refine ⟨_,rfl,_,_,_,_,rfl,rfl,hp,rfl,_,rfl,_,_,_,_,rfl,rfl,hp,rfl,(by show 2<=sizeLine; decide),λr hr'=>?_⟩
    exact k ha r b a hr' ⟨by omega,by rw[Ui]; exact fc.cop⟩ rfl rfl rfl
end
inductive ZfY (CR cN:Addr) (vs:List V) (H:Hp) (Q:VK) (E:XK):Prop
  | mk (s:Addr) (p a:Int) (_:vs=[.ref s,.int a]) (_:ReA CR p H s) (_:M2.Prm p) (_:p<1000000) (_:a.natAbs<=10^100) (_:(p ∣ a->E (.ref cN) none H)) (_:(¬p ∣ a->∀(H':Hp) (r:Int),Same H H'->0<=r->r<p->p ∣ r*a-1->Q (.int r) H')):ZfY CR cN vs H Q E
section
variable{P:Program}{w:World}{K:PySem.W.Frag}{mg:Str->Option Value}{base:Heap}
theorem ZfZ:FnScope ["self", "one"] ["self", "one"] (Zah Zcz):=⟨rfl,rfl,rfl,by decide +kernel,rfl,by decide +kernel,by decide +kernel⟩
theorem ZlK{CR cN:Addr}(h:HereM K CR "back" "Rests.back" Zcz) (cl:Cls K CR) (hN:HasMX P w K mg base CR "number" 3 ["self", "top", "bottom"] [] (Zbo CR cN)):HasMX P w K mg base CR "back" 4 ["self", "one"] [] (ZfY CR cN):=by
  refine h.hasMX (λf fd F=>F.binds λ_ _ _ _ _ _ us hl=>by obtain ⟨_,_,rfl⟩:=Zed hl; exact rfl) λf fd F=>F.okx ZfZ (λvs H Q E h=>?_) (λcdv A outer s H vs Q E hr h=>?_)
  · obtain ⟨_,_,_,rfl,_⟩:=h
    rfl
  obtain ⟨sr,p,a,rfl,⟨dx,hs⟩,pr,lp,la,k0,k⟩:=h
  refine ⟨_,(Zaf (Zam (ZaH (pv 0) ZgJ hr (Zaa Zac (Zaa (pv 1) Zad))))),?_⟩
  exact ⟨_,rfl,sr,CR,dx,_,_,_,_,rfl,hs,cl,hN,Zc3 p (by decide),_,rfl,sr,p,1,a,rfl,⟨dx,hs⟩,pr,lp,by decide,la,k0,k⟩
end
inductive ZdY (K:PySem.W.Frag) (CF:Addr) (vs:List V) (H:Hp) (Q:VK) (zE:XK):Prop
  | mk (s p:Addr) (a b:Int) (_:vs=[.ref s,.ref p]) (_:SqT K H p [.int a,.int b]) (_:Q (.bl (decide (a=0))) H):ZdY K CF vs H Q zE
section
variable{P:Program}{w:World}{K:PySem.W.Frag}{mg:Str->Option Value}{base:Heap}
theorem Zcs:FnScope ["self", "one"] ["self", "one"] (Zah Za0):=⟨rfl,rfl,rfl,by decide +kernel,rfl,by decide +kernel,by decide +kernel⟩
theorem Zi2{CF:Addr}(h:HereM K CF "is_nought" "Fractions.is_nought" Za0):HasM P w K mg base CF "is_nought" 1 ["self", "one"] [] (ZdY K CF):=by
  refine h.hasM (λf fd F=>F.binds λ_ _ _ _ _ _ us hl=>by obtain ⟨_,_,rfl⟩:=Zed hl; exact rfl) λf fd F=>F.ok Zcs (λvs H Q E h=>?_) (λcdv A outer s H vs Q E hr h=>?_)
  · obtain ⟨_,_,_,_,rfl,_⟩:=h
    rfl
  obtain ⟨sf,p,a,b,rfl,hp,k⟩:=h
  refine ⟨_,(Zaf (Zam (Zbz Za8 (Zak Zal (pv 1) Zac (λ_ _=>rfl)) Zac (Zar _)))),?_⟩
  refine ⟨_,rfl,_,_,_,_,rfl,rfl,hp,rfl,rfl,?_⟩
  rw[Zhi]
  exact k
end
inductive ZdZ (vs:List V) (H:Hp) (Q:VK) (zE:XK):Prop
  | mk (s:Addr) (a:Int) (_:vs=[.ref s,.int a]) (_:Q (.bl (decide (a=0))) H):ZdZ vs H Q zE
section
variable{P:Program}{w:World}{K:PySem.W.Frag}{mg:Str->Option Value}{base:Heap}
theorem Zdz:FnScope ["self", "one"] ["self", "one"] (Zah Zbm):=⟨rfl,rfl,rfl,by decide +kernel,rfl,by decide +kernel,by decide +kernel⟩
theorem Zi3{CR:Addr}(h:HereM K CR "is_nought" "Rests.is_nought" Zbm):HasM P w K mg base CR "is_nought" 1 ["self", "one"] [] ZdZ:=by
  refine h.hasM (λf fd F=>F.binds λ_ _ _ _ _ _ us hl=>by obtain ⟨_,_,rfl⟩:=Zed hl; exact rfl) λf fd F=>F.ok Zdz (λvs H Q E h=>?_) (λcdv A outer s H vs Q E hr h=>?_)
  · obtain ⟨_,_,rfl,_⟩:=h
    rfl
  obtain ⟨sf,a,rfl,k⟩:=h
  refine ⟨_,(Zaf (Zam (Zbz Za8 (pv 1) Zac (Zar _)))),?_⟩
  refine ⟨_,rfl,rfl,?_⟩
  rw[Zhi]
  exact k
end
end My
namespace My
open PySem L2 PyProof.Rows
theorem ZeW(N:Int){D:Int}(hD:0<D):(Rat.divInt N D).num*D=N*(Rat.divInt N D).den:=by
  have h:=Qo (Rat.divInt N D)
  have hd:=(Za4 (Rat.divInt N D)).pos
  have:=(W5 (n₁:=(Rat.divInt N D).num) (d₁:=((Rat.divInt N D).den:Int)) (n₂:=N) (d₂:=D) (by omega) (by omega)).mp h
  exact this
theorem Zhz{a b c:Int}(h:a ∣ b*c)(g:Int.gcd a b=1):a ∣ c:=by
  rw[<-Wx] at h ⊢
  rw[Qs] at h
  exact Nat.Coprime.dvd_of_dvd_mul_left g h
theorem Zcb(N:Int){D:Int}(hD:0<D):((Rat.divInt N D).den:Int) ∣ D/\(Rat.divInt N D).num ∣ N:=by
  have e:=ZeW N hD
  have c:=(Za4 (Rat.divInt N D)).cop
  generalize (Rat.divInt N D).num=n at *
  generalize ((Rat.divInt N D).den:Int)=d at *
  refine ⟨?_,?_⟩
  · refine Zhz (b:=n) ⟨N,?_⟩ (by rw[Ui]; exact c)
    rw[e,Qn]
  · refine Zhz (b:=d) ⟨D,?_⟩ c
    rw[e,Qn]
theorem Za3{a b:Int}(h:a ∣ b)(hb:b≠0):a.natAbs<=b.natAbs:=Ww (by omega) (Wx.mpr h)
theorem ZcT{n:Nat}{a b:Int}(h:a ∣ b)(hb:Bits n b)(hz:b=0->a=0):Bits n a:=by
  by_cases z:b=0
  · rw[hz z]; exact Qd _
  · exact hb.le (Za3 h z)
theorem Zep(N:Int){D:Int}(hD:0<D)(z:N=0):(Rat.divInt N D).num=0:=by
  subst z
  have e:=ZeW 0 hD
  rw[Int.zero_mul] at e
  rcases Int.mul_eq_zero.mp e with h | h
  · exact h
  · omega
def KdX(CF CR:Addr)(κ:KX)(H:Hp)(s:Addr):Prop:=match κ with
  | .q=>FrA CF H s
  | .r p _=>ReA CR p H s
theorem KdX.same{CF CR:Addr}{κ:KX}{H H':Hp}{k:Addr}(h:KdX CF CR κ H k)(S:Same H H'):KdX CF CR κ H' k:=by
  cases κ with
  | q=>obtain ⟨dx,h⟩:=h; exact ⟨dx,S _ _ h⟩
  | r p hp=>obtain ⟨dx,h⟩:=h; exact ⟨dx,S _ _ h⟩
theorem ZoE{CF CR:Addr}{p:Int}{H:Hp}{s:Addr}(h:KdA CF CR p H s):∃κ:KX,κ.P=p/\KdX CF CR κ H s:=by
  rcases h with ⟨rfl,h⟩ | ⟨pr,lp,h⟩
  · exact ⟨.q,rfl,h⟩
  · have h2:=pr.1
    have e:((p.toNat:Nat):Int)=p:=by omega
    refine ⟨.r p.toNat ⟨by rw[e]; exact pr,by omega⟩,e,?_⟩
    show ReA CR ((p.toNat:Nat):Int) H s
    rw[e]; exact h
abbrev B1(κ:KX)(x:κ.F):Prop:=Bd κ 1000000 4000 x
theorem ZaV{p:Nat}(h:PrN p)(x:Fin p):((x.val:Int)).natAbs<=10^150:=by
  have:=x.isLt
  have:=h.lt
  exact Q2 (show _<=1000000 by omega) (by decide)
def ZhA(P:Program)(w:World)(K:PySem.W.Frag)(mg:Str->Option Value)(base:Heap)(CF CR:Addr)(m:Str)(g:(κ:KX)->κ.F->κ.F->κ.F):Prop :=
  ∀(κ:KX) (H:Hp) (s:Addr),KdX CF CR κ H s->∃C dx fs ps dvs sp,H s=some (.ins C dx fs)/\Cls K C/\HasM P w K mg base C m 2 ps dvs sp/\fs.lookup m=none/\dvs=[] ∧
    ∀(H':Hp) (u v:V) (x y:κ.F) (Q:VK),Same H H'->NR κ H' u x->NR κ H' v y->B1 κ x->B1 κ y->(∀t H'',Same H' H''->NR κ H'' t (g κ x y)->Q t H'')->sp [.ref s,u,v] H' Q E0
end My
namespace My
open PySem L2 PyProof.Rows
section
variable{P:Program}{w:World}{K:PySem.W.Frag}{mg:Str->Option Value}{base:Heap}{CF CR:Addr}
theorem Zki(kd:Kd K mg CF CR)(hF:HasM P w K mg base CF "plus" 2 ["self", "one", "other"] [] (Zdy K CF)) (hR:HasM P w K mg base CR "plus" 2 ["self", "one", "other"] [] (ZeT CR λa b=>a+b)):ZhA P w K mg base CF CR "plus" (λ_ x y=>x+y):=by
  intro κ H s hk
  cases κ with
  | q =>
    obtain ⟨dx,h⟩:=hk
    refine ⟨CF,dx,[],_,_,_,h,kd.clF,hF,rfl,rfl,λH' u v x y Q S hu hv bx by' k=>?_⟩
    obtain ⟨a,rfl,hu⟩:=hu
    obtain ⟨b,rfl,hv⟩:=hv
    refine ⟨s,a,b,_,_,_,_,rfl,⟨dx,S _ _ h⟩,SqT.of hu,SqT.of hv,Za4 x,Za4 y,bx.1,bx.2,by'.1,by'.2,λt H'' n d S' ht hn fc e=>?_⟩
    obtain ⟨e1,e2⟩:=Zkd (x:=x) (y:=y) fc e
    refine k (.ref t) H'' S' ⟨t,rfl,?_⟩
    show H'' t=some (.tup [.int (x+y).num,.int ((x+y).den:Int)])
    rw[e1,e2]
    exact ht
  | r p hp =>
    obtain ⟨dx,h⟩:=hk
    refine ⟨CR,dx,fsR p,_,_,_,h,kd.clR,hR,Zc3 _ (by decide),rfl,λH' u v x y Q S hu hv _ _ k=>?_⟩
    have hu:u = .int x.val:=hu
    have hv:v = .int y.val:=hv
    subst hu hv
    refine ⟨s,p,_,_,rfl,⟨dx,S _ _ h⟩,by have:=hp.two; omega,ZaV hp x,ZaV hp y,k _ H' (Same.refl _) ?_⟩
    show V.int (((x.val:Int)+y.val)%p)=V.int ((Fin.val (x+y):Nat):Int)
    have e:Fin.val (x+y)=(x.val+y.val)%p:=Fin.val_add x y
    rw[e,Wf,Int.natCast_add]
end
section
variable{P:Program}{w:World}{K:PySem.W.Frag}{mg:Str->Option Value}{base:Heap}{CF CR:Addr}
theorem Zi4(kd:Kd K mg CF CR)(hF:HasM P w K mg base CF "times" 2 ["self", "one", "other"] [] (ZdV K CF)) (hR:HasM P w K mg base CR "times" 2 ["self", "one", "other"] [] (ZeT CR λa b=>a*b)):ZhA P w K mg base CF CR "times" (λ_ x y=>x*y):=by
  intro κ H s hk
  cases κ with
  | q =>
    obtain ⟨dx,h⟩:=hk
    refine ⟨CF,dx,[],_,_,_,h,kd.clF,hF,rfl,rfl,λH' u v x y Q S hu hv bx by' k=>?_⟩
    obtain ⟨a,rfl,hu⟩:=hu
    obtain ⟨b,rfl,hv⟩:=hv
    refine ⟨s,a,b,_,_,_,_,rfl,⟨dx,S _ _ h⟩,SqT.of hu,SqT.of hv,Za4 x,Za4 y,bx.1,bx.2,by'.1,by'.2,λt H'' n d S' ht hn fc e=>?_⟩
    obtain ⟨e1,e2⟩:=Zke (x:=x) (y:=y) fc e
    refine k (.ref t) H'' S' ⟨t,rfl,?_⟩
    show H'' t=some (.tup [.int (x*y).num,.int ((x*y).den:Int)])
    rw[e1,e2]
    exact ht
  | r p hp =>
    obtain ⟨dx,h⟩:=hk
    refine ⟨CR,dx,fsR p,_,_,_,h,kd.clR,hR,Zc3 _ (by decide),rfl,λH' u v x y Q S hu hv _ _ k=>?_⟩
    have hu:u = .int x.val:=hu
    have hv:v = .int y.val:=hv
    subst hu hv
    refine ⟨s,p,_,_,rfl,⟨dx,S _ _ h⟩,by have:=hp.two; omega,ZaV hp x,ZaV hp y,k _ H' (Same.refl _) ?_⟩
    show V.int (((x.val:Int)*y.val)%p)=V.int ((Fin.val (x*y):Nat):Int)
    have e:Fin.val (x*y)=(x.val*y.val)%p:=Fin.val_mul x y
    rw[e,Wf,Wl]
end
end My
namespace L2
open PySem PySem.Spec PyProof.Rows
section
variable{X:Cx}
theorem Zim:OpR X (binaryOp .FloorDiv) (rI (λ_ j=>j≠0/\Bits 8000 j) λi j => .int (i.fdiv j)):=opI λ_ _ _ _ _ _ _ hc q=>floordiv_int hc.1 q (.inl (PyProof.noPylong_of_log2 (U9 (hc.2.log hc.1) (by decide))))
end
end L2
namespace My
open PySem L2 PyProof.Rows
section
variable{κ:KX}
def RowsX(κ:KX)(H:Hp)(as:List Addr)(R:List (List κ.F)):Prop:=as.length=R.length/\∀(i:Nat) a f,as[i]?=some a->R[i]?=some f->∃xs,H a=some (.lst xs)/\AllG (NR κ H) xs f
def AllR(Pr:κ.F->Prop)(R:List (List κ.F)):Prop:=∀f∈R,∀x∈f,Pr x
theorem RowsX.same{H H':Hp}{as:List Addr}{R:List (List κ.F)}(h:RowsX κ H as R)(S:Same H H'):RowsX κ H' as R :=
  ⟨h.1,λi a f ha hf=>let ⟨xs,hx,al⟩:=h.2 i a f ha hf; ⟨xs,S _ _ hx,al.mono λ_ _ n=>n.same S⟩⟩
theorem RowsX.off{H H':Hp}{t:Addr}{as:List Addr}{R:List (List κ.F)}{ys:List V}(h:RowsX κ H as R)(n:t∉as)(ht:H t=some (.lst ys))(O:Off [t] H H'):RowsX κ H' as R :=
  ⟨h.1,λi a f ha hf=>let ⟨xs,hx,al⟩:=h.2 i a f ha hf; ⟨xs,O _ _ (λm=>n (by rw[<-Q3.mp m]; exact Q9 ha)) hx,al.mono λ_ _ n=>n.off ht O⟩⟩
theorem RowsX.get{H:Hp}{as:List Addr}{R:List (List κ.F)}(h:RowsX κ H as R){i:Nat}(hi:i<R.length):∃a xs,as[i]?=some a/\H a=some (.lst xs)/\AllG (NR κ H) xs R[i]:=by
  have l:=h.1
  obtain ⟨xs,hx,al⟩:=h.2 i (as[i]'(by omega)) R[i] (Q5 (by omega)) (Q5 hi)
  exact ⟨_,xs,Q5 (by omega),hx,al⟩
theorem RowsX.set{H:Hp}{as:List Addr}{R:List (List κ.F)}(h:RowsX κ H as R)(i:Nat){a:Addr}{xs:List V}{f:List κ.F}(hx:H a=some (.lst xs))(al:AllG (NR κ H) xs f):RowsX κ H (as.set i a) (R.set i f):=by
  have l:=h.1
  refine ⟨by rw[We,We,l],λj b g hb hg=>?_⟩
  rw[Wu] at hb hg
  split at hb
  · rename_i e
    rw[if_pos e] at hg
    split at hb
    · rename_i hl
      rw[if_pos (by omega)] at hg
      cases hb; cases hg; exact ⟨xs,hx,al⟩
    · cases hb
  · rename_i e
    rw[if_neg e] at hg
    exact h.2 j b g hb hg
inductive Tn (κ:KX) where
  | swap (i j:Int)
  | scale (i:Int) (c:κ.F)
  | add (i j:Int) (c:κ.F)
def TR(κ:KX)(H:Hp)(v:V)(t:Tn κ):Prop:=match t with
  | .swap i j=>∃a,v = .ref a/\H a=some (.tup [.str "swap", .int i,.int j])
  | .scale i c=>∃a u,v = .ref a/\H a=some (.tup [.str "scale", .int i,u])/\NR κ H u c
  | .add i j c=>∃a u,v = .ref a/\H a=some (.tup [.str "add", .int i,.int j,u])/\NR κ H u c
theorem TR.same{H H':Hp}{v:V}{t:Tn κ}(h:TR κ H v t)(S:Same H H'):TR κ H' v t:=by
  cases t with
  | swap i j=>obtain ⟨a,e,h⟩:=h; exact ⟨a,e,S _ _ h⟩
  | scale i c=>obtain ⟨a,u,e,h,n⟩:=h; exact ⟨a,u,e,S _ _ h,n.same S⟩
  | add i j c=>obtain ⟨a,u,e,h,n⟩:=h; exact ⟨a,u,e,S _ _ h,n.same S⟩
theorem TR.off{H H':Hp}{t:Addr}{ys:List V}{v:V}{x:Tn κ}(h:TR κ H v x)(ht:H t=some (.lst ys))(O:Off [t] H H'):TR κ H' v x:=by
  have na:∀a zs,H a=some (.tup zs)->a∉[t]:=λa zs q m=>by rw[Q3.mp m,ht] at q; cases q
  cases x with
  | swap i j=>obtain ⟨a,e,h⟩:=h; exact ⟨a,e,O _ _ (na _ _ h) h⟩
  | scale i c=>obtain ⟨a,u,e,h,n⟩:=h; exact ⟨a,u,e,O _ _ (na _ _ h) h,n.off ht O⟩
  | add i j c=>obtain ⟨a,u,e,h,n⟩:=h; exact ⟨a,u,e,O _ _ (na _ _ h) h,n.off ht O⟩
def Tn.ok(n:Nat):Tn κ->Prop
  | .swap i j=>(0<=i/\i<n)/\(0<=j/\j<n)/\i≠j
  | .scale i c=>(0<=i/\i<n)/\c≠0
  | .add i j _=>(0<=i/\i<n)/\(0<=j/\j<n)/\i≠j
def Tn.bd:Tn κ->Prop
  | .swap _ _=>True
  | .scale _ c=>B1 κ c
  | .add _ _ c=>B1 κ c
noncomputable def doT(t:Tn κ)(R:List (List κ.F)):List (List κ.F):=match t with
  | .swap i j=>(R.set i.toNat (R.getD j.toNat [])).set j.toNat (R.getD i.toNat [])
  | .scale i c=>R.set i.toNat ((R.getD i.toNat []).map (c * ·))
  | .add i j c=>R.set i.toNat (List.zipWith (· + ·) (R.getD i.toNat []) ((R.getD j.toNat []).map (c * ·)))
theorem Zd0(t:Tn κ)(R:List (List κ.F)):(doT t R).length=R.length:=by
  cases t <;> simp[doT]
end
inductive Zbs (CF CR:Addr) (vs:List V) (H:Hp) (Q:VK) (zE:XK):Prop
  | mk (κ:KX) (s r:Addr) (cv:V) (c:κ.F) (xs:List V) (f:List κ.F) (_:vs=[.ref s,cv,.ref r]) (_:KdX CF CR κ H s) (_:NR κ H cv c) (_:H r=some (.lst xs)) (_:AllG (NR κ H) xs f) (_:B1 κ c) (_:(∀x∈f,B1 κ x)) (_:f.length<=1000) (_:∀(H':Hp) (D:Addr) (ys:List V),Same H H'->H D=none->H' D=some (.lst ys)->AllG (NR κ H') ys (f.map (c * ·))->Q (.ref D) H'):Zbs CF CR vs H Q zE
inductive ZcC (CF CR:Addr) (vs:List V) (H:Hp) (Q:VK) (zE:XK):Prop
  | mk (κ:KX) (s r1 r2:Addr) (xs ys:List V) (f g:List κ.F) (_:vs=[.ref s,.ref r1,.ref r2]) (_:KdX CF CR κ H s) (_:H r1=some (.lst xs)) (_:H r2=some (.lst ys)) (_:AllG (NR κ H) xs f) (_:AllG (NR κ H) ys g) (_:(∀x∈f,B1 κ x)) (_:(∀x∈g,B1 κ x)) (_:f.length<=1000) (_:∀(H':Hp) (D:Addr) (zs:List V),Same H H'->H D=none->H' D=some (.lst zs)->AllG (NR κ H') zs (List.zipWith (· + ·) f g)->Q (.ref D) H'):ZcC CF CR vs H Q zE
theorem Zbg{p:Prop}[Decidable p]{A B:Prop}(h:p)(k:A):if decide p=true then A else B:=by rw[if_pos (decide_eq_true h)]; exact k
theorem Zbh{p:Prop}[Decidable p]{A B:Prop}(h:¬p)(k:B):if decide p=true then A else B:=by rw[if_neg (by simpa using h)]; exact k
theorem s12:V.str "swap" ≠ V.str "scale" := by decide
theorem s13:V.str "swap" ≠ V.str "add" := by decide
theorem s23:V.str "scale" ≠ V.str "add" := by decide
theorem s21:V.str "scale" ≠ V.str "swap" := by decide
theorem s31:V.str "add" ≠ V.str "swap" := by decide
theorem s32:V.str "add" ≠ V.str "scale" := by decide
theorem Zef{l:List Addr}(h:∀(i j:Nat) a,l[i]?=some a->l[j]?=some a->i=j):l.Nodup:=by
  refine List.pairwise_iff_getElem.mpr λi j hi hj lt e=>?_
  have:=h i j l[i] (Q5 hi) (by rw[e]; exact Q5 hj)
  omega
theorem ZgU{l:List Addr}{i:Nat}{a:Addr}(h:l.Nodup)(n:a∉l):(l.set i a).Nodup:=by
  refine Zef λx y b hx hy=>?_
  rw[Wu] at hx hy
  split at hx
  · rename_i e1
    split at hy
    · rename_i e2; omega
    · split at hx
      · cases hx; exact absurd (Q9 hy) n
      · cases hx
  · split at hy
    · split at hy
      · cases hy; exact absurd (Q9 hx) n
      · cases hy
    · exact ZgS h hx hy
theorem ZlL{l:List Addr}{i j:Nat}{a b:Addr}(hi:l[i]?=some a)(hj:l[j]?=some b)(x:Nat):((l.set i b).set j a)[x]?=if x=j then some a else if x=i then some b else l[x]?:=by
  have li:=(Qf.mp hi).1
  have lj:=(Qf.mp hj).1
  rw[Wu]
  by_cases e:j=x
  · subst e
    rw[if_pos rfl,if_pos (by rw[We]; exact lj),if_pos rfl]
  · rw[if_neg e,if_neg (λz=>e z.symm),Wu]
    by_cases e2:i=x
    · subst e2
      rw[if_pos rfl,if_pos li,if_pos rfl]
    · rw[if_neg e2,if_neg (λz=>e2 z.symm)]
theorem Zi5{l:List Addr}{i j:Nat}{a b:Addr}(h:l.Nodup)(hi:l[i]?=some a)(hj:l[j]?=some b):((l.set i b).set j a).Nodup:=by
  refine Zef λx y c hx hy=>?_
  rw[ZlL hi hj] at hx hy
  have inj:=fun {p q:Nat} {d:Addr} (h1:l[p]?=some d) (h2:l[q]?=some d)=>ZgS h h1 h2
  by_cases x1:x=j
  · rw[if_pos x1] at hx
    cases hx
    by_cases y1:y=j
    · omega
    · rw[if_neg y1] at hy
      by_cases y2:y=i
      · rw[if_pos y2] at hy; cases hy; have:=inj hi hj; omega
      · rw[if_neg y2] at hy; have:=inj hi hy; omega
  · rw[if_neg x1] at hx
    by_cases x2:x=i
    · rw[if_pos x2] at hx
      cases hx
      by_cases y1:y=j
      · rw[if_pos y1] at hy; cases hy; have:=inj hi hj; omega
      · rw[if_neg y1] at hy
        by_cases y2:y=i
        · omega
        · rw[if_neg y2] at hy; have:=inj hj hy; omega
    · rw[if_neg x2] at hx
      by_cases y1:y=j
      · rw[if_pos y1] at hy; cases hy; have:=inj hi hx; omega
      · rw[if_neg y1] at hy
        by_cases y2:y=i
        · rw[if_pos y2] at hy; cases hy; have:=inj hj hx; omega
        · rw[if_neg y2] at hy; exact inj hx hy
theorem Zin{l:List Addr}{i j:Nat}{a b c:Addr}(hi:l[i]?=some a)(hj:l[j]?=some b)(m:c∈(l.set i b).set j a):c∈l:=by
  rcases W6 m with m | rfl
  · rcases W6 m with m | rfl
    · exact m
    · exact Q9 hj
  · exact Q9 hi
def Tn.pre{κ:KX}(R:List (List κ.F)):Tn κ->Prop
  | .swap _ _=>True
  | .scale i c=>B1 κ c/\∀x∈R.getD i.toNat [],B1 κ x
  | .add i j c=>B1 κ c/\(∀x∈R.getD i.toNat [],B1 κ x)/\∀y∈R.getD j.toNat [],B1 κ y/\B1 κ (c*y)
inductive ZcD (CF CR:Addr) (vs:List V) (H:Hp) (Q:VK) (zE:XK):Prop
  | mk (κ:KX) (s r:Addr) (as:List Addr) (R:List (List κ.F)) (tv:V) (t:Tn κ) (_:vs=[.ref s,.ref r,tv]) (_:KdX CF CR κ H s) (_:H r=some (.lst (as.map V.ref))) (_:RowsX κ H as R) (_:r∉as) (_:(∀f∈R,f.length<=1000)) (_:TR κ H tv t) (_:t.ok R.length) (_:t.pre R) (_:∀(H':Hp) (as':List Addr),Off [r] H H'->H' r=some (.lst (as'.map V.ref))->RowsX κ H' as' (doT t R)->r∉as'->(as.Nodup->as'.Nodup)->(∀a∈as',a∈as\/H a=none)->Q .non H'):ZcD CF CR vs H Q zE
def Zkj(P:Program)(w:World)(K:PySem.W.Frag)(mg:Str->Option Value)(base:Heap)(CF CR:Addr):Prop :=
  ∀(κ:KX) (H:Hp) (s:Addr),KdX CF CR κ H s->∃C dx fs ps dvs sp,H s=some (.ins C dx fs)/\Cls K C/\HasM P w K mg base C "is_nought" 2 ps dvs sp/\fs.lookup ("is_nought" : Str)=none/\dvs=[] ∧
    ∀(u:V) (x:κ.F) (Q:VK),NR κ H u x->(∀b:Bool,(b=true↔x=0)->Q (.bl b) H)->sp [.ref s,u] H Q E0
noncomputable def Zgo{κ:KX}(ts:List (Tn κ))(R:List (List κ.F)):List (List κ.F):=ts.foldl (λR t=>doT t R) R
theorem ZlM{κ:KX}(ts:List (Tn κ)):∀R:List (List κ.F),(Zgo ts R).length=R.length:=by
  induction ts with
  | nil=>exact λR=>rfl
  | cons t ts ih=>exact λR=>by show (Zgo ts (doT t R)).length=_; rw[ih,Zd0]
theorem Zkk{κ:KX}(ts:List (Tn κ))(t:Tn κ)(R:List (List κ.F)):Zgo (ts++[t]) R=doT t (Zgo ts R):=by
  unfold Zgo
  rw[List.foldl_append]
  rfl
theorem Zaw{α:Type}{R:List (List α)}{i:Nat}{f:List α}(h:R[i]?=some f):R.getD i []=f:=by rw[Q4,h]; rfl
def Wid{α:Type}(m:Nat)(R:List (List α)):Prop:=∀f∈R,f.length=m
theorem Wid.get{α:Type}{m:Nat}{R:List (List α)}(h:Wid m R){i:Nat}(hi:i<R.length):(R.getD i []).length=m:=by
  rw[Zaw (Q5 hi)]
  exact h _ (Qp hi)
theorem Wid.set{α:Type}{m i:Nat}{R:List (List α)}{f:List α}(h:Wid m R)(e:f.length=m):Wid m (R.set i f):=λg hg=>by
  rcases W6 hg with hg | rfl
  · exact h g hg
  · exact e
theorem ZeX{κ:KX}{m:Nat}{t:Tn κ}{R:List (List κ.F)}(h:Wid m R)(ok:t.ok R.length):Wid m (doT t R):=by
  cases t with
  | swap i j =>
    obtain ⟨hi,hj,_⟩:=ok
    exact (h.set (h.get (by omega))).set (h.get (by omega))
  | scale i c =>
    obtain ⟨hi,_⟩:=ok
    refine h.set ?_
    rw[Q0]
    exact h.get (by omega)
  | add i j c =>
    obtain ⟨hi,hj,_⟩:=ok
    refine h.set ?_
    rw[List.length_zipWith,Q0,h.get (by omega),h.get (by omega)]
    exact Nat.min_self m
theorem Zay{H H':Hp}{t:Addr}{o:HO}(S:Same H H'):Off [t] H (upd H' t o):=λb u n q=>by
  rw[Zap (λz=>n (by rw[z]; exact Q3.mpr rfl))]
  exact S _ _ q
theorem Zb3{as:List Addr}{i:Int}{a:Addr}(h0:0<=i)(h:as[i.toNat]?=some a):atI (as.map V.ref) i=some (.ref a):=by
  have e:i=((i.toNat:Nat):Int):=by omega
  rw[e]
  exact Zcr h
theorem Zbp{n:Nat}{i:Int}(h0:0<=i)(h:i<n):ixN n i=some i.toNat:=by
  have e:i=((i.toNat:Nat):Int):=by omega
  rw[e,Q7]
  exact Znp (by omega)
theorem Za1{as:List Addr}{i:Nat}{a:Addr}:(as.map V.ref).set i (.ref a)=(as.set i a).map V.ref:=by rw[Up]
theorem RowsX.notin{κ:KX}{H:Hp}{as:List Addr}{R:List (List κ.F)}{r:Addr}(h:RowsX κ H as R)(n:H r=none):r∉as:=λm=>by
  obtain ⟨i,hi,e⟩:=Wy m
  have l:=h.1
  obtain ⟨zs,hz,_⟩:=h.2 i r _ (by rw[<-e]; exact Q5 hi) (Q5 (show i<R.length by omega))
  rw[hz] at n; cases n
theorem RowsX.snoc{κ:KX}{H:Hp}{as:List Addr}{R:List (List κ.F)}{a:Addr}{xs:List V}{f:List κ.F}(h:RowsX κ H as R)(hx:H a=some (.lst xs))(al:AllG (NR κ H) xs f):RowsX κ H (as++[a]) (R++[f]):=by
  have l:=h.1
  refine ⟨by rw[Qc,Qc,l]; rfl,λi b g hb hg=>?_⟩
  by_cases hi:i<as.length
  · rw[W2 hi] at hb
    rw[W2 (by omega)] at hg
    exact h.2 i b g hb hg
  · rw[W3 (by omega)] at hb hg
    rw[<-l] at hg
    cases q:i-as.length with
    | zero=>rw[q] at hb hg; cases hb; cases hg; exact ⟨xs,hx,al⟩
    | succ n=>rw[q] at hb; simp at hb
theorem RowsX.nil{κ:KX}{H:Hp}:RowsX κ H [] []:=⟨rfl,λi a f h=>by simp at h⟩
open PySem L2 PyProof.Rows
def Sz(κ:KX)(n:Nat)(x:κ.F):Prop:=match κ with
  | .q=>(x.den:Int) ∣ 60*12^n/\Bits (200+700*n) x.num
  | .r _ _=>True
def Sc(κ:KX)(x:κ.F):Prop:=match κ with
  | .q=>(x.den:Int) ∣ 12/\Bits 200 x.num
  | .r _ _=>True
theorem Zqt{t b:Int}(hb:0<b):(t.fdiv (Int.gcd t b)=(Rat.divInt t b).num)/\(b.fdiv (Int.gcd t b)=((Rat.divInt t b).den:Int)):=by
  obtain ⟨l1,l2,l3,_,_⟩:=M3.low (t:=t) hb
  obtain ⟨e1,e2⟩:=Zkc (N:=t) (D:=b) ⟨l2,l1⟩ hb l3
  exact ⟨e1.symm,e2.symm⟩
inductive ZeY (vs:List V) (H:Hp) (Q:VK) (zE:XK):Prop
  | mk (t b:Int) (_:vs=[.int t,.int b]) (_:0<b) (_:Bits 8000 b) (_:∀r,H r=none->Q (.ref r) (upd H r (.tup [.int (Rat.divInt t b).num,.int ((Rat.divInt t b).den:Int)]))):ZeY vs H Q zE
inductive Zbt (g:(κ:KX)->κ.F->κ.F->κ.F) (vs:List V) (H:Hp) (Q:VK) (zE:XK):Prop
  | mk (κ:KX) (u v:V) (x y:κ.F) (_:vs=[.int κ.P,u,v]) (_:NR κ H u x) (_:NR κ H v y) (_:B1 κ x) (_:B1 κ y) (_:∀H' t,Same H H'->NR κ H' t (g κ x y)->Q t H'):Zbt g vs H Q zE
theorem ZpA{b:Int}(h0:1<=b)(h:b<=6):b ∣ 60:=by
  rcases (by omega:b=1\/b=2\/b=3\/b=4\/b=5\/b=6) with rfl | rfl | rfl | rfl | rfl | rfl <;> decide
theorem ZgV{p:Nat}{h:PrN p}:0<(KX.r p h).P:=by have:=h.two; show 0<(p:Int); omega
theorem Zms{p:Nat}(h:PrN p)(c:Int):∃x:Fin p,(c.fmod (p:Int))=(x.val:Int):=by
  have h2:=h.two
  rw[Qx _ (by omega)]
  have e0:=U2 c (show (p:Int)≠0 by omega)
  have e1:=Ue c (show 0<(p:Int) by omega)
  exact ⟨⟨(c%p).toNat,by omega⟩,by show c%p=(((c%p).toNat:Nat):Int); omega⟩
theorem Zkl{a b:Int}{A B:Prop}(h:a=b)(k:A):if decide (V.int a=V.int b)=true then A else B:=Zbv (λ_=>k) (λz=>absurd h z)
theorem Zkm{a b:Int}{A B:Prop}(h:a≠b)(k:B):if decide (V.int a=V.int b)=true then A else B:=Zbv (λz=>absurd z h) (λ_=>k)
def TSc{κ:KX}:Tn κ->Prop
  | .swap _ _=>True
  | .scale _ c=>Sc κ c
  | .add _ _ c=>Sc κ c
noncomputable abbrev K1(κ:KX):κ.F:=1
noncomputable abbrev K0(κ:KX):κ.F:=0
theorem ZhB{p:Nat}(h:PrN p):Fin.val (K1 (.r p h))=1:=by
  show 1%p=1
  exact Nat.mod_eq_of_lt h.two
theorem ZdA{p:Nat}(h:PrN p):Fin.val (K0 (.r p h))=0:=by
  show 0%p=0
  exact Nat.zero_mod p
theorem ZhC{a:Int}{n:Nat}(h:1<=n):∃i:Nat,a.fmod (n:Int)=(i:Int)/\i<n:=by
  rw[Qx _ (by omega)]
  have e0:=U2 a (show (n:Int)≠0 by omega)
  have e1:=Ue a (show 0<(n:Int) by omega)
  exact ⟨(a%n).toNat,by omega,by omega⟩
def Zqu{κ:KX}(R:List (List κ.F)):PyData:=.list (R.map λf => .list (f.map κ.D))
theorem RowsX.rp{κ:KX}{H:Hp}{t:Addr}{as:List Addr}{R:List (List κ.F)}(h:RowsX κ H as R)(ht:H t=some (.lst (as.map V.ref))):Rp H 3 (.ref t) (Zqu R):=by
  refine Zmp ht ⟨by rw[Q0,Q0]; exact h.1,λi v d hv hd=>?_⟩
  obtain ⟨a,ha,rfl⟩:=ZaT hv
  rw[Qh] at hd
  cases e:R[i]? with
  | none=>rw[e] at hd; cases hd
  | some f =>
    rw[e] at hd
    cases hd
    obtain ⟨xs,hx,al⟩:=h.2 i a f ha e
    exact Zmp hx (al.all2 λ_ _ n=>n.rp)
inductive ZbN (vs:List V) (H:Hp) (Q:VK) (zE:XK):Prop
  | mk (κ:KX) (u v:V) (x:κ.F) (_:vs=[.int κ.P,u,v]) (_:NR κ H u x) (_:NR κ H v x) (_:Q (.bl true) H):ZbN vs H Q zE
theorem Zqv{us:List Value}(h:us.length=5):∃a b c d e,us=[a,b,c,d,e]:=match us,h with | [a,b,c,d,e],_=>⟨a,b,c,d,e,rfl⟩
theorem ZlN{κ:KX}{m:Nat}{ts:List (Tn κ)}:∀ {R:List (List κ.F)},Wid m R->(∀t∈ts,t.ok R.length)->Wid m (Zgo ts R):=by
  induction ts with
  | nil=>exact λh _=>h
  | cons t ts ih =>
    intro R h ok
    show Wid m (Zgo ts (doT t R))
    refine ih (ZeX h (ok t (by simp))) λt' ht'=>?_
    rw[Zd0]
    exact ok t' (by simp[ht'])
section
variable{κ:KX}
theorem AllR.getD{Pr:κ.F->Prop}{R:List (List κ.F)}(h:AllR Pr R)(i:Nat):∀x∈R.getD i [],Pr x:=λx hx=>by
  rw[Q4] at hx
  cases e:R[i]? with
  | none=>rw[e] at hx; cases hx
  | some f=>rw[e] at hx; exact h f (Q9 e) x hx
theorem AllR.set{Pr:κ.F->Prop}{R:List (List κ.F)}{i:Nat}{f:List κ.F}(h:AllR Pr R)(g:∀x∈f,Pr x):AllR Pr (R.set i f):=λe he=>by
  rcases W6 he with he | rfl
  · exact h e he
  · exact g
theorem ZeZ{α:Type}{f:α->α->α}{z:α}:∀ {a b:List α},z∈List.zipWith f a b->∃x∈a,∃y∈b,z=f x y
  | [],_,h=>by simp at h
  | _::_,[],h=>by simp at h
  | x::a,y::b,h=>by
    rw[List.zipWith_cons_cons] at h
    rcases Q8.mp h with rfl | h
    · exact ⟨x,by simp,y,by simp,rfl⟩
    · obtain ⟨u,hu,v,hv,e⟩:=ZeZ h
      exact ⟨u,by simp[hu],v,by simp[hv],e⟩
end
structure TU (κ:KX) (H:Hp) (U:Addr) (n:Nat) (tvs:List V) (ts:List (Tn κ)):Prop where
  l:H U=some (.lst tvs)
  al:AllG (TR κ H) tvs ts
  ok:∀t∈ts,t.ok n
  sc:∀t∈ts,TSc t
  l1:1<=ts.length
  l3:ts.length<=300
  lq:κ = .q->ts.length<=64
theorem ZcE(xs:List V)(n:Nat):Zfs xs none (some (n:Int))=xs.take n:=by
  unfold Zfs
  rw[HT.sIx_none,List.drop_zero,Nat.sub_zero]
  rw[HT.sIx_nat,Nat.min_def]
  split
  · rfl
  · rw[Wt (Q1 _),Wt (by omega)]
theorem Zkn(xs:List V)(n:Nat):Zfs xs (some (n:Int)) none=xs.drop n:=by
  unfold Zfs
  rw[HT.sIx_none,HT.sIx_nat]
  by_cases h:n<=xs.length
  · rw[Nat.min_eq_left h,Wt]
    rw[Wp]
    omega
  · rw[Nat.min_eq_right (by omega),List.drop_of_length_le (by omega),List.drop_of_length_le (by omega)]
    simp
end My
namespace My
open PySem L2 PyProof.Rows
theorem Zf0{α:Type}[Fd α]{x r:α}(h:x*r=1):r=Fd.inv x:=by
  have hx:x≠0:=λz=>by
    subst z
    have e:(0:α)*r=0:=by grind
    rw[e] at h
    exact Fd.zne h
  have:=Fd.mul_inv x hx
  grind
theorem ZgW{n d:Int}(fc:Fc n d):∃q:Rat,q.num=n/\(q.den:Int)=d:=by
  have hd:=fc.pos
  refine ⟨⟨n,d.toNat,by omega,?_⟩,rfl,by show ((d.toNat:Nat):Int)=d; omega⟩
  have:=fc.cop
  rw[Nat.coprime_iff_gcd_eq_one]
  have e:Int.gcd n d=Nat.gcd n.natAbs d.natAbs:=rfl
  have e2:d.natAbs=d.toNat:=by omega
  rw[<-e2]
  omega
theorem Znq{q:Rat}{x y:Int}(fc:Fc x y)(e:x*q.num=q.den*y):(Fd.inv q:Rat).num=x/\((Fd.inv q:Rat).den:Int)=y:=by
  obtain ⟨r,e1,e2⟩:=ZgW fc
  have m:=Zke (x:=q) (y:=r) (n:=1) (d:=1) ⟨by decide,by decide⟩ (by rw[e1,e2]; have:q.num*x=x*q.num:=Qn _ _; omega)
  have h1:q*r=1:=by
    rw[<-Qo (q*r),m.1,m.2]; rfl
  have:=Zf0 (α:=Rat) h1
  rw[<-this]
  exact ⟨e1,e2⟩
theorem Znr{x y:Rat}{n d:Int}(fc:Fc n d)(e:n*((x.den:Int)*y.den)=(x.num*y.den+(-y.num)*x.den)*d):(x-y).num=n/\((x-y).den:Int)=d:=by
  have h1:(-y).num = -y.num:=rfl
  have h2:(-y).den=y.den:=rfl
  have:x-y=x+(-y):=by grind
  rw[this]
  refine Zkd (x:=x) (y:=-y) fc ?_
  rw[h1,h2]; exact e
noncomputable abbrev KX.mulF(κ:KX)(x y:κ.F):κ.F:=x*y
noncomputable abbrev KX.invF(κ:KX)(x:κ.F):κ.F:=Fd.inv x
theorem Zko{κ:KX}{x r:κ.F}(h:κ.mulF x r=K1 κ):r=κ.invF x:=Zf0 h
def NumV(κ:KX)(t:Int)(x:κ.F):Prop:=match κ with
  | .q=>x.num=t/\x.den=1
  | .r p _=>t.natAbs<=10^140/\(x.val:Int)=t%p
theorem Zf1{κ:KX}:NumV κ 0 0:=by
  cases κ with
  | q=>exact ⟨rfl,rfl⟩
  | r p h=>exact ⟨by decide,by show ((Fin.val (K0 (.r p h)):Nat):Int)=_; rw[ZdA]; simp⟩
theorem ZcZ{κ:KX}:NumV κ 1 1:=by
  cases κ with
  | q=>exact ⟨rfl,rfl⟩
  | r p h=>exact ⟨by decide,by
      show ((Fin.val (K1 (.r p h)):Nat):Int)=_
      rw[ZhB]
      have:=h.two
      exact (Uf (by decide) (by omega)).symm⟩
theorem NumV.uniq{κ:KX}{t:Int}{x y:κ.F}(h:NumV κ t x)(h':NumV κ t y):x=y:=by
  cases κ with
  | q =>
    have e1:Rat.num x=Rat.num y:=h.1.trans h'.1.symm
    have e2:Rat.den x=Rat.den y:=h.2.trans h'.2.symm
    exact Rat.ext e1 e2
  | r p hp =>
    refine Fin.ext ?_
    have e:(Fin.val x:Int)=Fin.val y:=h.2.trans h'.2.symm
    omega
def ZlO(P:Program)(w:World)(K:PySem.W.Frag)(mg:Str->Option Value)(base:Heap)(CF CR:Addr):Prop :=
  ∀(κ:KX) (H:Hp) (s:Addr),KdX CF CR κ H s->∃C dx fs ps dvs sp,H s=some (.ins C dx fs)/\Cls K C/\HasM P w K mg base C "minus" 3 ps dvs sp/\fs.lookup ("minus" : Str)=none/\dvs=[] ∧
    ∀(H':Hp) (u v:V) (x y:κ.F) (Q:VK),Same H H'->NR κ H' u x->NR κ H' v y->B1 κ x->B1 κ y->(∀t H'',Same H' H''->NR κ H'' t (x-y)->Q t H'')->sp [.ref s,u,v] H' Q E0
def ZbO(P:Program)(w:World)(K:PySem.W.Frag)(mg:Str->Option Value)(base:Heap)(CF CR:Addr):Prop :=
  ∀(κ:KX) (H:Hp) (s:Addr),KdX CF CR κ H s->∃C dx fs ps dvs sp,H s=some (.ins C dx fs)/\Cls K C/\HasMX P w K mg base C "number" 3 ps dvs sp/\fs.lookup ("number" : Str)=none/\dvs=[.int 1] ∧
    ∀(H':Hp) (t:Int) (x:κ.F) (Q:VK) (E:XK),Same H H'->NumV κ t x->(∀v H'',Same H' H''->NR κ H'' v x->Q v H'')->sp [.ref s,.int t,.int 1] H' Q E
def Zio(P:Program)(w:World)(K:PySem.W.Frag)(mg:Str->Option Value)(base:Heap)(CF CR:Addr):Prop :=
  ∀(κ:KX) (H:Hp) (s:Addr),KdX CF CR κ H s->∃C dx fs ps dvs sp,H s=some (.ins C dx fs)/\Cls K C/\HasMX P w K mg base C "back" 4 ps dvs sp/\fs.lookup ("back" : Str)=none/\dvs=[] ∧
    ∀(H':Hp) (u:V) (x:κ.F) (Q:VK) (E:XK),Same H H'->NR κ H' u x->x≠0->(∀v H'',Same H' H''->NR κ H'' v (Fd.inv x)->Q v H'')->sp [.ref s,u] H' Q E
section
variable{P:Program}{w:World}{K:PySem.W.Frag}{mg:Str->Option Value}{base:Heap}{CF CR cN:Addr}
theorem Zi6(kd:Kd K mg CF CR)(hF:HasM P w K mg base CF "minus" 3 ["self", "one", "other"] [] (ZdW K CF)) (hR:HasM P w K mg base CR "minus" 3 ["self", "one", "other"] [] (ZeT CR λa b=>a-b)):ZlO P w K mg base CF CR:=by
  intro κ H s hk
  cases κ with
  | q =>
    obtain ⟨dx,h⟩:=hk
    refine ⟨CF,dx,[],_,_,_,h,kd.clF,hF,rfl,rfl,λH' u v x y Q S hu hv bx by' k=>?_⟩
    obtain ⟨a,rfl,hu⟩:=hu
    obtain ⟨b,rfl,hv⟩:=hv
    refine ⟨s,a,b,_,_,_,_,rfl,⟨dx,S _ _ h⟩,SqT.of hu,SqT.of hv,Za4 x,Za4 y,bx.1,bx.2,by'.1,by'.2,λt H'' n d S' ht hn fc e=>?_⟩
    obtain ⟨e1,e2⟩:=Znr (x:=x) (y:=y) fc e
    refine k (.ref t) H'' S' ⟨t,rfl,?_⟩
    show H'' t=some (.tup [.int (x-y:Rat).num,.int ((x-y:Rat).den:Int)])
    rw[e1,e2]
    exact ht
  | r p hp =>
    obtain ⟨dx,h⟩:=hk
    refine ⟨CR,dx,fsR p,_,_,_,h,kd.clR,hR,Zc3 _ (by decide),rfl,λH' u v x y Q S hu hv _ _ k=>?_⟩
    have hu:u = .int x.val:=hu
    have hv:v = .int y.val:=hv
    subst hu hv
    refine ⟨s,p,_,_,rfl,⟨dx,S _ _ h⟩,by have:=hp.two; omega,ZaV hp x,ZaV hp y,k _ H' (Same.refl _) ?_⟩
    show V.int (((x.val:Int)-y.val)%p)=V.int ((Fin.val (x-y):Nat):Int)
    have e:Fin.val (x-y)=(p-y.val+x.val)%p:=rfl
    have ly:=y.isLt
    have e2:(((p-y.val+x.val:Nat)):Int)=((x.val:Int)-y.val)+p:=by omega
    rw[e,Wf,e2,Int.add_emod_right]
theorem ZhD(kd:Kd K mg CF CR)(hF:HasMX P w K mg base CF "number" 3 ["self", "top", "bottom"] [.int 1] (ZcS cN)) (hR:HasMX P w K mg base CR "number" 3 ["self", "top", "bottom"] [.int 1] (Zbo CR cN)):ZbO P w K mg base CF CR:=by
  intro κ H s hk
  cases κ with
  | q =>
    obtain ⟨dx,h⟩:=hk
    refine ⟨CF,dx,[],_,_,_,h,kd.clF,hF,rfl,rfl,λH' t x Q E S hx k=>⟨s,t,1,rfl,by decide,λz=>absurd z (by decide),λ_ r n d nr fc e l1 l2=>?_⟩⟩
    have y1:d=1:=by
      have:=fc.pos
      have l3:d.natAbs<=1:=l2
      omega
    subst y1
    have x1:n=t:=by omega
    subst x1
    have e1:Rat.num x=n:=hx.1
    have e2:Rat.den x=1:=hx.2
    refine k _ _ (Zag nr _) ⟨r,rfl,?_⟩
    show upd H' r _ r=some (.tup [.int (Rat.num x),.int ((Rat.den x:Nat):Int)])
    rw[e1,e2]; exact Zae
  | r p hp =>
    obtain ⟨dx,h⟩:=hk
    have h2:=hp.pr.1
    refine ⟨CR,dx,_,_,_,_,h,kd.clR,hR,Zc3 p (by decide),rfl,λH' t x Q E S hx k=>⟨s,p,t,1,rfl,⟨dx,S _ _ h⟩,hp.pr,by have:=hp.lt; omega,hx.1,by decide,λz=>?_,λ_ H'' r S' r0 r1 rd=>?_⟩⟩
    · have:=Uq (by decide) z
      omega
    · refine k _ H'' S' ?_
      show V.int r=V.int ((Fin.val x:Nat):Int)
      have e:(Fin.val x:Int)=t%p:=hx.2
      rw[e]
      congr 1
      rw[Wo] at rd
      have e3:r%p=t%p:=Int.emod_eq_emod_iff_emod_sub_eq_zero.mpr (U1 rd)
      rw[<-e3]
      exact (Uf r0 r1).symm
theorem Zkp(kd:Kd K mg CF CR)(hF:HasMX P w K mg base CF "back" 4 ["self", "one"] [] (ZfX K cN)) (hR:HasMX P w K mg base CR "back" 4 ["self", "one"] [] (ZfY CR cN)):Zio P w K mg base CF CR:=by
  intro κ H s hk
  cases κ with
  | q =>
    obtain ⟨dx,h⟩:=hk
    refine ⟨CF,dx,[],_,_,_,h,kd.clF,hF,rfl,rfl,λH' u x Q E S hu hx k=>?_⟩
    obtain ⟨a,rfl,hu⟩:=hu
    have hn:Rat.num x≠0:=λz=>hx (Rat.num_eq_zero.mp z)
    refine ⟨s,a,_,_,rfl,SqT.of hu,Za4 x,λz=>absurd z hn,λ_ r n d nr fc e l1 l2=>?_⟩
    obtain ⟨e1,e2⟩:=Znq (q:=x) fc e
    refine k _ _ (Zag nr _) ⟨r,rfl,?_⟩
    show upd H' r _ r=some (.tup [.int (Fd.inv x:Rat).num,.int ((Fd.inv x:Rat).den:Int)])
    rw[e1,e2]; exact Zae
  | r p hp =>
    obtain ⟨dx,h⟩:=hk
    have h2:=hp.two
    refine ⟨CR,dx,_,_,_,_,h,kd.clR,hR,Zc3 p (by decide),rfl,λH' u x Q E S hu hx k=>?_⟩
    have hu:u = .int x.val:=hu
    subst hu
    have xl:=x.isLt
    have x0:x.val≠0:=λz=>hx (show x=K0 (.r p hp) from Fin.ext (by rw[ZdA]; exact z))
    have nd:¬(p:Int) ∣ (x.val:Int):=λz=>by
      have:=Uq (by omega) z
      omega
    refine ⟨s,p,_,rfl,⟨dx,S _ _ h⟩,hp.pr,by have:=hp.lt; omega,Q2 (show _<=1000000 by have:=hp.lt; omega) (by decide),λz=>absurd z nd,λ_ H'' r S' r0 r1 rd=>?_⟩
    refine k _ H'' S' ?_
    have hy:(KX.r p hp).mulF x (⟨r.toNat,by omega⟩:Fin p)=K1 (.r p hp):=by
      refine Fin.ext ?_
      show Fin.val ((x:Fin p)*(⟨r.toNat,by omega⟩:Fin p))=Fin.val (K1 (.r p hp))
      rw[ZhB,Fin.val_mul]
      show x.val*r.toNat%p=1
      have e:((x.val*r.toNat%p:Nat):Int)=((1:Nat):Int):=by
        rw[Wf,Wl,Int.toNat_of_nonneg r0]
        have e3:r*(x.val:Int)%p=1%p:=Int.emod_eq_emod_iff_emod_sub_eq_zero.mpr (U1 rd)
        rw[Qn,e3]
        exact Uf (by decide) (by omega)
      exact_mod_cast e
    have:=Zko (κ:=.r p hp) hy
    show V.int r=V.int ((Fin.val ((KX.r p hp).invF x):Nat):Int)
    rw[show (KX.r p hp).invF x=_ from this.symm]
    show V.int r=V.int ((r.toNat:Nat):Int)
    rw[Int.toNat_of_nonneg r0]
end
end My
namespace My
open PySem L2 PyProof.Rows
theorem Zkq{κ:KX}:B1 κ 0:=by
  cases κ with
  | q=>exact ⟨Bits.of (by show (0:Int).natAbs<_; exact Nat.two_pow_pos _),Bits.of (by show (1:Int).natAbs<_; exact Q6 (show 1<2^1 by decide) (Qe (by decide) (by decide)))⟩
  | r p h=>trivial
end My
namespace My
open PySem L2 PyProof.Rows
section
variable{κ:KX}
noncomputable def ent(R:List (List κ.F))(i j:Nat):κ.F:=(R.getD i []).getD j 0
theorem Zf2{α:Type}{R:List (List α)}{i:Nat}{f:List α}(h:i<R.length):(R.set i f).getD i []=f:=Zaw (by rw[Wu,if_pos rfl,if_pos h])
theorem ZhE{α:Type}{R:List (List α)}{i j:Nat}{f:List α}(h:i≠j):(R.set i f).getD j []=R.getD j []:=by
  rw[Q4,Q4,Wu,if_neg h]
theorem Zf3{R:List (List κ.F)}{i k j:Nat}{f:List κ.F}(h:i<R.length):ent (R.set i f) k j=if k=i then f.getD j 0 else ent R k j:=by
  unfold ent
  by_cases e:k=i
  · subst e; rw[if_pos rfl,Zf2 h]
  · rw[if_neg e,ZhE (Ne.symm e)]
theorem Zf4(f:List κ.F)(c:κ.F)(j:Nat):(f.map (c * ·)).getD j 0=c*f.getD j 0:=by
  rw[Q4,Q4,Qh]
  cases f[j]? with
  | none=>show (0:κ.F)=c*0; grind
  | some x=>rfl
theorem ZlP{f g:List κ.F}(h:f.length=g.length)(j:Nat):(List.zipWith (· + ·) f g).getD j 0=f.getD j 0+g.getD j 0:=by
  rw[Q4,Q4,Q4,List.getElem?_zipWith]
  by_cases hj:j<f.length
  · rw[Q5 hj,Q5 (by omega)]; rfl
  · rw[Ur (by omega),Ur (by omega)]
    show (0:κ.F)=0+0
    grind
theorem Zeq{R:List (List κ.F)}{a b:Int}(ha:a.toNat<R.length)(hb:b.toNat<R.length)(i j:Nat):ent (doT (.swap a b) R) i j=if i=b.toNat then ent R a.toNat j else if i=a.toNat then ent R b.toNat j else ent R i j:=by
  show ent ((R.set a.toNat (R.getD b.toNat [])).set b.toNat (R.getD a.toNat [])) i j=_
  rw[Zf3 (by rw[We]; exact hb),Zf3 ha]
  rfl
theorem Zcc{R:List (List κ.F)}{a:Int}{c:κ.F}(ha:a.toNat<R.length)(i j:Nat):ent (doT (.scale a c) R) i j=if i=a.toNat then c*ent R i j else ent R i j:=by
  show ent (R.set a.toNat ((R.getD a.toNat []).map (c * ·))) i j=_
  rw[Zf3 ha,Zf4]
  by_cases e:i=a.toNat
  · rw[if_pos e,if_pos e,e]; rfl
  · rw[if_neg e,if_neg e]
theorem Zf5{m:Nat}{R:List (List κ.F)}{a b:Int}{c:κ.F}(wd:Wid m R)(ha:a.toNat<R.length)(hb:b.toNat<R.length)(i j:Nat):ent (doT (.add a b c) R) i j=if i=a.toNat then ent R i j+c*ent R b.toNat j else ent R i j:=by
  show ent (R.set a.toNat (List.zipWith (· + ·) (R.getD a.toNat []) ((R.getD b.toNat []).map (c * ·)))) i j=_
  rw[Zf3 ha,ZlP (by rw[Q0,wd.get ha,wd.get hb]),Zf4]
  by_cases e:i=a.toNat
  · rw[if_pos e,if_pos e,e]; rfl
  · rw[if_neg e,if_neg e]
theorem RowsX.ent{m:Nat}{H:Hp}{as:List Addr}{R:List (List κ.F)}(rx:RowsX κ H as R)(wd:Wid m R){i j:Nat}(hi:i<R.length)(hj:j<m):∃a xs v,as[i]?=some a/\H a=some (.lst xs)/\xs[j]?=some v/\NR κ H v (ent R i j):=by
  obtain ⟨a,xs,ha,hx,al⟩:=rx.get hi
  have l:=wd.get hi
  have e:R.getD i []=R[i]:=Zaw (Q5 hi)
  rw[e] at l
  obtain ⟨v,hv,nv⟩:=al.get' (i:=j) (by omega)
  refine ⟨a,xs,v,ha,hx,hv,?_⟩
  unfold My.ent
  rw[e,Q4,Q5 (by omega)]
  exact nv
theorem Zkr{m:Nat}{Pr:κ.F->Prop}{R:List (List κ.F)}(wd:Wid m R)(h:∀i<R.length,∀j<m,Pr (ent R i j)):AllR Pr R:=by
  intro f hf x hx
  obtain ⟨i,hi,rfl⟩:=Wy hf
  obtain ⟨j,hj,rfl⟩:=Wy hx
  have l:=wd _ hf
  have:=h i hi j (by omega)
  unfold ent at this
  rw[Zaw (Q5 hi),Q4,Q5 hj] at this
  exact this
theorem Zd1{m:Nat}{Pr:κ.F->Prop}{R:List (List κ.F)}(wd:Wid m R){i:Nat}(hi:i<R.length)(h:∀j<m,Pr (ent R i j)):∀x∈R.getD i [],Pr x:=by
  intro x hx
  obtain ⟨j,hj,rfl⟩:=Wy hx
  have l:=wd.get hi
  have:=h j (by omega)
  unfold ent at this
  rw[Q4,Q5 hj] at this
  exact this
theorem ZhF{m:Nat}{Pr:κ.F->Prop}{R:List (List κ.F)}(wd:Wid m R)(h:AllR Pr R){i j:Nat}(hi:i<R.length)(hj:j<m):Pr (ent R i j):=by
  have l:=wd.get hi
  unfold ent
  rw[Q4,Q5 (by omega)]
  refine h _ ?_ _ (Qp _)
  rw[Zaw (Q5 hi)]
  exact Qp hi
theorem Zks{m:Nat}{R S:List (List κ.F)}(l:R.length=S.length)(w1:Wid m R)(w2:Wid m S)(h:∀i<R.length,∀j<m,ent R i j=ent S i j):R=S:=by
  apply List.ext_getElem l
  intro i h1 h2
  have a:=w1 _ (Qp h1)
  have b:=w2 _ (Qp h2)
  apply List.ext_getElem (by omega)
  intro j h3 h4
  have:=h i h1 j (by omega)
  unfold ent at this
  rw[Zaw (Q5 h1),Zaw (Q5 h2),Q4,Q5 h3,Q4,Q5 h4] at this
  exact this
theorem Zns{m:Nat}{R:List (List κ.F)}{a:Int}(wd:Wid m R)(ha:a.toNat<R.length)(ok:(Tn.scale (κ:=κ) a 1).ok R.length):doT (.scale a 1) R=R:=by
  refine Zks (m:=m) (Zd0 _ _) (ZeX wd ok) wd λi hi j hj=>?_
  rw[Zcc ha]
  split
  · grind
  · rfl
theorem Znt{m:Nat}{R:List (List κ.F)}{a b:Int}(wd:Wid m R)(ok:(Tn.add (κ:=κ) a b 0).ok R.length):doT (.add a b 0) R=R:=by
  obtain ⟨⟨a0,a1⟩,⟨b0,b1⟩,ne⟩:=id ok
  refine Zks (m:=m) (Zd0 _ _) (ZeX wd ok) wd λi hi j hj=>?_
  rw[Zf5 wd (by omega) (by omega)]
  split
  · grind
  · rfl
def QS(κ:KX)(D:Int)(a:Nat)(x:κ.F):Prop:=match κ with
  | .q=>∃X:Int,x=Rat.divInt X D/\Bits a X
  | .r _ _=>True
theorem QS.mono{D:Int}{a b:Nat}{x:κ.F}(h:QS κ D a x)(l:a<=b):QS κ D b x:=by
  cases κ with
  | r p hp=>exact trivial
  | q=>obtain ⟨X,e,hX⟩:=h; exact ⟨X,e,hX.up l⟩
theorem QS.mul{D E:Int}{a b:Nat}{x y:κ.F}(h:QS κ D a x)(g:QS κ E b y):QS κ (D*E) (a+b) (x*y):=by
  cases κ with
  | r p hp=>exact trivial
  | q =>
    obtain ⟨X,rfl,hX⟩:=h
    obtain ⟨Y,rfl,hY⟩:=g
    exact ⟨X*Y,Wm _ _,hX.times hY⟩
theorem QS.add{D:Int}(hD:0<D){a:Nat}{x y:κ.F}(h:QS κ D a x)(g:QS κ D a y):QS κ D (a+1) (x+y):=by
  cases κ with
  | r p hp=>exact trivial
  | q =>
    obtain ⟨X,rfl,hX⟩:=h
    obtain ⟨Y,rfl,hY⟩:=g
    refine ⟨X+Y,?_,hX.plus hY⟩
    show Rat.divInt X D+Rat.divInt Y D=_
    rw[Ug _ _ (by omega) (by omega),W5 (Wv (Qm hD hD)) (by omega),<-Uo,Qi]
theorem QS.neg{D:Int}{a:Nat}{x:κ.F}(h:QS κ D a x):QS κ D a (0-x):=by
  cases κ with
  | r p hp=>exact trivial
  | q =>
    obtain ⟨X,rfl,hX⟩:=h
    refine ⟨-X,?_,hX.le (by omega)⟩
    have e:(0-Rat.divInt X D:Rat) = -Rat.divInt X D:=by grind
    exact e.trans (Rat.neg_divInt X D)
theorem QS.up{D E:Int}(hD:0<D)(hE:0<E){a e:Nat}{x:κ.F}(h:QS κ D a x)(bE:Bits e E):QS κ (D*E) (a+e) x:=by
  cases κ with
  | r p hp=>exact trivial
  | q =>
    obtain ⟨X,rfl,hX⟩:=h
    refine ⟨X*E,?_,hX.times bE⟩
    rw[W5 (by omega) (Wv (Qm hD hE)),Qi,Qn D E]
theorem QS.b1{D:Int}(hD:0<D){a:Nat}{x:κ.F}(h:QS κ D a x)(bD:Bits 4000 D)(ha:a<=1000000):B1 κ x:=by
  cases κ with
  | r p hp=>exact trivial
  | q =>
    obtain ⟨X,rfl,hX⟩:=h
    obtain ⟨z1,z2⟩:=Zcb X hD
    exact ⟨ZcT z2 (hX.up ha) (Zep X hD),ZcT z1 bD (λz=>by omega)⟩
theorem QS.inv{D:Int}(hD:0<D){a d:Nat}(h1:1<=a){x:κ.F}(h:QS κ D a x)(bD:Bits d D)(h0:x≠0):∃L:Int,0<L/\Bits a L/\QS κ L d (Fd.inv x):=by
  cases κ with
  | r p hp=>exact ⟨1,by decide,Bits.of (by show 1<_; exact Q6 (show 1<2^1 by decide) (Qe (by decide) h1)),trivial⟩
  | q =>
    obtain ⟨X,rfl,hX⟩:=h
    have X0:X≠0:=λz=>by subst z; exact h0 (Rat.zero_divInt D)
    have key:∀Y L:Int,0<L->X*Y=D*L->(Fd.inv (Rat.divInt X D):Rat)=Rat.divInt Y L:=λY L hL e=>by
      refine (Zf0 (α:=Rat) ?_).symm
      rw[Wm,e]
      have:(D*L:Int)≠0:=Wv (Qm hD hL)
      exact Rat.divInt_self' this
    rcases Int.lt_or_gt_of_ne X0 with c | c
    · refine ⟨-X,by omega,hX.le (by omega),-D,key (-D) (-X) (by omega) ?_,bD.le (by omega)⟩
      rw[Wq,Wq,Qn]
    · exact ⟨X,c,hX,D,key D X c (Qn _ _),bD⟩
theorem ZoF:QS κ 1 1 1:=by
  cases κ with
  | r p hp=>exact trivial
  | q=>exact ⟨1,by rfl,Bits.of (by decide)⟩
end
end My
namespace My
open PySem L2 PyProof.Rows
abbrev B1s(κ:KX)(x:κ.F):Prop:=Bd κ 900000 3700 x
theorem B1s.b1{κ:KX}{x:κ.F}(h:B1s κ x):B1 κ x:=by
  cases κ with
  | q=>exact ⟨h.1.up (by decide),h.2.up (by decide)⟩
  | r p hp=>exact trivial
theorem QS.b1s{κ:KX}{D:Int}(hD:0<D){a:Nat}{x:κ.F}(h:QS κ D a x)(bD:Bits 3700 D)(ha:a<=900000):B1s κ x:=by
  cases κ with
  | r p hp=>exact trivial
  | q =>
    obtain ⟨X,rfl,hX⟩:=h
    obtain ⟨z1,z2⟩:=Zcb X hD
    exact ⟨ZcT z2 (hX.up ha) (Zep X hD),ZcT z1 bD (λz=>by omega)⟩
def Tn.preS{κ:KX}(R:List (List κ.F)):Tn κ->Prop
  | .swap _ _=>True
  | .scale i c=>B1s κ c/\∀x∈R.getD i.toNat [],B1s κ x
  | .add i j c=>B1s κ c/\(∀x∈R.getD i.toNat [],B1s κ x)/\∀y∈R.getD j.toNat [],B1s κ y/\B1s κ (c*y)
theorem Tn.preS.pre{κ:KX}{R:List (List κ.F)}{t:Tn κ}(h:t.preS R):t.pre R:=by
  cases t with
  | swap i j=>trivial
  | scale i c=>exact ⟨h.1.b1,λx hx=>(h.2 x hx).b1⟩
  | add i j c=>exact ⟨h.1.b1,λx hx=>(h.2.1 x hx).b1,λx hx=>⟨(h.2.2 x hx).1.b1,(h.2.2 x hx).2.b1⟩⟩
section
variable{κ:KX}
structure Ech (R:List (List κ.F)) (n c:Nat) (ls:List Nat) (x:κ.F):Prop where
  le:ls.length<=n
  lt:∀k<ls.length,ls.getD k 0<c
  inc:∀k k',k<k'->k'<ls.length->ls.getD k 0<ls.getD k' 0
  x0:x≠0
  col:∀k<ls.length,∀i<n,ent R i (ls.getD k 0)=if i=k then x else 0
  low:∀i,ls.length<=i->i<n->∀j<c,ent R i j=0
  pre:∀k<ls.length,∀j<ls.getD k 0,ent R k j=0
theorem Znu{R:List (List κ.F)}{n:Nat}:Ech R n 0 [] 1:=⟨Qd _,λk h=>by simp at h,λk k' _ h=>by simp at h,λz=>Fd.zne z.symm,λk h=>by simp at h,λi _ _ j hj=>by omega,λk h=>by simp at h⟩
theorem Ech.skip{R:List (List κ.F)}{n c:Nat}{ls:List Nat}{x:κ.F}(h:Ech R n c ls x)(z:∀i,ls.length<=i->i<n->ent R i c=0):Ech R n (c+1) ls x where
  le:=h.le
  lt:=λk hk=>by have:=h.lt k hk; omega
  inc:=h.inc
  x0:=h.x0
  col:=h.col
  low:=λi h1 h2 j hj=>by
    by_cases e:j=c
    · subst e; exact z i h1 h2
    · exact h.low i h1 h2 j (by omega)
  pre:=h.pre
theorem Ech.swap{R:List (List κ.F)}{n c f:Nat}{ls:List Nat}{x:κ.F}(h:Ech R n c ls x)(hn:R.length=n)(h1:ls.length<=f)(h2:f<n):Ech (doT (.swap (ls.length:Int) (f:Int)) R) n c ls x:=by
  have e:=Zeq (R:=R) (a:=(ls.length:Int)) (b:=(f:Int)) (by rw[Q7]; omega) (by rw[Q7]; omega)
  simp only[Q7] at e
  refine ⟨h.le,h.lt,h.inc,h.x0,λk hk i hi=>?_,λi a b j hj=>?_,λk hk j hj=>?_⟩
  · rw[e]
    by_cases e1:i=f
    · rw[if_pos e1,h.col k hk _ (by omega),if_neg (by omega),if_neg (by omega)]
    · rw[if_neg e1]
      by_cases e2:i=ls.length
      · rw[if_pos e2,h.col k hk _ h2,if_neg (by omega),if_neg (by omega)]
      · rw[if_neg e2,h.col k hk i hi]
  · rw[e]
    by_cases e1:i=f
    · rw[if_pos e1]; exact h.low _ (Q1 _) (by omega) j hj
    · rw[if_neg e1]
      by_cases e2:i=ls.length
      · rw[if_pos e2]; exact h.low _ h1 h2 j hj
      · rw[if_neg e2]; exact h.low i a b j hj
  · rw[e,if_neg (by omega),if_neg (by omega)]
    exact h.pre k hk j hj
noncomputable def Zkt(R:List (List κ.F))(l c:Nat)(x:κ.F)(i j:Nat):κ.F:=if i=l then ent R l j else Fd.inv x*(ent R l c*ent R i j+(0-ent R i c)*ent R l j)
theorem Zby{ls:List Nat}{c k:Nat}(h:k<ls.length):(ls++[c]).getD k 0=ls.getD k 0:=by
  rw[Q4,Q4,W2 h]
theorem ZbW{ls:List Nat}{c:Nat}:(ls++[c]).getD ls.length 0=c:=by
  rw[Q4,W3 (Q1 _),U3]; rfl
theorem Ech.pivot{R R':List (List κ.F)}{n c:Nat}{ls:List Nat}{x:κ.F}(h:Ech R n c ls x)(hl:ls.length<n)(h0:ent R ls.length c≠0)(e:∀i<n,∀j,ent R' i j=Zkt R ls.length c x i j):Ech R' n (c+1) (ls++[c]) (ent R ls.length c):=by
  have hx:=Fd.mul_inv x h.x0
  have ln:(ls++[c]).length=ls.length+1:=by simp
  refine ⟨by omega,λk hk=>?_,λk k' h1 h2=>?_,h0,λk hk i hi=>?_,λi a b j hj=>?_,λk hk j hj=>?_⟩
  · rcases Uj k ls.length with q | q
    · rw[Zby q]; have:=h.lt k q; omega
    · have:k=ls.length:=by omega
      subst this
      rw[ZbW]; omega
  · have q:k<ls.length:=by omega
    rw[Zby q]
    rcases Uj k' ls.length with q' | q'
    · rw[Zby q']; exact h.inc k k' h1 q'
    · have:k'=ls.length:=by omega
      subst this
      rw[ZbW]; exact h.lt k q
  · rw[e i hi]
    unfold Zkt
    rcases Uj k ls.length with q | q
    · rw[Zby q]
      have c1:=h.col k q ls.length hl
      rw[if_neg (by omega)] at c1
      have c2:=h.col k q i hi
      by_cases e1:i=ls.length
      · rw[if_pos e1,c1,if_neg (by omega)]
      · rw[if_neg e1,c1,c2]
        by_cases e2:i=k
        · rw[if_pos e2,if_pos e2]; grind
        · rw[if_neg e2,if_neg e2]; grind
    · have:k=ls.length:=by omega
      subst this
      rw[ZbW]
      by_cases e1:i=ls.length
      · rw[if_pos e1,if_pos e1]
      · rw[if_neg e1,if_neg e1]; grind
  · rw[e i b]
    unfold Zkt
    rw[if_neg (by omega)]
    by_cases e1:j=c
    · subst e1; grind
    · have z1:=h.low i (by omega) b j (by omega)
      have z2:=h.low ls.length (Q1 _) hl j (by omega)
      rw[z1,z2]; grind
  · rw[e k (by omega)]
    unfold Zkt
    rcases Uj k ls.length with q | q
    · rw[Zby q] at hj
      have:=h.lt k q
      have z1:=h.pre k q j hj
      have z2:=h.low ls.length (Q1 _) hl j (by omega)
      rw[if_neg (by omega),z1,z2]; grind
    · have:k=ls.length:=by omega
      subst this
      rw[ZbW] at hj
      rw[if_pos rfl]
      exact h.low ls.length (Q1 _) hl j hj
def dS:Nat->Nat | 0=>1 | 1=>3 | 2=>306 | 3=>1214 | _=>3636
def aS:Nat->Nat | 0=>300 | 1=>602 | 2=>1208 | 3=>2723 | _=>6661
def dL:Nat->Nat | 0=>1 | k+1=>dS k
def aL:Nat->Nat | 0=>1 | k+1=>aS k
theorem ZoG{k:Nat}(h:k<4):2*dS k+aL k<=dS (k+1)/\2*aS k+1+dL k<=aS (k+1)/\aS k+dS k+aL k<=aS (k+1)/\2*dS k<=3700/\aL k<=3700/\1<=aL k/\2*aS k+1<=900000/\dL k<=900000:=by
  match k,h with
  | 0,_=>decide
  | 1,_=>decide
  | 2,_=>decide
  | 3,_=>decide
def Stg(κ:KX)(R:List (List κ.F))(k:Nat)(x:κ.F):Prop:=κ = .q->∃D D':Int,0<D/\Bits (dS k) D/\AllR (QS κ D (aS k)) R/\0<D'/\Bits (dL k) D'/\QS κ D' (aL k) x
structure PivB (x:κ.F) (PQ PN:κ.F->Prop):Prop where
  ent:∀y,PQ y->B1s κ y
  neg:∀y,PQ y->B1s κ (0-y)
  mul:∀h y,PQ h->PQ y->B1s κ (h*y)
  nml:∀z e,PQ z->PQ e->B1s κ ((0-z)*e)
  sum:∀h y z e,PQ h->PQ y->PQ z->PQ e->B1s κ (h*y+(0-z)*e)
  inv:B1s κ (Fd.inv x)
  new:∀h y z e,PQ h->PQ y->PQ z->PQ e->PN (Fd.inv x*(h*y+(0-z)*e))
  keep:∀y,PQ y->PN y
theorem ZnY{p:Nat}{hp:PrN p}{x:(KX.r p hp).F}:B1s (.r p hp) x:=trivial
theorem Znv{R:List (List κ.F)}{k:Nat}{x:κ.F}(h:Stg κ R k x)(x0:x≠0)(hk:κ = .q->k<4):∃PQ PN:κ.F->Prop,AllR PQ R/\PivB x PQ PN/\∀R' y,AllR PN R'->PQ y->Stg κ R' (k+1) y:=by
  cases κ with
  | r p hp =>
    refine ⟨λ_=>True,λ_=>True,λ_ _ _ _=>trivial,⟨λ_ _=>ZnY,λ_ _=>ZnY,λ_ _ _ _=>ZnY,λ_ _ _ _=>ZnY,λ_ _ _ _ _ _ _ _=>ZnY,ZnY,λ_ _ _ _ _ _ _ _=>trivial,λ_ _=>trivial⟩,λR' y _ _ z=>nomatch z⟩
  | q =>
    obtain ⟨n1,n2,n3,n4,n5,n6,n7,n8⟩:=ZoG (hk rfl)
    obtain ⟨D,D',hD,bD,qR,hD',bD',qx⟩:=h rfl
    obtain ⟨L,hL,bL,qI⟩:=QS.inv hD' n6 qx bD' x0
    have hDD:0<D*D:=Qm hD hD
    have bDD:Bits (2*dS k) (D*D):=(bD.times bD).up (by omega)
    have bDD4:Bits 3700 (D*D):=bDD.up n4
    have qm:∀h y:Rat,QS .q D (aS k) h->QS .q D (aS k) y->QS .q (D*D) (2*aS k) (h*y):=λh y a b=>(QS.mul (κ:=.q) a b).mono (by omega)
    have qs:∀h y z e:Rat,QS .q D (aS k) h->QS .q D (aS k) y->QS .q D (aS k) z->QS .q D (aS k) e->QS .q (D*D) (2*aS k+1) (h*y+(0-z)*e):=λh y z e a b c d=>QS.add (κ:=.q) hDD (qm h y a b) (qm _ e (QS.neg (κ:=.q) c) d)
    refine ⟨QS .q D (aS k),QS .q (D*D*L) (aS (k+1)),qR,⟨λy a=>QS.b1s hD a (bD.up (by omega)) (by omega),λy a=>QS.b1s hD (QS.neg (κ:=.q) a) (bD.up (by omega)) (by omega),λh y a b=>QS.b1s hDD (qm h y a b) bDD4 (by omega),λz e a b=>QS.b1s hDD (qm _ e (QS.neg (κ:=.q) a) b) bDD4 (by omega),λh y z e a b c d=>QS.b1s hDD (qs h y z e a b c d) bDD4 (by omega),QS.b1s hL qI (bL.up n5) n8,λh y z e a b c d=>?_,λy a=>?_⟩,λR' y a b _=>?_⟩
    · have:=QS.mul (κ:=.q) qI (qs h y z e a b c d)
      rw[Qn L] at this
      exact this.mono (by omega)
    · have:=QS.up (κ:=.q) hD (Qm hD hL) a (bD.times bL)
      rw[<-Qi] at this
      exact this.mono (by omega)
    · exact ⟨D*D*L,D,Qm hDD hL,(bDD.times bL).up (by omega),a,hD,bD,b⟩
end
end My
namespace My
open PySem L2 PyProof.Rows
section
variable{κ:KX}
noncomputable def pwr(x:κ.F):Nat->κ.F
  | 0=>1
  | n+1=>pwr x n*x
theorem ZhG(a b:κ.F):∀n,pwr (a*b) n=pwr a n*pwr b n
  | 0=>by show (1:κ.F)=1*1; grind
  | n+1=>by
    show pwr (a*b) n*(a*b)=pwr a n*a*(pwr b n*b)
    rw[ZhG a b n]; grind
theorem ZhH:∀n,pwr (1:κ.F) n=1
  | 0=>rfl
  | n+1=>by
    show pwr (1:κ.F) n*1=1
    rw[ZhH n]; grind
noncomputable def scT:Tn κ->κ.F
  | .swap _ _=>1
  | .scale _ c=>c
  | .add _ _ _=>1
noncomputable def scF:List (Tn κ)->κ.F
  | []=>1
  | t::ts=>scT t*scF ts
theorem ZlQ(ts:List (Tn κ))(t:Tn κ):scF (ts++[t])=scT t*scF ts:=by
  induction ts with
  | nil=>rfl
  | cons u us ih =>
    show scT u*scF (us++[t])=scT t*(scT u*scF us)
    rw[ih]; grind
def swT:Tn κ->Nat
  | .swap _ _=>1
  | .scale _ _=>0
  | .add _ _ _=>0
def swN:List (Tn κ)->Nat
  | []=>0
  | t::ts=>swT t+swN ts
theorem ZlR(ts:List (Tn κ))(t:Tn κ):swN (ts++[t])=swN ts+swT t:=by
  induction ts with
  | nil=>show swT t+0=0+swT t; omega
  | cons u us ih =>
    show swT u+swN (us++[t])=swT u+swN us+swT t
    rw[ih]; omega
end
end My
namespace My
open PySem L2 PyProof.Rows
theorem ZoH{κ:KX}{H:Hp}{u v:V}{x y:κ.F}(hu:NR κ H u x)(hv:NR κ H v y):∃b,Zor H u v b/\(b=true↔x=y):=by
  cases κ with
  | q =>
    obtain ⟨a,rfl,ha⟩:=hu
    obtain ⟨c,rfl,hc⟩:=hv
    refine ⟨_,.inr ⟨a,c,_,_,_,_,rfl,rfl,ha,hc,rfl⟩,?_⟩
    rw[Bool.and_eq_true_iff,decide_eq_true_iff,decide_eq_true_iff]
    constructor
    · rintro ⟨e1,e2⟩
      exact Rat.ext e1 (by omega)
    · intro e
      have e:x=y:=e
      subst e
      exact ⟨rfl,rfl⟩
  | r p hp =>
    have hu:u = .int x.val:=hu
    have hv:v = .int y.val:=hv
    refine ⟨_,.inl ⟨_,_,hu,hv,rfl⟩,?_⟩
    rw[decide_eq_true_iff]
    constructor
    · intro e; exact Fin.ext (by omega)
    · intro e
      have e:x=y:=e
      subst e; rfl
def Tn.idle{κ:KX}:Tn κ->Prop
  | .swap _ _=>False
  | .scale _ c=>c=1
  | .add _ _ c=>c=0
theorem Zip{κ:KX}{m:Nat}{t:Tn κ}{R:List (List κ.F)}(wd:Wid m R)(ok:t.ok R.length)(h:t.idle):doT t R=R:=by
  cases t with
  | swap i j=>exact absurd h id
  | scale i c =>
    have h:c=1:=h
    subst h
    exact Zns wd (by have:=ok.1; omega) ok
  | add i j c =>
    have h:c=0:=h
    subst h
    exact Znt wd ok
section
variable{κ:KX}
theorem Zf6{g:List κ.F->List κ.F}(g0:g []=[])(R:List (List κ.F))(i:Nat):(R.map g).getD i []=g (R.getD i []):=by
  rw[Q4,Q4,Qh]
  cases R[i]? with
  | none=>exact g0.symm
  | some f=>rfl
theorem ZlS(pw:Nat)(t:Tn κ)(R:List (List κ.F)):(doT t R).map (List.take pw)=doT t (R.map (List.take pw)):=by
  have gd:=Zf6 (κ:=κ) (g:=List.take pw) List.take_nil R
  cases t with
  | swap i j =>
    show ((R.set i.toNat (R.getD j.toNat [])).set j.toNat (R.getD i.toNat [])).map (List.take pw)=((R.map (List.take pw)).set i.toNat ((R.map (List.take pw)).getD j.toNat [])).set j.toNat ((R.map (List.take pw)).getD i.toNat [])
    rw[Up,Up,gd,gd]
  | scale i c =>
    show (R.set i.toNat ((R.getD i.toNat []).map (c * ·))).map (List.take pw)=(R.map (List.take pw)).set i.toNat (((R.map (List.take pw)).getD i.toNat []).map (c * ·))
    rw[Up,gd,Us]
  | add i j c =>
    show (R.set i.toNat (List.zipWith (· + ·) (R.getD i.toNat []) ((R.getD j.toNat []).map (c * ·)))).map (List.take pw)=(R.map (List.take pw)).set i.toNat (List.zipWith (· + ·) ((R.map (List.take pw)).getD i.toNat []) (((R.map (List.take pw)).getD j.toNat []).map (c * ·)))
    rw[Up,gd,gd,List.take_zipWith,Us]
theorem Znw{g:List κ.F->List κ.F}(g0:g []=[])(hg:∀f x,x∈g f->x∈f){t:Tn κ}{R:List (List κ.F)}(h:t.preS R):t.preS (R.map g):=by
  have gd:=Zf6 (κ:=κ) g0 R
  cases t with
  | swap i j=>trivial
  | scale i c=>exact ⟨h.1,λx hx=>h.2 x (by rw[gd] at hx; exact hg _ x hx)⟩
  | add i j c=>exact ⟨h.1,λx hx=>h.2.1 x (by rw[gd] at hx; exact hg _ x hx),λx hx=>h.2.2 x (by rw[gd] at hx; exact hg _ x hx)⟩
theorem ZlT(pw:Nat){t:Tn κ}{R:List (List κ.F)}(h:t.preS R):t.preS (R.map (List.take pw)):=Znw List.take_nil (λ_ _ hx=>Wb hx) h
theorem Zf7{pw:Nat}{R:List (List κ.F)}{i j:Nat}(h:j<pw):ent (R.map (List.take pw)) i j=ent R i j:=by
  unfold ent
  rw[Zf6 List.take_nil]
  generalize R.getD i []=f
  rw[Q4,Q4,Wz,if_pos h]
theorem ZdB{pw m:Nat}{R:List (List κ.F)}(wd:Wid m R)(h:pw<=m):Wid pw (R.map (List.take pw)):=λf hf=>by
  obtain ⟨g,hg,rfl⟩:=W0.mp hf
  rw[Ql,wd g hg]; omega
end
structure Wk (κ:KX) (Z:List Addr) (R0:List (List κ.F)) (pw m:Nat) (r u:Addr) (H:Hp) (R:List (List κ.F)) (ts:List (Tn κ)):Prop where
  rows:∃as:List Addr,H r=some (.lst (as.map V.ref))/\RowsX κ H as (R.map (List.take pw))/\∀z∈Z,z∉as
  turns:∃tvs:List V,H u=some (.lst tvs)/\AllG (TR κ H) tvs ts
  run:R=Zgo ts R0
  ok:∀t∈ts,t.ok R0.length
  pre:∀(i:Nat) t,ts[i]?=some t->t.preS (Zgo (ts.take i) R0)
  wid:Wid m R0
  ne:r≠u
  m7:m<=1000
  l3:ts.length<=400
  zr:r∈Z
  zu:u∈Z
  za:∀z∈Z,∃o,H z=some o
  wm:pw<=m
section
variable{κ:KX}{Z:List Addr}{R0 R:List (List κ.F)}{pw m:Nat}{r u:Addr}{H:Hp}{ts:List (Tn κ)}
theorem Wk.len(h:Wk κ Z R0 pw m r u H R ts):R.length=R0.length:=by rw[h.run,ZlM]
theorem Wk.wd(h:Wk κ Z R0 pw m r u H R ts):Wid m R:=by rw[h.run]; exact ZlN h.wid h.ok
theorem Wk.same{H':Hp}(h:Wk κ Z R0 pw m r u H R ts)(S:Same H H'):Wk κ Z R0 pw m r u H' R ts:=by
  obtain ⟨as,h1,h2,h3⟩:=h.rows
  obtain ⟨tvs,g1,g2⟩:=h.turns
  exact ⟨⟨as,S _ _ h1,h2.same S,h3⟩,⟨tvs,S _ _ g1,g2.mono λ_ _ n=>n.same S⟩,h.run,h.ok,h.pre,h.wid,h.ne,h.m7,h.l3,h.zr,h.zu,λz hz=>let ⟨o,e⟩:=h.za z hz; ⟨o,S _ _ e⟩,h.wm⟩
theorem Wk.offL{H':Hp}{L:Addr}{ys zs:List V}(h:Wk κ Z R0 pw m r u H R ts)(zL:L∈Z)(n1:L≠r)(n2:L≠u)(hL:H L=some (.lst ys))(hL':H' L=some (.lst zs))(O:Off [L] H H'):Wk κ Z R0 pw m r u H' R ts:=by
  obtain ⟨as,h1,h2,h3⟩:=h.rows
  obtain ⟨tvs,g1,g2⟩:=h.turns
  refine ⟨⟨as,O _ _ (λz=>n1 (Q3.mp z).symm) h1,h2.off (h3 L zL) hL O,h3⟩,⟨tvs,O _ _ (λz=>n2 (Q3.mp z).symm) g1,g2.mono λ_ _ n=>n.off hL O⟩,h.run,h.ok,h.pre,h.wid,h.ne,h.m7,h.l3,h.zr,h.zu,λz hz=>?_,h.wm⟩
  by_cases e:z=L
  · subst e; exact ⟨_,hL'⟩
  · obtain ⟨o,q⟩:=h.za z hz
    exact ⟨o,O _ _ (λw=>e (Q3.mp w)) q⟩
theorem Wk.ent(h:Wk κ Z R0 pw m r u H R ts){i j:Nat}(hi:i<R0.length)(hj:j<pw):∃(as:List Addr) (a:Addr) (xs:List V) (v:V),H r=some (.lst (as.map V.ref))/\as.length=R0.length/\as[i]?=some a/\H a=some (.lst xs)/\xs[j]?=some v/\NR κ H v (My.ent R i j):=by
  obtain ⟨as,h1,h2,h3⟩:=h.rows
  obtain ⟨a,xs,v,e1,e2,e3,e4⟩:=h2.ent (ZdB h.wd h.wm) (by rw[Q0,h.len]; exact hi) hj
  rw[Zf7 hj] at e4
  exact ⟨as,a,xs,v,h1,by rw[h2.1,Q0,h.len],e1,e2,e3,e4⟩
theorem Wk.rl(h:Wk κ Z R0 pw m r u H R ts):∃as:List Addr,H r=some (.lst (as.map V.ref))/\as.length=R0.length:=by
  obtain ⟨as,h1,h2,h3⟩:=h.rows
  exact ⟨as,h1,by rw[h2.1,Q0,h.len]⟩
theorem Wk.ul(h:Wk κ Z R0 pw m r u H R ts):∃tvs:List V,H u=some (.lst tvs):=let ⟨tvs,g1,_⟩:=h.turns; ⟨tvs,g1⟩
end
theorem TR.off2{κ:KX}{H H':Hp}{r u:Addr}{ys zs:List V}{v:V}{x:Tn κ}(h:TR κ H v x)(hr:H r=some (.lst ys))(hu:H u=some (.lst zs))(O:Off [r,u] H H'):TR κ H' v x:=by
  have na:∀a ws,H a=some (.tup ws)->a∉[r,u]:=λa ws q m=>by
    rcases Q8.mp m with e | e
    · rw[e,hr] at q; cases q
    · rw[Q3.mp e,hu] at q; cases q
  have nn:∀w c,NR κ H w c->NR κ H' w c:=λw c n=>by
    cases κ with
    | q=>obtain ⟨a,e,n⟩:=n; exact ⟨a,e,O _ _ (na _ _ n) n⟩
    | r p hp=>exact n
  cases x with
  | swap i j=>obtain ⟨a,e,h⟩:=h; exact ⟨a,e,O _ _ (na _ _ h) h⟩
  | scale i c=>obtain ⟨a,w,e,h,n⟩:=h; exact ⟨a,w,e,O _ _ (na _ _ h) h,nn _ _ n⟩
  | add i j c=>obtain ⟨a,w,e,h,n⟩:=h; exact ⟨a,w,e,O _ _ (na _ _ h) h,nn _ _ n⟩
theorem NR.off2{κ:KX}{H H':Hp}{r u:Addr}{ys zs:List V}{v:V}{x:κ.F}(h:NR κ H v x)(hr:H r=some (.lst ys))(hu:H u=some (.lst zs))(O:Off [r,u] H H'):NR κ H' v x:=by
  cases κ with
  | q =>
    obtain ⟨a,e,n⟩:=h
    refine ⟨a,e,O _ _ (λm=>?_) n⟩
    rcases Q8.mp m with e | e
    · rw[e,hr] at n; cases n
    · rw[Q3.mp e,hu] at n; cases n
  | r p hp=>exact h
theorem KdX.off2{CF CR:Addr}{κ:KX}{H H':Hp}{s r u:Addr}{ys zs:List V}(h:KdX CF CR κ H s)(hr:H r=some (.lst ys))(hu:H u=some (.lst zs))(O:Off [r,u] H H'):KdX CF CR κ H' s:=by
  have key:∀C dx fs,H s=some (.ins C dx fs)->H' s=some (.ins C dx fs):=λC dx fs q=>O _ _ (λm=>by
    rcases Q8.mp m with e | e
    · rw[e,hr] at q; cases q
    · rw[Q3.mp e,hu] at q; cases q) q
  cases κ with
  | q=>obtain ⟨dx,h⟩:=h; exact ⟨dx,key _ _ _ h⟩
  | r p hp=>obtain ⟨dx,h⟩:=h; exact ⟨dx,key _ _ _ h⟩
inductive Zd2 (CF CR:Addr) (vs:List V) (H:Hp) (Q:VK) (zE:XK):Prop
  | mk (κ:KX) (s:Addr) (tv:V) (t:Tn κ) (_:vs=[.ref s,tv]) (_:KdX CF CR κ H s) (_:TR κ H tv t) (_:∀H' (b:Bool),Same H H'->(b=true↔t.idle)->Q (.bl b) H'):Zd2 CF CR vs H Q zE
inductive Ze0 (CF CR:Addr) (vs:List V) (H:Hp) (Q:VK) (zE:XK):Prop
  | mk (κ:KX) (s r u:Addr) (Z:List Addr) (R0:List (List κ.F)) (pw m:Nat) (R:List (List κ.F)) (ts:List (Tn κ)) (tv:V) (t:Tn κ) (_:vs=[.ref s,.ref r,.ref u,tv]) (_:KdX CF CR κ H s) (_:Wk κ Z R0 pw m r u H R ts) (_:ts.length<400) (_:TR κ H tv t) (_:t.ok R0.length) (_:t.preS R) (_:∀H' ts',Off [r,u] H H'->Wk κ Z R0 pw m r u H' (doT t R) ts'->ts'.length<=ts.length+1->scF ts'=scT t*scF ts->Q .non H'):Ze0 CF CR vs H Q zE
def Znx(κ:KX)(f:List κ.F)(A:Int):Prop:=match κ with
  | .q=>0<A/\(∀x∈f,((Rat.den x:Nat):Int) ∣ A)/\∀B:Int,(∀x∈f,((Rat.den x:Nat):Int) ∣ B)->A ∣ B
  | .r _ _=>A=1
def DvB(κ:KX)(B:Int)(x:κ.F):Prop:=match κ with
  | .q=>((Rat.den x:Nat):Int) ∣ B
  | .r _ _=>True
def ZhI(P:Program)(w:World)(K:PySem.W.Frag)(mg:Str->Option Value)(base:Heap)(CF CR:Addr):Prop :=
  ∀(κ:KX) (H:Hp) (s:Addr),KdX CF CR κ H s->∃C dx fs ps dvs sp,H s=some (.ins C dx fs)/\Cls K C/\HasM P w K mg base C "common_bottom" 2 ps dvs sp/\fs.lookup ("common_bottom" : Str)=none/\dvs=[] ∧
    ∀(r:Addr) (xs:List V) (f:List κ.F) (B:Int) (Q:VK),H r=some (.lst xs)->AllG (NR κ H) xs f->0<B->Bits 4000 B->(∀x∈f,DvB κ B x)->(∀A:Int,Znx κ f A->Q (.int A) H)->sp [.ref s,.ref r] H Q E0
inductive Zbq (K:PySem.W.Frag) (vs:List V) (H:Hp) (Q:VK) (zE:XK):Prop
  | mk (s r:Addr) (xs:List V) (f:List Rat) (B:Int) (_:vs=[.ref s,.ref r]) (_:H r=some (.lst xs)) (_:AllG (NR .q H) xs f) (_:0<B) (_:Bits 4000 B) (_:(∀x∈f,((Rat.den x:Nat):Int) ∣ B)) (_:∀A:Int,Znx .q f A->Q (.int A) H):Zbq K vs H Q zE
inductive Zd3 (vs:List V) (H:Hp) (Q:VK) (zE:XK):Prop
  | mk (s r:Addr) (_:vs=[.ref s,.ref r]) (_:Q (.int 1) H):Zd3 vs H Q zE
inductive ZbP (CF CR:Addr) (vs:List V) (H:Hp) (Q:VK) (zE:XK):Prop
  | mk (κ:KX) (s r u:Addr) (Z:List Addr) (R0:List (List κ.F)) (pw m:Nat) (R:List (List κ.F)) (ts:List (Tn κ)) (l c:Nat) (_:vs=[.ref s,.ref r,.int (l:Int),.int (c:Int)]) (_:KdX CF CR κ H s) (_:Wk κ Z R0 pw m r u H R ts) (_:c<pw) (_:l<=R0.length) (_:R0.length<=1000) (_:∀f:Nat,l<=f->f<=R0.length->(f<R0.length->ent R f c≠0)->(∀i,l<=i->i<f->ent R i c=0)->Q (.int (f:Int)) H):ZbP CF CR vs H Q zE
theorem ZlU{b d:Int}(hb:0<b)(hd:0<d):0<b.fdiv (Int.gcd b d)*d/\b ∣ b.fdiv (Int.gcd b d)*d/\d ∣ b.fdiv (Int.gcd b d)*d/\∀B:Int,b ∣ B->d ∣ B->b.fdiv (Int.gcd b d)*d ∣ B:=by
  have hg:(Int.gcd b d:Int)≠0:=by have:=M3.gcd_ne (a:=b) (b:=d) (by omega); omega
  have gp:0<(Int.gcd b d:Int):=by omega
  obtain ⟨q,hq⟩:=Wi b d
  obtain ⟨e,he⟩:=Qy b d
  have eb:b.fdiv (Int.gcd b d)=q:=by
    rw[Ux _ (by omega)]
    conv=>lhs; lhs; rw[hq]
    exact Int.mul_ediv_cancel_left q hg
  have hq0:0<q:=by
    rcases Int.lt_or_le 0 q with c | c
    · exact c
    · have:(Int.gcd b d:Int)*q<=0:=Int.mul_nonpos_of_nonneg_of_nonpos (by omega) c
      omega
  rw[eb]
  have eq:q*d=b*e:=by
    calc q*d=q*((Int.gcd b d:Int)*e):=by rw[<-he]
      _=(Int.gcd b d:Int)*q*e:=by rw[<-Qi,Qn q]
      _=b*e:=by rw[<-hq]
  have cop:Int.gcd q e=1:=by
    have h1:=Int.gcd_mul_left (Int.gcd b d:Int) q e
    rw[<-hq,<-he,Wa] at h1
    have h2:0<Int.gcd b d:=by omega
    have h3:Int.gcd b d*1=Int.gcd b d*Int.gcd q e:=by rw[Nat.mul_one]; exact h1
    exact (Nat.eq_of_mul_eq_mul_left h2 h3).symm
  refine ⟨Qm hq0 hd,⟨e,eq⟩,⟨q,Qn _ _⟩,?_⟩
  rintro B ⟨s,hs⟩ ⟨t,ht⟩
  have h5:q*s=e*t:=by
    have:(Int.gcd b d:Int)*(q*s)=(Int.gcd b d:Int)*(e*t):=by
      rw[<-Qi,<-Qi,<-hq,<-he,<-hs,<-ht]
    exact Int.eq_of_mul_eq_mul_left hg this
  have h6:q ∣ t:=Zhz (b:=e) ⟨s,h5.symm⟩ cop
  obtain ⟨z,hz⟩:=h6
  exact ⟨z,by rw[ht,hz,<-Qi,Qn d q]⟩
end My
namespace My
open PySem L2 PyProof.Rows
section
variable{P:Program}{w:World}{K:PySem.W.Frag}{mg:Str->Option Value}{base:Heap}{CF CR:Addr}
theorem Zf8:FnScope ["kind", "number", "row"] ["kind", "number", "row"] (Zah Zcw):=⟨rfl,rfl,rfl,by decide +kernel,rfl,by decide +kernel,by decide +kernel⟩
theorem Zfl(h:Here K mg "scaled_row" Zcw) (mt:ZhA P w K mg base CF CR "times" (λ_ x y=>x*y)):Has P w K mg base "scaled_row" 3 ["kind", "number", "row"] (Zbs CF CR):=by
  refine h.has (λf fd F=>F.binds λ_ _ _ _ _ _ us hl=>by obtain ⟨_,_,_,rfl⟩:=Zei hl; exact rfl) λf fd F=>F.ok Zf8 (λvs H Q E h=>?_) (λcdv A outer s H vs Q E hr h=>?_)
  · obtain ⟨_,_,_,_,_,_,_,rfl,_⟩:=h
    rfl
  obtain ⟨κ,sk,r,cv,c,xs,f,rfl,hk,hc,hr',al,bc,bf,lf,k⟩:=h
  refine ⟨_,(Zaf (Zam (ZbL ["each"] [(0, "kind"),(1, "number")] rfl (Zbi (pv 2)) (by exact λ_ _ _ _=>(Zat (i:=0) (show (["each", "kind", "number"]:List Str).Nodup by decide +kernel) rfl (Or.inl rfl))) (by exact λ_ _ _ _=>(Zdv ⟨rfl,rfl,rfl,rfl,rfl⟩ (pv 1) hr (Zaa (pv 2) (Zaa (pv 0) Zad)))) ⟨⟨rfl,rfl,Or.inl rfl⟩,⟨⟨rfl,rfl,Or.inl rfl⟩,trivial⟩⟩))),?_⟩
  refine ⟨_,rfl,r,rfl,⟨_,SqL.of hr'⟩,?_⟩
  have l:=al.1
  refine Zbx (K:=K) (a:=r) (xs:=xs) (λi ys H2=>Same H H2/\AllG (NR κ H2) ys ((f.take i).map (c * ·))) (by omega) ⟨Same.refl H,.nil⟩ (λi ys H2 _ q=>SqL.of (q.1 _ _ hr')) ?_ ?_
  · rintro i x ys H2 hx hl ⟨S,e⟩
    obtain ⟨y,hy,ny⟩:=al.get hx
    obtain ⟨C,dx,fs,ps,dvs,sp,h1,h2,h3,h4,rfl,h5⟩:=mt κ H2 sk (hk.same S)
    refine ⟨_,rfl,sk,C,dx,fs,ps,_,sp,rfl,h1,h2,h3,h4,_,rfl,_,rfl,h5 _ _ _ c y _ (Same.refl _) (hc.same S) (ny.same S) bc (bf y (Q9 hy)) λt H3 S3 nt=>?_⟩
    refine ⟨S.trans S3,?_⟩
    rw[W7,hy,Qr]
    exact (e.mono λ_ _ n=>n.same S3).append (.one nt)
  · rintro ys H2 hl ⟨S,e⟩ D hD
    rw[l,U4] at e
    exact k _ D ys (S.trans (Zag hD _)) (S.free hD) Zae (e.mono λ_ _ n=>n.same (Zag hD _))
end
section
variable{P:Program}{w:World}{K:PySem.W.Frag}{mg:Str->Option Value}{base:Heap}{CF CR:Addr}
theorem ZhJ:FnScope ["kind", "row", "other"] ["kind", "row", "other"] (Zah ZdN):=⟨rfl,rfl,rfl,by decide +kernel,rfl,by decide +kernel,by decide +kernel⟩
theorem ZgX(h:Here K mg "plus_row" ZdN) (Tz:mg "zip" = none) (mp:ZhA P w K mg base CF CR "plus" (λ_ x y=>x+y)):Has P w K mg base "plus_row" 3 ["kind", "row", "other"] (ZcC CF CR):=by
  refine h.has (λf fd F=>F.binds λ_ _ _ _ _ _ us hl=>by obtain ⟨_,_,_,rfl⟩:=Zei hl; exact rfl) λf fd F=>F.ok ZhJ (λvs H Q E h=>?_) (λcdv A outer s H vs Q E hr h=>?_)
  · obtain ⟨_,_,_,_,_,_,_,_,rfl,_⟩:=h
    rfl
  obtain ⟨κ,sk,r1,r2,xs,ys,f,g,rfl,hk,h1,h2,a1,a2,b1,b2,lf,k⟩:=h
  refine ⟨_,(Zaf (Zam (ZbL ["left", "right"] [(0, "kind")] rfl (Zfv (by rfl) Tz (Zaa (pv 1) (Zaa (pv 2) Zad))) (by exact λ_ _ _ _=>(ZfJ (n:=2) K rfl rfl (ZaX (Zat (i:=0) (show (["left", "right", "kind"]:List Str).Nodup by decide +kernel) rfl (Or.inl rfl)) (ZaX (Zat (i:=1) (show (["left", "right", "kind"]:List Str).Nodup by decide +kernel) rfl (Or.inl rfl)) Zc4)))) (by exact λ_ _ _ _=>(Zdv ⟨rfl,rfl,rfl,rfl,rfl⟩ (pv 2) hr (Zaa (pv 0) (Zaa (pv 1) Zad)))) ⟨⟨rfl,rfl,Or.inl rfl⟩,trivial⟩))),?_⟩
  refine ⟨_,rfl,_,rfl,r1,r2,rfl,⟨_,SqL.of h1⟩,⟨_,SqL.of h2⟩,?_⟩
  have l1:=a1.1
  have l2:=a2.1
  refine ZeG (K:=K) (a:=r1) (b:=r2) (xs:=xs) (ys:=ys) (λi zs H2=>Same H H2/\AllG (NR κ H2) zs (List.zipWith (· + ·) (f.take i) (g.take i))) (by omega) ⟨Same.refl H,.nil⟩ (λi zs H2 q=>⟨SqL.of (q.1 _ _ h1),SqL.of (q.1 _ _ h2)⟩) ?_ ?_
  · rintro i x y T zs H2 hx hy hl nT ⟨S,e⟩
    obtain ⟨p,q,hp,hq,np,nq⟩:=a1.zip a2 hx hy
    have ST:=Zag nT (.tup [x,y])
    generalize upd H2 T (.tup [x,y])=H3 at *
    have S3:=S.trans ST
    obtain ⟨C,dx,fs,ps,dvs,sp,c1,c2,c3,c4,rfl,c5⟩:=mp κ H3 sk (hk.same S3)
    refine ⟨_,rfl,sk,C,dx,fs,ps,_,sp,rfl,c1,c2,c3,c4,_,rfl,_,rfl,c5 _ _ _ p q _ (Same.refl _) (np.same S3) (nq.same S3) (b1 p (Q9 hp)) (b2 q (Q9 hq)) λt H4 S4 nt=>?_⟩
    refine ⟨S3.trans S4,?_⟩
    rw[W7,hp,W7,hq]
    have lp:=(Qf.mp hp).1
    have lq:=(Qf.mp hq).1
    rw[show (some p).toList=[p] from rfl,show (some q).toList=[q] from rfl,List.zipWith_append (by rw[Ql,Ql]; omega)]
    exact (e.mono λ_ _ n=>n.same (ST.trans S4)).append (.one nt)
  · rintro zs H2 hl ⟨S,e⟩ D hD
    have ez:List.zipWith (· + ·) (f.take (min xs.length ys.length)) (g.take (min xs.length ys.length))=List.zipWith (· + ·) f g:=by
      rw[<-List.take_zipWith,Wt]
      rw[List.length_zipWith]
      omega
    rw[ez] at e
    exact k _ D zs (S.trans (Zag hD _)) (S.free hD) Zae (e.mono λ_ _ n=>n.same (Zag hD _))
end
section
variable{P:Program}{w:World}{K:PySem.W.Frag}{mg:Str->Option Value}{base:Heap}{CF CR:Addr}
theorem ZhK(kd:Kd K mg CF CR)(hF:HasM P w K mg base CF "is_nought" 2 ["self", "one"] [] (ZdY K CF)) (hR:HasM P w K mg base CR "is_nought" 2 ["self", "one"] [] ZdZ):Zkj P w K mg base CF CR:=by
  intro κ H s hk
  cases κ with
  | q =>
    obtain ⟨dx,h⟩:=hk
    refine ⟨CF,dx,[],_,_,_,h,kd.clF,hF,rfl,rfl,λu x Q hu k=>?_⟩
    obtain ⟨a,rfl,hu⟩:=hu
    refine ⟨s,a,_,_,rfl,SqT.of hu,k _ ?_⟩
    rw[decide_eq_true_iff]
    exact Rat.num_eq_zero
  | r p hp =>
    obtain ⟨dx,h⟩:=hk
    refine ⟨CR,dx,fsR p,_,_,_,h,kd.clR,hR,Zc3 _ (by decide),rfl,λu x Q hu k=>?_⟩
    have hu:u = .int x.val:=hu
    subst hu
    refine ⟨s,_,rfl,k _ ?_⟩
    rw[decide_eq_true_iff]
    letI:=hp.nz
    have z:(0:Fin p).val=0:=by simp
    constructor
    · intro e
      exact Fin.ext (by rw[z]; omega)
    · intro e
      have e:x=(0:Fin p):=e
      rw[e,z]; rfl
end
section
variable{P:Program}{w:World}{K:PySem.W.Frag}{mg:Str->Option Value}{base:Heap}{CF CR cT:Addr}
theorem sc_make_turn:FnScope ["kind", "rows", "turn", "place", "kept"] ["kind", "rows", "turn"] (Zah Zdb):=⟨rfl,rfl,rfl,by decide +kernel,rfl,by decide +kernel,by decide +kernel⟩
theorem ZgY(h:Here K mg "make_turn" Zdb) (h_scaled_row:Has P w K mg base "scaled_row" 3 ["kind", "number", "row"] (Zbs CF CR)) (h_plus_row:Has P w K mg base "plus_row" 3 ["kind", "row", "other"] (ZcC CF CR)):Has P w K mg base "make_turn" 4 ["kind", "rows", "turn"] (ZcD CF CR):=by
  refine h.has (λf fd F=>F.binds λ_ _ _ _ _ _ us hl=>by obtain ⟨_,_,_,rfl⟩:=Zei hl; exact rfl) λf fd F=>F.ok sc_make_turn (λvs H Q E h=>?_) (λcdv A outer s H vs Q E hr h=>?_)
  · obtain ⟨_,_,_,_,_,_,_,rfl,_⟩:=h
    rfl
  obtain ⟨κ,sk,r,as,R,tv,t,rfl,hk,hR,rx,nr,l1000,ht,ok,pre,k⟩:=h
  have nd:=sc_make_turn.nd
  refine ⟨_,(Zab (Zaj (i:=3) nd rfl (Or.inl rfl) (Zak Zal (pv 2) Zac (λ_ _=>rfl)))
    (Zaf (ZaF (Zaq Za8 (Zak Zal (pv 2) Zac (λ_ _=>rfl)) ZaW (Zar _)) (Zab (Zaj (i:=4) nd rfl (Or.inl rfl) (Zak Zau (pv 1) (pv 3) (λ_ _=>rfl)))
      (Zab (Zcq (Zak Zau (pv 1) (Zak Zal (pv 2) Zac (λ_ _=>rfl)) (λ_ _=>rfl)) (Zcp (pv 1) (pv 3) Zba))
      (Zaf (Zcq (pv 4) (Zcp (pv 1) (Zak Zal (pv 2) Zac (λ_ _=>rfl)) Zba))))) (Zaf (ZaF (Zaq Za8 (Zak Zal (pv 2) Zac (λ_ _=>rfl)) ZaW (Zar _)) (Zaf (Zcq (Zao h_scaled_row hr (by rfl) (Zaa (pv 0) (Zaa (Zak Zal (pv 2) Zac (λ_ _=>rfl)) (Zaa (Zak Zau (pv 1) (pv 3) (λ_ _=>rfl)) Zad)))) (Zcp (pv 1) (pv 3) Zba))) (Zaf (Zcq (Zao h_plus_row hr (by rfl) (Zaa (pv 0) (Zaa (Zak Zau (pv 1) (pv 3) (λ_ _=>rfl)) (Zaa (Zao h_scaled_row hr (by rfl) (Zaa (pv 0) (Zaa (Zak Zal (pv 2) Zac (λ_ _=>rfl)) (Zaa (Zak Zau (pv 1) (Zak Zal (pv 2) Zac (λ_ _=>rfl)) (λ_ _=>rfl)) Zad)))) Zad)))) (Zcp (pv 1) (pv 3) Zba)))))))),?_⟩
  have la:=rx.1
  have lm:(as.map V.ref).length=R.length:=by rw[Q0]; exact la
  cases t with
  | swap i j =>
    obtain ⟨a,rfl,ha⟩:=ht
    obtain ⟨⟨i0,i1⟩,⟨j0,j1⟩,ne⟩:=ok
    obtain ⟨b,xs,hb,hx,al⟩:=rx.get (i:=i.toNat) (by omega)
    obtain ⟨c,ys,hc,hy,bl⟩:=rx.get (i:=j.toNat) (by omega)
    refine ⟨_,rfl,a,_,1,_,rfl,rfl,SqT.of ha,rfl,?_⟩
    refine ⟨_,rfl,a,_,0,_,rfl,rfl,SqT.of ha,rfl,rfl,_,rfl,Zbg rfl ?_⟩
    refine ⟨_,rfl,_,rfl,r,_,_,_,rfl,rfl,SqL.of hR,Zb3 i0 hb,?_⟩
    refine ⟨_,rfl,_,rfl,a,_,2,_,rfl,rfl,SqT.of ha,rfl,r,_,_,_,rfl,rfl,SqL.of hR,Zb3 j0 hc,?_⟩
    refine ⟨_,rfl,_,rfl,r,_,_,_,rfl,rfl,hR,Zbp i0 (by rw[lm]; exact i1),?_⟩
    rw[Za1]
    have nra:a≠r:=λz=>by rw[z,hR] at ha; cases ha
    refine ⟨_,rfl,_,rfl,_,rfl,a,_,2,_,rfl,rfl,SqT.of (by rw[Zap nra]; exact ha),rfl,r,_,_,_,rfl,rfl,Zae,Zbp j0 (by rw[Q0,We,la]; exact j1),?_⟩
    rw[Za1]
    have O:Off [r] H (upd (upd H r (.lst ((as.set i.toNat c).map V.ref))) r (.lst (((as.set i.toNat c).set j.toNat b).map V.ref))):=λx o n q=>by
      have nx:x≠r:=λz=>n (by rw[z]; exact Q3.mpr rfl)
      rw[Zap nx,Zap nx]; exact q
    have rx':=rx.off nr hR O
    obtain ⟨xs',hx',al'⟩:=rx'.2 i.toNat b _ hb (Q5 (by omega))
    obtain ⟨ys',hy',bl'⟩:=rx'.2 j.toNat c _ hc (Q5 (by omega))
    refine k _ ((as.set i.toNat c).set j.toNat b) O Zae ?_ (λm=>nr (Zin hb hc m)) (λndp=>Zi5 ndp hb hc) (λx m => .inl (Zin hb hc m))
    show RowsX κ _ _ ((R.set i.toNat (R.getD j.toNat [])).set j.toNat (R.getD i.toNat []))
    rw[Zaw (Q5 (show j.toNat<R.length by omega)),Zaw (Q5 (show i.toNat<R.length by omega))]
    exact (rx'.set _ hy' bl').set _ hx' al'
  | scale i c =>
    obtain ⟨a,u,rfl,ha,nu⟩:=ht
    obtain ⟨⟨i0,i1⟩,_⟩:=ok
    obtain ⟨b,xs,hb,hx,al⟩:=rx.get (i:=i.toNat) (by omega)
    have eg:=Zaw (Q5 (show i.toNat<R.length by omega))
    obtain ⟨bc,bx⟩:=pre
    rw[eg] at bx
    refine ⟨_,rfl,a,_,1,_,rfl,rfl,SqT.of ha,rfl,?_⟩
    refine ⟨_,rfl,a,_,0,_,rfl,rfl,SqT.of ha,rfl,rfl,_,rfl,Zbh s21 ?_⟩
    refine ⟨_,rfl,a,_,0,_,rfl,rfl,SqT.of ha,rfl,rfl,_,rfl,Zbg rfl ?_⟩
    refine ⟨_,rfl,_,rfl,a,_,2,_,rfl,rfl,SqT.of ha,rfl,_,rfl,_,rfl,r,_,_,_,rfl,rfl,SqL.of hR,Zb3 i0 hb,κ,sk,b,u,c,xs,_,rfl,hk,nu,hx,al,bc,bx,l1000 _ (Qp (by omega)),λH1 D ys S1 nD hD bl=>?_⟩
    refine ⟨_,rfl,_,rfl,r,_,_,_,rfl,rfl,S1 _ _ hR,Zbp i0 (by rw[lm]; exact i1),?_⟩
    rw[Za1]
    have O:Off [r] H (upd H1 r (.lst ((as.set i.toNat D).map V.ref))):=Zay S1
    have O1:Off [r] H1 (upd H1 r (.lst ((as.set i.toNat D).map V.ref))):=Zay (Same.refl H1)
    have nDr:D≠r:=λz=>by rw[z,hR] at nD; cases nD
    have nDa:D∉as:=λm=>by
      obtain ⟨n,hn,e⟩:=Wy m
      obtain ⟨zs,hz,_⟩:=rx.2 n D _ (by rw[<-e]; exact Q5 hn) (Q5 (show n<R.length by omega))
      rw[hz] at nD; cases nD
    refine k _ (as.set i.toNat D) O Zae ?_ (λm=>?_) (λndp=>ZgU ndp nDa) (λx m=>?_)
    · show RowsX κ _ _ (R.set i.toNat ((R.getD i.toNat []).map (c * ·)))
      rw[eg]
      exact (rx.off nr hR O).set _ (by rw[Zap nDr]; exact hD) (bl.mono λ_ _ n=>n.off (S1 _ _ hR) O1)
    · rcases W6 m with m | z
      · exact nr m
      · exact nDr z.symm
    · rcases W6 m with m | rfl
      · exact .inl m
      · exact .inr nD
  | add i j c =>
    obtain ⟨a,u,rfl,ha,nu⟩:=ht
    obtain ⟨⟨i0,i1⟩,⟨j0,j1⟩,_⟩:=ok
    obtain ⟨b,xs,hb,hx,al⟩:=rx.get (i:=i.toNat) (by omega)
    obtain ⟨e,zs,he,hz,el⟩:=rx.get (i:=j.toNat) (by omega)
    have eg:=Zaw (Q5 (show i.toNat<R.length by omega))
    have eh:=Zaw (Q5 (show j.toNat<R.length by omega))
    obtain ⟨bc,bx,by'⟩:=pre
    rw[eg] at bx
    rw[eh] at by'
    refine ⟨_,rfl,a,_,1,_,rfl,rfl,SqT.of ha,rfl,?_⟩
    refine ⟨_,rfl,a,_,0,_,rfl,rfl,SqT.of ha,rfl,rfl,_,rfl,Zbh s31 ?_⟩
    refine ⟨_,rfl,a,_,0,_,rfl,rfl,SqT.of ha,rfl,rfl,_,rfl,Zbh s32 ?_⟩
    refine ⟨_,rfl,_,rfl,_,rfl,r,_,_,_,rfl,rfl,SqL.of hR,Zb3 i0 hb,_,rfl,_,rfl,a,_,3,_,rfl,rfl,SqT.of ha,rfl,_,rfl,_,rfl,a,_,2,_,rfl,rfl,SqT.of ha,rfl,r,_,_,_,rfl,rfl,SqL.of hR,Zb3 j0 he,κ,sk,e,u,c,zs,_,rfl,hk,nu,hz,el,bc,λy hy=>(by' y hy).1,l1000 _ (Qp (by omega)),λH1 D1 ws S1 nD1 hD1 wl=>?_⟩
    refine ⟨κ,sk,b,D1,xs,ws,_,_,rfl,hk.same S1,S1 _ _ hx,hD1,al.mono λ_ _ n=>n.same S1,wl,bx,λy hy=>?_,l1000 _ (Qp (by omega)),λH2 D ys S2 nD hD bl=>?_⟩
    · obtain ⟨z,hz',rfl⟩:=W0.mp hy
      exact (by' z hz').2
    have S12:=S1.trans S2
    refine ⟨_,rfl,_,rfl,r,_,_,_,rfl,rfl,S12 _ _ hR,Zbp i0 (by rw[lm]; exact i1),?_⟩
    rw[Za1]
    have O:Off [r] H (upd H2 r (.lst ((as.set i.toNat D).map V.ref))):=Zay S12
    have O1:Off [r] H2 (upd H2 r (.lst ((as.set i.toNat D).map V.ref))):=Zay (Same.refl H2)
    have nD0:H D=none:=S1.free nD
    have nDr:D≠r:=λz=>by rw[z,hR] at nD0; cases nD0
    have nDa:D∉as:=λm=>by
      obtain ⟨n,hn,e⟩:=Wy m
      obtain ⟨zs,hz,_⟩:=rx.2 n D _ (by rw[<-e]; exact Q5 hn) (Q5 (show n<R.length by omega))
      rw[hz] at nD0; cases nD0
    refine k _ (as.set i.toNat D) O Zae ?_ (λm=>?_) (λndp=>ZgU ndp nDa) (λx m=>?_)
    · show RowsX κ _ _ (R.set i.toNat (List.zipWith (· + ·) (R.getD i.toNat []) ((R.getD j.toNat []).map (c * ·))))
      rw[eg,eh]
      exact (rx.off nr hR O).set _ (by rw[Zap nDr]; exact hD) (bl.mono λ_ _ n=>n.off (S12 _ _ hR) O1)
    · rcases W6 m with m | z
      · exact nr m
      · exact nDr z.symm
    · rcases W6 m with m | rfl
      · exact .inl m
      · exact .inr nD0
end
end My
namespace My
open PySem L2 PyProof.Rows
theorem ZlV{κ:KX}{t:Tn κ}{ts:List (Tn κ)}(h:t.idle):scF ts=scT t*scF ts:=by
  cases t with
  | swap i j=>exact absurd h id
  | scale i c =>
    have h:c=1:=h
    show _=c*_
    rw[h]; grind
  | add i j c=>show _=1*_; grind
section
variable{P:Program}{w:World}{K:PySem.W.Frag}{mg:Str->Option Value}{base:Heap}{CF CR:Addr}
theorem Zi7:FnScope ["kind", "turn"] ["kind", "turn"] (Zah ZeJ):=⟨rfl,rfl,rfl,by decide +kernel,rfl,by decide +kernel,by decide +kernel⟩
theorem Zi8(h:Here K mg "is_idle" ZeJ) (mn:ZbO P w K mg base CF CR) (nt:Zkj P w K mg base CF CR):Has P w K mg base "is_idle" 4 ["kind", "turn"] (Zd2 CF CR):=by
  refine h.has (λf fd F=>F.binds λ_ _ _ _ _ _ us hl=>by obtain ⟨_,_,rfl⟩:=Zed hl; exact rfl) λf fd F=>F.ok Zi7 (λvs H Q E h=>?_) (λcdv A outer s H vs Q E hr h=>?_)
  · obtain ⟨_,_,_,_,rfl,_⟩:=h
    rfl
  obtain ⟨κ,sk,tv,t,rfl,hk,ht,k⟩:=h
  refine ⟨_,(Zab (ZaF (Zaq Za8 (Zak Zal (pv 1) Zac (λ_ _=>rfl)) ZaW (Zar _)) (Zaf (Zam (Zbz (Zmr hr) (Zak Zal (pv 1) Zac (λ_ _=>rfl)) (ZaH (pv 0) ZcY hr (Zaa Zac Zad)) (Zar _)))) Zav)
    (Zaf (Zam (Zfp (Zbz Za8 (Zak Zal (pv 1) Zac (λ_ _=>rfl)) ZaW (Zar _)) (Zgs (ZaK (pv 0) hr (Zaa (Zak Zal (pv 1) Zac (λ_ _=>rfl)) Zad))))))),?_⟩
  cases t with
  | scale i c =>
    obtain ⟨a,u,rfl,ha,nu⟩:=ht
    obtain ⟨C,dx,fs,ps,dvs,sp,c1,c2,c3,c4,rfl,c5⟩:=mn κ H sk hk
    refine ⟨_,rfl,a,_,0,_,rfl,rfl,SqT.of ha,rfl,rfl,_,rfl,Zbg rfl ?_⟩
    refine ⟨_,rfl,a,_,2,_,rfl,rfl,SqT.of ha,rfl,_,rfl,sk,C,dx,fs,ps,_,sp,rfl,c1,c2,c3,c4,c5 H 1 1 _ _ (Same.refl H) ZcZ λv H1 S1 nv=>?_⟩
    obtain ⟨b,hb,eb⟩:=ZoH (nu.same S1) nv
    exact ⟨b,hb,k H1 b S1 eb⟩
  | swap i j =>
    obtain ⟨a,rfl,ha⟩:=ht
    refine ⟨_,rfl,a,_,0,_,rfl,rfl,SqT.of ha,rfl,rfl,_,rfl,Zbh s12 ?_⟩
    refine ⟨_,rfl,a,_,0,_,rfl,rfl,SqT.of ha,rfl,rfl,_,rfl,Zbh s13 ?_⟩
    exact k H _ (Same.refl H) ⟨λz=>(nomatch z),λz=>absurd z id⟩
  | add i j c =>
    obtain ⟨a,u,rfl,ha,nu⟩:=ht
    obtain ⟨C,dx,fs,ps,dvs,sp,c1,c2,c3,c4,rfl,c5⟩:=nt κ H sk hk
    refine ⟨_,rfl,a,_,0,_,rfl,rfl,SqT.of ha,rfl,rfl,_,rfl,Zbh s32 ?_⟩
    refine ⟨_,rfl,a,_,0,_,rfl,rfl,SqT.of ha,rfl,rfl,_,rfl,Zbg rfl ?_⟩
    exact ⟨_,rfl,sk,C,dx,fs,ps,_,sp,rfl,c1,c2,c3.mono (by decide),c4,_,rfl,a,_,3,_,rfl,rfl,SqT.of ha,rfl,c5 u c _ nu λb hb=>k H b (Same.refl H) hb⟩
theorem Zny:FnScope ["kind", "rows", "turns", "turn"] ["kind", "rows", "turns", "turn"] (Zah Zj8):=⟨rfl,rfl,rfl,by decide +kernel,rfl,by decide +kernel,by decide +kernel⟩
theorem Znz(h:Here K mg "take" Zj8) (h_is_idle:Has P w K mg base "is_idle" 4 ["kind", "turn"] (Zd2 CF CR)) (h_make_turn:Has P w K mg base "make_turn" 4 ["kind", "rows", "turn"] (ZcD CF CR)):Has P w K mg base "take" 5 ["kind", "rows", "turns", "turn"] (Ze0 CF CR):=by
  refine h.has (λf fd F=>F.binds λ_ _ _ _ _ _ us hl=>by obtain ⟨_,_,_,_,rfl⟩:=Zom hl; exact rfl) λf fd F=>F.ok Zny (λvs H Q E h=>?_) (λcdv A outer s H vs Q E hr h=>?_)
  · obtain ⟨_,_,_,_,_,_,_,_,_,_,_,_,rfl,_⟩:=h
    rfl
  obtain ⟨κ,sk,r,u,Z,R0,pw,m,R,ts,tv,t,rfl,hk,wk,l4,ht,ok,pre,k⟩:=h
  refine ⟨_,(Zaf (ZaF (Zdr (Zdq (Zao h_is_idle hr (by rfl) (Zaa (pv 0) (Zaa (pv 3) Zad))))) (Zab (ZaO (Zao h_make_turn hr (by rfl) (Zaa (pv 0) (Zaa (pv 1) (Zaa (pv 3) Zad)))))
      (Zaf (ZaO (ZfD PySem.F.plainAttrs_list PySem.F.slot_list_append PySem.F.type_list_append Zbc (pv 2) (Zaa (pv 3) Zad))))) Zav)),?_⟩
  have lR:=wk.len
  refine ⟨_,rfl,_,rfl,κ,sk,tv,t,rfl,hk,ht,λH1 b S1 hb=>⟨_,rfl,?_⟩⟩
  have wk1:=wk.same S1
  cases b with
  | true =>
    refine Zji ?_
    have e:=Zip wk.wd (by rw[lR]; exact ok) (hb.mp rfl)
    exact k H1 ts (λb o _ q=>S1 _ _ q) (by rw[e]; exact wk1) (by omega) (ZlV (hb.mp rfl))
  | false =>
    refine ZiN ?_
    obtain ⟨as,h1,h2,h3⟩:=wk1.rows
    obtain ⟨tvs,g1,g2⟩:=wk1.turns
    refine ⟨_,rfl,_,rfl,_,rfl,κ,sk,r,as,R.map (List.take pw),tv,t,rfl,hk.same S1,h1,h2,h3 r wk.zr,λf hf=>by rw[ZdB wk.wd wk.wm f hf]; exact Q2 wk.wm wk.m7,ht.same S1,by rw[Q0,lR]; exact ok,(ZlT pw pre).pre,λH2 as' O hR2 rx2 nr2 _ sub=>?_⟩
    rw[<-ZlS] at rx2
    have nu:u∉[r]:=λz=>wk.ne (Q3.mp z).symm
    have qu:=O _ _ nu g1
    have lt:=g2.1
    refine ⟨_,rfl,.inl ⟨rfl,_,SqL.of qu⟩,_,rfl,u,tvs,tv,rfl,rfl,qu,Q6 (show tvs.length<1000 by omega) (by decide),?_⟩
    have nza:∀z∈Z,z∉as':=λz hz q=>by
      rcases sub z q with q | q
      · exact h3 z hz q
      · obtain ⟨o,e⟩:=wk1.za z hz
        rw[e] at q; cases q
    have nua:=nza u wk.zu
    have O2:Off [u] H2 (upd H2 u (.lst (tvs++[tv]))):=Zay (Same.refl H2)
    have Oa:Off [r,u] H1 (upd H2 u (.lst (tvs++[tv]))):=λb o nb q=>by
      have n1:b∉[r]:=λz=>nb (by rw[Q3.mp z]; exact Qw)
      have n2:b∉[u]:=λz=>nb (by rw[Q3.mp z]; simp)
      exact O2 _ _ n2 (O _ _ n1 q)
    refine k _ (ts++[t]) (λb o nb q=>Oa b o nb (S1 _ _ q)) ⟨⟨as',?_,rx2.off nua qu O2,nza⟩,⟨tvs++[tv],Zae,?_⟩,?_,?_,?_,wk.wid,wk.ne,wk.m7,?_,wk.zr,wk.zu,?_,wk.wm⟩ (by simp) (ZlQ ts t)
    · exact O2 _ _ (λz=>wk.ne (Q3.mp z)) hR2
    · exact (g2.mono λ_ _ n=>n.off2 h1 g1 Oa).append (.one ((ht.same S1).off2 h1 g1 Oa))
    · rw[Zkk,<-wk.run]
    · intro x hx
      rcases Qu.mp hx with hx | hx
      · exact wk.ok x hx
      · rw[Q3.mp hx]; exact ok
    · intro i x hx
      rw[List.getElem?_append] at hx
      split at hx
      · rename_i hi
        rw[List.take_append_of_le_length (by omega)]
        exact wk.pre i x hx
      · rename_i hi
        have hi2:i=ts.length:=by
          cases q:i-ts.length with
          | zero=>omega
          | succ n=>rw[q] at hx; simp at hx
        subst hi2
        rw[U3] at hx
        cases hx
        rw[List.take_left,<-wk.run]
        exact pre
    · rw[Qc]; show _+1<=400; omega
    · intro z hz
      by_cases e1:z=u
      · subst e1; exact ⟨_,Zae⟩
      · by_cases e2:z=r
        · subst e2; exact ⟨_,O2 _ _ (λq=>wk.ne (Q3.mp q)) hR2⟩
        · obtain ⟨o,e⟩:=wk1.za z hz
          refine ⟨o,Oa _ _ (λq=>?_) e⟩
          rcases Q8.mp q with q | q
          · exact e2 q
          · exact e1 (Q3.mp q)
theorem sc_first_filled:FnScope ["kind", "rows", "start", "column", "place"] ["kind", "rows", "start", "column"] (Zah Zb0):=⟨rfl,rfl,rfl,by decide +kernel,rfl,by decide +kernel,by decide +kernel⟩
theorem Ze1(h:Here K mg "first_filled" Zb0) (T:Nm mg) (nt:Zkj P w K mg base CF CR):Has P w K mg base "first_filled" 3 ["kind", "rows", "start", "column"] (ZbP CF CR):=by
  refine h.has (λf fd F=>F.binds λ_ _ _ _ _ _ us hl=>by obtain ⟨_,_,_,_,rfl⟩:=Zom hl; exact rfl) λf fd F=>F.ok sc_first_filled (λvs H Q E h=>?_) (λcdv A outer s H vs Q E hr h=>?_)
  · obtain ⟨_,_,_,_,_,_,_,_,_,_,_,_,rfl,_⟩:=h
    rfl
  obtain ⟨κ,sk,r,u,Z,R0,pw,m,R,ts,l,c,rfl,hk,wk,cm,ln,n1000,k⟩:=h
  have nd:=sc_first_filled.nd
  refine ⟨_,(Zab (Za7 PassesOwn.never rfl (Zev (by rfl) T.range (Zaa (pv 2) (Zaa (Zas Zan (by rfl) T.len boot_len (Zaa (pv 1) Zad)) Zad))) (Zat (i:=4) nd rfl (Or.inl rfl)) (Zaf (ZaF (Zdr (Zdq (ZaK (pv 0) hr (Zaa (Zak Zau (Zak Zau (pv 1) (pv 4) (λ_ _=>rfl)) (pv 3) (λ_ _=>rfl)) Zad)))) (Zaf (Zam (pv 4))) Zav)))
    (Zaf (Zam (Zas Zan (by rfl) T.len boot_len (Zaa (pv 1) Zad))))),?_⟩
  obtain ⟨as,hR,la⟩:=wk.rl
  obtain ⟨C,dx,fs,ps,dvs,sp,c1,c2,c3,c4,rfl,c5⟩:=nt κ H sk hk
  refine ⟨_,rfl,_,rfl,r,_,rfl,.inl (SqL.of hR),_,_,rfl,?_⟩
  rw[Q0,la]
  refine ⟨⟨by omega,by omega,by omega,by omega⟩,?_⟩
  rw[show ((R0.length:Int)-(l:Int)).toNat=R0.length-l by omega]
  refine ZaP (lo:=(l:Int)) (n:=R0.length-l) (λi σ H2=>∃z:Option V,σ=[some (.ref sk),some (.ref r),some (.int (l:Int)),some (.int (c:Int)),z]/\H2=H/\∀j,l<=j->j<l+i->ent R j c=0) ⟨_,rfl,rfl,λj a b=>by omega⟩ ?_ ?_
  · rintro i σ H2 hi ⟨z,rfl,rfl,hz⟩
    obtain ⟨as',a,xs,v,e1,e2,e3,e4,e5,e6⟩:=wk.ent (i:=l+i) (j:=c) (by omega) cm
    have ec:((l:Int)+(i:Int))=((l+i:Nat):Int):=by omega
    refine ⟨_,rfl,sk,C,dx,fs,ps,_,sp,rfl,c1,c2,c3,c4,_,rfl,_,rfl,r,_,_,_,rfl,rfl,SqL.of e1,(by rw[ec]; exact Zcr e3),_,rfl,a,_,_,_,rfl,rfl,SqL.of e4,Za5 e5,c5 v _ _ e6 λb hb=>⟨_,rfl,?_⟩⟩
    cases b with
    | false =>
      refine ZiN ⟨_,rfl,?_⟩
      show Q (V.int ((l:Int)+(i:Int))) _
      rw[ec]
      exact k (l+i) (by omega) (by omega) (λ_ z=>by have:=hb.mpr z; cases this) (λj a b=>hz j a b)
    | true =>
      refine Zji ⟨_,rfl,rfl,λj a b=>?_⟩
      by_cases e:j=l+i
      · rw[e]; exact hb.mp rfl
      · exact hz j a (by omega)
  · rintro σ H2 ⟨z,rfl,rfl,hz⟩
    refine ⟨_,rfl,r,_,rfl,.inl (SqL.of hR),?_⟩
    rw[Q0,la]
    exact k R0.length ln (Q1 _) (λz=>by omega) (λi a b=>hz i a (by omega))
end
end My
namespace My
open PySem L2 PyProof.Rows
section
variable{κ:KX}
structure QT (κ:KX) (pw:Nat) (R:List (List κ.F)):Prop where
  l4:κ = .q->R.length<=4
  ex:∃(B:Int) (b g:Nat),0<B/\Bits b B/\b+g<=300/\∀f∈R,(∀x∈f.take pw,QS κ B 300 x)/\∀x∈f.drop pw,QS κ 1 g x
theorem QS.dv{B:Int}(hB:0<B){a:Nat}{x:κ.F}(h:QS κ B a x):DvB κ B x:=by
  cases κ with
  | r p hp=>exact trivial
  | q =>
    obtain ⟨X,rfl,_⟩:=h
    exact (Zcb X hB).1
theorem ZnA{m:Nat}{R:List (List κ.F)}(wd:Wid m R){i j:Nat}(hi:i<R.length)(hj:j<m):ent R i j∈R.getD i []:=by
  have l:=wd.get hi
  unfold ent
  generalize R.getD i []=f at *
  rw[Q4,Q5 (by omega)]
  exact Qp _
theorem ZpB:K1 κ≠0:=λz=>Fd.zne z.symm
theorem Zku{f:List κ.F}{A B:Int}{b:Nat}(hB:0<B)(b3:b<=300)(bB:Bits b B)(hA:Znx κ f A)(hf:∀x∈f,QS κ B 300 x):∃xA:κ.F,NumV κ A xA/\xA≠0/\B1s κ xA/\QS κ 1 b xA/\∀x∈f,QS κ 1 300 (xA*x):=by
  cases κ with
  | r p hp =>
    have hA:A=1:=hA
    subst hA
    exact ⟨K1 _,ZcZ,ZpB,trivial,trivial,λ_ _=>trivial⟩
  | q =>
    obtain ⟨A0,dv,mn⟩:=hA
    have hAB:A ∣ B:=mn B λx hx=>QS.dv hB (hf x hx)
    have bA:Bits b A:=bB.le (Za3 hAB (by omega))
    refine ⟨(A:Rat),⟨rfl,rfl⟩,λz=>?_,⟨bA.up (by omega),Bits.of (by show 1<_; exact Q6 (show 1<2^1 by decide) (Qe (by decide) (by decide)))⟩,⟨A,(Qo (A:Rat)).symm,bA⟩,λx hx=>?_⟩
    · have:Rat.num (A:Rat)=Rat.num (0:Rat):=congrArg Rat.num z
      have:A=0:=this
      omega
    · obtain ⟨X,e,bX⟩:=hf x hx
      obtain ⟨q,hq⟩:=dv x hx
      obtain ⟨C,hC⟩:=hAB
      have hd:=(Za4 x).pos
      refine ⟨Rat.num x*q,?_,bX.le ?_⟩
      · show (A:Rat)*x=_
        conv=>lhs; rw[<-Qo x,show (A:Rat)=Rat.divInt A 1 from (Qo (A:Rat)).symm]
        rw[Wm,W5 (by omega) (by decide),Wo,Ud,hq]
        grind
      · have e1:=ZeW X hB
        have e:x=Rat.divInt X B:=e
        rw[<-e] at e1
        have e2:X=Rat.num x*q*C:=by
          refine Int.eq_of_mul_eq_mul_right (a:=(Rat.den x:Int)) (by omega) ?_
          rw[<-e1,hC,hq]
          grind
        have C0:C≠0:=λz=>by rw[z,Int.mul_zero] at hC; omega
        rw[e2,Qs (Rat.num x*q) C]
        exact Nat.le_mul_of_pos_right _ (by omega)
theorem Ech.scale{R R':List (List κ.F)}{n c:Nat}{ls:List Nat}{x:κ.F}(h:Ech R n c ls x)(e:∀i<n,∀j,ent R' i j=if i<ls.length then Fd.inv x*ent R i j else ent R i j):Ech R' n c ls 1:=by
  have hx:=Fd.mul_inv x h.x0
  have le:=h.le
  refine ⟨h.le,h.lt,h.inc,λz=>Fd.zne z.symm,λk hk i hi=>?_,λi a b j hj=>?_,λk hk j hj=>?_⟩
  · rw[e i hi,h.col k hk i hi]
    by_cases e1:i=k
    · rw[if_pos e1,if_pos e1,if_pos (by omega)]; grind
    · rw[if_neg e1,if_neg e1]
      split
      · grind
      · rfl
  · rw[e i b,if_neg (by omega)]; exact h.low i a b j hj
  · rw[e k (by omega),if_pos hk,h.pre k hk j hj]; grind
end
def Whl(κ:KX)(pw:Nat)(R0:List (List κ.F)):Prop:=∀f∈R0,∀A,Znx κ (f.take pw) A->A=1
inductive ZbQ (CF CR:Addr) (vs:List V) (H:Hp) (Q:VK) (zE:XK):Prop
  | mk (κ:KX) (s r u:Addr) (Z:List Addr) (R0:List (List κ.F)) (pw m:Nat) (_:vs=[.ref s,.ref r,.ref u]) (_:KdX CF CR κ H s) (_:Wk κ Z R0 pw m r u H R0 []) (_:QT κ pw R0) (_:R0.length<=7) (_:∀H' R' ts',Off [r,u] H H'->Wk κ Z R0 pw m r u H' R' ts'->ts'.length<=R0.length->Stg κ R' 0 1->(Whl κ pw R0->scF ts'=1)->Q .non H'):ZbQ CF CR vs H Q zE
inductive ZbR (CF CR:Addr) (vs:List V) (H:Hp) (Q:VK) (zE:XK):Prop
  | mk (κ:KX) (s r u:Addr) (Z:List Addr) (R0:List (List κ.F)) (pw m:Nat) (R:List (List κ.F)) (ts:List (Tn κ)) (l c:Nat) (lv:V) (x:κ.F) (PQ PN:κ.F->Prop) (_:vs=[.ref s,.ref r,.ref u,.int (l:Int),.int (c:Int),lv]) (_:KdX CF CR κ H s) (_:Wk κ Z R0 pw m r u H R ts) (_:l<R0.length) (_:c<pw) (_:NR κ H lv x) (_:x≠0) (_:ent R l c≠0) (_:AllR PQ R) (_:PivB x PQ PN) (_:R0.length<=7) (_:ts.length+3*R0.length<=400) (_:∀H' R' ts',Off [r,u] H H'->Wk κ Z R0 pw m r u H' R' ts'->(∀i<R0.length,∀j,ent R' i j=Zkt R l c x i j)->ts'.length<=ts.length+3*R0.length->scF ts'=pwr (ent R l c*Fd.inv x) (R0.length-1)*scF ts->Q .non H'):ZbR CF CR vs H Q zE
inductive Zd4 (CF CR:Addr) (vs:List V) (H:Hp) (Q:VK) (zE:XK):Prop
  | mk (κ:KX) (s tb:Addr) (rs:List Addr) (R0:List (List κ.F)) (pw m:Nat) (_:vs=[.ref s,.ref tb]) (_:KdX CF CR κ H s) (_:H tb=some (.lst (rs.map V.ref))) (_:RowsX κ H rs (R0.map (List.take pw))) (_:Wid m R0) (_:pw<=m) (_:1<=R0.length) (_:R0.length<=7) (_:pw<=7) (_:m<=1000) (_:QT κ pw R0) (_:∀(H':Hp) (t r u L:Addr) (Z:List Addr) (v:V) (R':List (List κ.F)) (ts:List (Tn κ)) (ls:List Nat) (x:κ.F),Same H H'->H' t=some (.tup [.ref r,.ref u,.ref L,v])->H r=none->H u=none->H L=none->Wk κ Z R0 pw m r u H' R' ts->L∈Z->L≠r->L≠u->H' L=some (.lst (ls.map λ(i:Nat)=>V.int (i:Int)))->NR κ H' v x->Ech R' R0.length pw ls x->Stg κ R' ls.length x->ts.length<=180->(Whl κ pw R0->scF ts=pwr x (R0.length-1))->Q (.ref t) H'):Zd4 CF CR vs H Q zE
end My
namespace My
theorem ZnB{α:Type}[Fd α]{x:α}(h:x≠0):Fd.inv x≠0:=λz=>by
  have:=Fd.mul_inv x h
  rw[z] at this
  have e:x*(0:α)=0:=by grind
  rw[e] at this
  exact Fd.zne this
end My
namespace My
open PySem L2 PyProof.Rows
theorem ZoI{κ:KX}{R:List (List κ.F)}{k:Nat}{x:κ.F}(h:Stg κ R k x)(x0:x≠0)(hk:κ = .q->k<=4):B1s κ (Fd.inv x)/\AllR (B1s κ) R:=by
  cases κ with
  | r p hp=>exact ⟨trivial,λ_ _ _ _=>trivial⟩
  | q =>
    obtain ⟨D,D',hD,bD,qR,hD',bD',qx⟩:=h rfl
    have nums:dS k<=3700/\aS k<=900000/\aL k<=3700/\1<=aL k/\dL k<=900000:=by
      have hk:=hk rfl
      match k,hk with
      | 0,_=>decide
      | 1,_=>decide
      | 2,_=>decide
      | 3,_=>decide
      | 4,_=>decide
    obtain ⟨n1,n2,n3,n4,n5⟩:=nums
    obtain ⟨L,hL,bL,qI⟩:=QS.inv hD' n4 qx bD' x0
    exact ⟨QS.b1s hL qI (bL.up n3) n5,λf hf y hy=>QS.b1s hD (qR f hf y hy) (bD.up n1) n2⟩
theorem Stg.swap{κ:KX}{R:List (List κ.F)}{k:Nat}{x:κ.F}{a b:Int}(h:Stg κ R k x):Stg κ (doT (.swap a b) R) k x:=λz=>by
  obtain ⟨D,D',hD,bD,qR,r⟩:=h z
  exact ⟨D,D',hD,bD,(qR.set (qR.getD _)).set (qR.getD _),r⟩
end My
namespace My
open PySem L2 PyProof.Rows
theorem Zmt{C C' G X:Hp->Prop}(h:(∀H,C' H->G H)->∀H,C H->X H)(hG:∀H,C' H->G H):∀H,C H->X H:=h hG
end My
namespace My
theorem Zkv{κ:KX}{pw m g:Nat}{B:Int}{R:List (List κ.F)}(wd:Wid m R){i j:Nat}(hi:i<R.length)(hj:j<m)(h:∀f∈R,(∀x∈f.take pw,QS κ B 300 x)/\∀x∈f.drop pw,QS κ 1 g x):if j<pw then QS κ B 300 (ent R i j) else QS κ 1 g (ent R i j):=by
  have l:=wd.get hi
  have e:R.getD i []=R[i]:=Zaw (Q5 hi)
  have hf:=h R[i] (Qp hi)
  rw[<-e] at hf
  have en:ent R i j=(R.getD i [])[j]'(by omega):=by
    unfold ent
    rw[Q4 (l:=R.getD i []),Q5 (by omega)]; rfl
  by_cases q:j<pw
  · rw[if_pos q,en]
    refine hf.1 _ ?_
    rw[List.mem_take_iff_getElem]
    exact ⟨j,by omega,rfl⟩
  · rw[if_neg q,en]
    refine hf.2 _ ?_
    rw[List.mem_drop_iff_getElem]
    exact ⟨j-pw,by omega,by congr 1; omega⟩
end My
namespace My
open PySem L2 PyProof.Rows
section
variable{P:Program}{w:World}{K:PySem.W.Frag}{mg:Str->Option Value}{base:Heap}{CF CR:Addr}
theorem sc_Fractions_common_bottom:FnScope ["self", "some", "bottom", "one"] ["self", "some"] (Zah ZaN):=⟨rfl,rfl,rfl,by decide +kernel,rfl,by decide +kernel,by decide +kernel⟩
theorem ZhL(h:HereM K CF "common_bottom" "Fractions.common_bottom" ZaN) (h_divisor:Has P w K mg base "divisor" 1 ["one", "other"] ZaU):HasM P w K mg base CF "common_bottom" 2 ["self", "some"] [] (Zbq K):=by
  refine h.hasM (λf fd F=>F.binds λ_ _ _ _ _ _ us hl=>by obtain ⟨_,_,rfl⟩:=Zed hl; exact rfl) λf fd F=>F.ok sc_Fractions_common_bottom (λvs H Q E h=>?_) (λcdv A outer s H vs Q E hr h=>?_)
  · obtain ⟨_,_,_,_,_,rfl,_⟩:=h
    rfl
  obtain ⟨sf,r,xs,f,B,rfl,hr1,al,hB,bB,dvB,k⟩:=h
  have nd:=sc_Fractions_common_bottom.nd
  refine ⟨_,(Zab (Zaj (i:=2) nd rfl (Or.inl rfl) Zac)
    (Zab (Za7 PassesOwn.never rfl (Zbi (pv 1)) (Zat (i:=3) nd rfl (Or.inl rfl)) (Zaf (ZaF (Zaq Zgt (Zai ZaD (pv 2) (Zak Zal (pv 3) Zac (λ_ _=>rfl))) Zac (Zar _)) (Zaf (Zaj (i:=2) nd rfl (Or.inl rfl) (Zai ZaA (Zai ZbI (pv 2) (Zao h_divisor hr (by rfl) (Zaa (pv 2) (Zaa (Zak Zal (pv 3) Zac (λ_ _=>rfl)) Zad)))) (Zak Zal (pv 3) Zac (λ_ _=>rfl))))) Zav)))
    (Zaf (Zam (pv 2))))),?_⟩
  have la:=al.1
  refine ⟨_,rfl,r,rfl,⟨_,SqL.of hr1⟩,?_⟩
  refine Zfz (xs:=xs) (λi σ H2=>∃(A:Int) (z:Option V),σ=[some (.ref sf),some (.ref r),some (.int A),z]/\H2=H/\Znx .q (f.take i) A) ⟨1,none,rfl,rfl,by decide,λx hx=>by simp at hx,λB _=>Int.one_dvd _⟩ ?_ ?_ ?_
  · rintro i σ H2-⟨A,z,rfl,rfl,-⟩
    exact SqL.of hr1
  · rintro i v σ H2 hv ⟨A,z,rfl,rfl,hA,dv,mn⟩
    obtain ⟨x,hx,a,rfl,ha⟩:=al.get hv
    have hd:=(Za4 x).pos
    have mx:=Q9 hx
    have hAB:A ∣ B:=mn B λy hy=>dvB y (Wb hy)
    have bA:Bits 4000 A:=bB.le (Za3 hAB (by omega))
    have bd:Bits 4000 (Rat.den x:Int):=bB.le (Za3 (dvB x mx) (by omega))
    have tk:f.take (i+1)=f.take i++[x]:=by rw[W7,hx]; rfl
    refine ⟨_,rfl,_,rfl,a,_,1,_,rfl,rfl,SqT.of ha,rfl,_,_,rfl,rfl,(show (Rat.den x:Int)≠0 by omega),rfl,_,rfl,?_⟩
    refine ZeC (λz1=>?_) (λz1=>?_)
    · obtain ⟨p1,d1,d2,lm⟩:=ZlU hA hd
      have g0:(Int.gcd A (Rat.den x:Int):Int)≠0:=by have:=M3.gcd_ne (a:=A) (b:=(Rat.den x:Int)) (by omega); omega
      have gb:Bits 4000 (Int.gcd A (Rat.den x:Int):Int):=bA.le (Za3 (Wi A (Rat.den x:Int)) (by omega))
      have fb:=M3.fdiv_le (Wi A (Rat.den x:Int)) g0
      refine ⟨_,rfl,_,rfl,_,rfl,a,_,1,_,rfl,rfl,SqT.of ha,rfl,A,_,rfl,_,_,rfl,rfl,⟨g0,gb⟩,_,rfl,a,_,1,_,rfl,rfl,SqT.of ha,rfl,_,_,rfl,rfl,Bits.mulG ((bA.le fb).up (by decide)) bd,?_⟩
      refine ⟨_,_,rfl,rfl,p1,λy hy=>?_,λB' hB'=>?_⟩
      · rw[tk] at hy
        rcases Qu.mp hy with q | q
        · exact Int.dvd_trans (dv y q) d1
        · rw[Q3.mp q]; exact d2
      · rw[tk] at hB'
        exact lm B' (mn B' λy hy=>hB' y (Qu.mpr (.inl hy))) (hB' x (Qu.mpr (.inr (Q3.mpr rfl))))
    · refine ⟨A,_,rfl,rfl,hA,λy hy=>?_,λB' hB'=>?_⟩
      · rw[tk] at hy
        rcases Qu.mp hy with q | q
        · exact dv y q
        · rw[Q3.mp q]
          have z2:A.fmod (Rat.den x:Int)=0:=z1
          rw[Qx _ (by omega)] at z2
          exact Int.dvd_of_emod_eq_zero z2
      · rw[tk] at hB'
        exact mn B' λy hy=>hB' y (Qu.mpr (.inl hy))
  · rintro σ H2 ⟨A,z,rfl,rfl,hA⟩
    rw[la,U4] at hA
    exact ⟨_,rfl,k A hA⟩
theorem ZcF:FnScope ["self", "some"] ["self", "some"] (Zah Za6):=⟨rfl,rfl,rfl,by decide +kernel,rfl,by decide +kernel,by decide +kernel⟩
theorem Zi9(h:HereM K CR "common_bottom" "Kind.common_bottom" Za6):HasM P w K mg base CR "common_bottom" 1 ["self", "some"] [] Zd3:=by
  refine h.hasM (λf fd F=>F.binds λ_ _ _ _ _ _ us hl=>by obtain ⟨_,_,rfl⟩:=Zed hl; exact rfl) λf fd F=>F.ok ZcF (λvs H Q E h=>?_) (λcdv A outer s H vs Q E hr h=>?_)
  · obtain ⟨_,_,rfl,_⟩:=h
    rfl
  obtain ⟨sf,r,rfl,k⟩:=h
  exact ⟨_,(Zaf (Zam Zac)),k⟩
theorem ZhM(kd:Kd K mg CF CR)(hF:HasM P w K mg base CF "common_bottom" 2 ["self", "some"] [] (Zbq K)) (hR:HasM P w K mg base CR "common_bottom" 2 ["self", "some"] [] Zd3):ZhI P w K mg base CF CR:=by
  intro κ H s hk
  cases κ with
  | q =>
    obtain ⟨dx,h⟩:=hk
    exact ⟨CF,dx,[],_,_,_,h,kd.clF,hF,rfl,rfl,λr xs f B Q hr al hB bB dv k=>⟨s,r,xs,f,B,rfl,hr,al,hB,bB,dv,k⟩⟩
  | r p hp =>
    obtain ⟨dx,h⟩:=hk
    exact ⟨CR,dx,fsR p,_,_,_,h,kd.clR,hR,Zc3 _ (by decide),rfl,λr xs f B Q hr al hB bB dv k=>⟨s,r,rfl,k 1 rfl⟩⟩
theorem sc_take_bottoms:FnScope ["kind", "rows", "turns", "place"] ["kind", "rows", "turns"] (Zah ZbZ):=⟨rfl,rfl,rfl,by decide +kernel,rfl,by decide +kernel,by decide +kernel⟩
theorem Ze2(h:Here K mg "take_bottoms" ZbZ) (T:Nm mg) (mn:ZbO P w K mg base CF CR) (mb:ZhI P w K mg base CF CR) (h_take:Has P w K mg base "take" 5 ["kind", "rows", "turns", "turn"] (Ze0 CF CR)):Has P w K mg base "take_bottoms" 6 ["kind", "rows", "turns"] (ZbQ CF CR):=by
  refine h.has (λf fd F=>F.binds λ_ _ _ _ _ _ us hl=>by obtain ⟨_,_,_,rfl⟩:=Zei hl; exact rfl) λf fd F=>F.ok sc_take_bottoms (λvs H Q E h=>?_) (λcdv A outer s H vs Q E hr h=>?_)
  · obtain ⟨_,_,_,_,_,_,_,_,rfl,_⟩:=h
    rfl
  obtain ⟨κ,sk,r,u,Z,R0,pw,m,rfl,hk,wk,qt,n7,k⟩:=h
  have nd:=sc_take_bottoms.nd
  refine ⟨_,(Zaf (Za7 PassesOwn.never rfl (ZaJ (by rfl) T.range (Zaa (Zas Zan (by rfl) T.len boot_len (Zaa (pv 1) Zad)) Zad)) (Zat (i:=3) nd rfl (Or.inl rfl)) (Zaf (ZaO (Zao h_take hr (by rfl) (Zaa (pv 0) (Zaa (pv 1) (Zaa (pv 2) (Zaa (ZaB (Zaa ZaW (Zaa (pv 3) (Zaa (ZaH (pv 0) ZcY hr (Zaa (ZaK (pv 0) hr (Zaa (Zak Zau (pv 1) (pv 3) (λ_ _=>rfl)) Zad)) Zad)) Zad)))) Zad))))))))),?_⟩
  obtain ⟨B,b,g,hB,bB,bg,qB⟩:=qt.ex
  have wm:=wk.wm
  obtain ⟨as,hR,la⟩:=wk.rl
  obtain ⟨tvs,hU⟩:=wk.ul
  refine ⟨_,rfl,r,_,rfl,.inl (SqL.of hR),_,rfl,?_⟩
  rw[Q0,la]
  refine ⟨by omega,by omega,?_⟩
  rw[Q7]
  refine ZaP (lo:=0) (n:=R0.length) (λi σ H2=>∃(z:Option V) (R:List (List κ.F)) (ts:List (Tn κ)),σ=[some (.ref sk),some (.ref r),some (.ref u),z]/\Off [r,u] H H2/\Wk κ Z R0 pw m r u H2 R ts/\ts.length<=i/\(Whl κ pw R0->R=R0/\scF ts=1)/\∀i'<R0.length,∀j<m,(i'<i->QS κ 1 300 (ent R i' j))/\(i<=i'->if j<pw then QS κ B 300 (ent R i' j) else QS κ 1 g (ent R i' j))) ⟨_,R0,[],rfl,λ_ _ _ q=>q,wk,Q1 _,(λ_=>⟨rfl,rfl⟩),λi' hi j hj=>⟨λq=>by omega,λ_=>Zkv wk.wid hi hj qB⟩⟩ ?_ ?_
  · rintro i σ H2 hi ⟨z,R,ts,rfl,O,wk2,lt,wh,qs⟩
    have hk2:=hk.off2 hR hU O
    obtain ⟨as2,h1,h2,h3⟩:=wk2.rows
    have lR:=wk2.len
    obtain ⟨a,xs,ea,hx,al⟩:=h2.get (i:=i) (by rw[Q0]; omega)
    have eg:(R.map (List.take pw)).getD i []=(R.map (List.take pw))[i]'(by rw[Q0]; omega):=Zaw (Q5 (by rw[Q0]; omega))
    rw[<-eg] at al
    have qrow:=Zd1 (Pr:=QS κ B 300) (ZdB wk2.wd wm) (i:=i) (by rw[Q0]; omega) (λj hj=>by
      have:=(qs i (by omega) j (by omega)).2 (Q1 _)
      rw[if_pos hj] at this
      rw[Zf7 hj]; exact this)
    have qall:=Zd1 (Pr:=B1s κ) wk2.wd (i:=i) (by omega) (λj hj=>by
      have:=(qs i (by omega) j hj).2 (Q1 _)
      by_cases q:j<pw
      · rw[if_pos q] at this; exact QS.b1s hB this (bB.up (by omega)) (by decide)
      · rw[if_neg q] at this; exact QS.b1s (by decide) this (Bits.of (Q6 (show 1<2^1 by decide) (Qe (by decide) (by decide)))) (by omega))
    obtain ⟨C,dx,fs,ps,dvs,sp,c1,c2,c3,c4,rfl,c5⟩:=mn κ H2 sk hk2
    obtain ⟨C',dx',fs',ps',dvs',sp',d1,d2,d3,d4,rfl,d5⟩:=mb κ H2 sk hk2
    refine ⟨_,rfl,_,rfl,_,rfl,_,rfl,_,rfl,sk,C,dx,fs,ps,_,sp,rfl,c1,c2,c3.mono (by decide),c4,_,rfl,sk,C',dx',fs',ps',_,sp',rfl,d1,d2,d3.mono (by decide),d4,_,rfl,_,rfl,r,_,_,_,rfl,rfl,SqL.of h1,(by rw[Qq]; exact Zcr ea),d5 a xs _ B _ hx al hB (bB.up (by omega)) (λx hx=>QS.dv hB (qrow x hx)) λA hA=>?_⟩
    obtain ⟨xA,nv,x0,b1,qxA,qA⟩:=Zku hB (by omega) bB hA qrow
    refine c5 H2 A xA _ _ (Same.refl _) nv λv H3 S3 nrv=>?_
    refine ⟨(by show 3<=sizeLine; decide),λtt nt=>?_⟩
    have S4:=Zag nt (.tup [.str "scale", .int (0+(i:Int)),v])
    have q4:=Zae (H:=H3) (a:=tt) (o:=.tup [.str "scale", .int (0+(i:Int)),v])
    generalize upd H3 tt (.tup [.str "scale", .int (0+(i:Int)),v])=H4 at *
    have S24:=S3.trans S4
    rw[Qq] at q4
    refine ⟨κ,sk,r,u,Z,R0,pw,m,R,ts,.ref tt,.scale (i:Int) xA,rfl,hk2.same S24,wk2.same S24,by omega,⟨tt,v,rfl,q4,nrv.same S4⟩,⟨⟨by omega,by omega⟩,x0⟩,⟨b1,qall⟩,λH5 ts' O5 wk5 l5 f5=>?_⟩
    refine ⟨_,_,ts',rfl,λb o nb q=>O5 b o nb (S24 _ _ (O b o nb q)),wk5,by omega,(λW=>?whl),λi' hi' j hj=>?_⟩
    case whl =>
      obtain ⟨eR,es⟩:=wh W
      have er:(R.map (List.take pw)).getD i []=(R0[i]'hi).take pw:=by rw[eR,Q4,Qh,Q5 hi]; rfl
      have A1:A=1:=W (R0[i]'hi) (Qp _) A (by rw[<-er]; exact hA)
      have x1:xA=1:=by rw[A1] at nv; exact nv.uniq ZcZ
      rw[f5,es,x1,eR]
      refine ⟨Zip wk.wid ⟨⟨by omega,by omega⟩,λz=>Fd.zne z.symm⟩ rfl,?_⟩
      show (1:κ.F)*1=1
      grind
    rw[Zcc (by rw[Q7]; omega),Q7]
    by_cases e:i'=i
    · rw[if_pos e]
      refine ⟨λ_=>?_,λq=>by omega⟩
      subst e
      by_cases q:j<pw
      · rw[<-Zf7 q]; exact qA _ (ZnA (ZdB wk2.wd wm) (by rw[Q0]; omega) q)
      · have:=(qs i' hi' j hj).2 (Q1 _)
        rw[if_neg q] at this
        exact (QS.mul qxA this).mono (by omega)
    · rw[if_neg e]
      exact ⟨λq=>(qs i' hi' j hj).1 (by omega),λq=>(qs i' hi' j hj).2 (by omega)⟩
  · rintro σ H2 ⟨z,R,ts,rfl,O,wk2,lt,wh,qs⟩
    refine k H2 R ts O wk2 lt (λ_=>?_) (λW=>(wh W).2)
    refine ⟨1,1,by decide,Bits.of (by decide),Zkr wk2.wd λi hi j hj=>(qs i (by rw[<-wk2.len]; exact hi) j hj).1 (by rw[<-wk2.len]; exact hi),by decide,Bits.of (by decide),ZoF⟩
end
end My
namespace My
open PySem L2 PyProof.Rows
section
variable{P:Program}{w:World}{K:PySem.W.Frag}{mg:Str->Option Value}{base:Heap}{CF CR:Addr}
theorem Zqw{us:List Value}(h:us.length=6):∃a b c d e f,us=[a,b,c,d,e,f]:=match us,h with | [a,b,c,d,e,f],_=>⟨a,b,c,d,e,f,rfl⟩
theorem sc_empty_column:FnScope ["kind", "rows", "turns", "lead", "column", "last", "head", "back", "place", "less"] ["kind", "rows", "turns", "lead", "column", "last"] (Zah Zb1):=⟨rfl,rfl,rfl,by decide +kernel,rfl,by decide +kernel,by decide +kernel⟩
theorem Ze3(h:Here K mg "empty_column" Zb1) (T:Nm mg) (mn:ZbO P w K mg base CF CR) (mm:ZlO P w K mg base CF CR) (mb:Zio P w K mg base CF CR) (h_take:Has P w K mg base "take" 5 ["kind", "rows", "turns", "turn"] (Ze0 CF CR)):Has P w K mg base "empty_column" 6 ["kind", "rows", "turns", "lead", "column", "last"] (ZbR CF CR):=by
  refine h.has (λf fd F=>F.binds λ_ _ _ _ _ _ us hl=>by obtain ⟨_,_,_,_,_,_,rfl⟩:=Zqw hl; exact rfl) λf fd F=>F.ok sc_empty_column (λvs H Q E h=>?_) (λcdv A outer s H vs Q E hr h=>?_)
  · obtain ⟨_,_,_,_,_,_,_,_,_,_,_,_,_,_,_,_,rfl,_⟩:=h
    rfl
  obtain ⟨κ,sk,r,u,Z,R0,pw,m,R,ts,l,c,lv,x,PQ,PN,rfl,hk,wk,ll,cm,nl,x0,h0,pq,pb,n7,l4,k⟩:=h
  have nd:=sc_empty_column.nd
  refine ⟨_,(Zab (Zaj (i:=6) nd rfl (Or.inl rfl) (Zak Zau (Zak Zau (pv 1) (pv 3) (λ_ _=>rfl)) (pv 4) (λ_ _=>rfl)))
    (Zab (Zaj (i:=7) nd rfl (Or.inl rfl) (ZaH (pv 0) ZcY hr (Zaa (pv 5) Zad)))
    (Zaf (Za7 PassesOwn.never rfl (ZaJ (by rfl) T.range (Zaa (Zas Zan (by rfl) T.len boot_len (Zaa (pv 1) Zad)) Zad)) (Zat (i:=8) nd rfl (Or.inl rfl)) (Zaf (ZaF (Zaq Zgt (pv 8) (pv 3) (Zar _)) (Zab (Zaj (i:=9) nd rfl (Or.inl rfl) (ZaK (pv 0) hr (Zaa (ZaH (pv 0) ZcY hr (Zaa Zac Zad)) (Zaa (Zak Zau (Zak Zau (pv 1) (pv 8) (λ_ _=>rfl)) (pv 4) (λ_ _=>rfl)) Zad))))
        (Zab (ZaO (Zao h_take hr (by rfl) (Zaa (pv 0) (Zaa (pv 1) (Zaa (pv 2) (Zaa (ZaB (Zaa ZaW (Zaa (pv 8) (Zaa (pv 6) Zad)))) Zad))))))
        (Zab (ZaO (Zao h_take hr (by rfl) (Zaa (pv 0) (Zaa (pv 1) (Zaa (pv 2) (Zaa (ZaB (Zaa ZaW (Zaa (pv 8) (Zaa (pv 3) (Zaa (pv 9) Zad))))) Zad))))))
        (Zaf (ZaO (Zao h_take hr (by rfl) (Zaa (pv 0) (Zaa (pv 1) (Zaa (pv 2) (Zaa (ZaB (Zaa ZaW (Zaa (pv 8) (Zaa (pv 7) Zad)))) Zad)))))))))) Zav)))))),?_⟩
  have lR:=wk.len
  have wd:=wk.wd
  have cm':c<m:=Q6 cm wk.wm
  have pe:∀i<R0.length,∀j<m,PQ (ent R i j):=λi hi j hj=>ZhF wd pq (by omega) hj
  obtain ⟨as,a,xs,hv,e1,e2,e3,e4,e5,nh⟩:=wk.ent ll cm
  obtain ⟨C,dx,fs,ps,dvs,sp,c1,c2,c3,c4,rfl,c5⟩:=mb κ H sk hk
  refine ⟨_,rfl,_,rfl,r,_,_,_,rfl,rfl,SqL.of e1,Zcr e3,_,rfl,a,_,_,_,rfl,rfl,SqL.of e4,Za5 e5,?_⟩
  refine ⟨_,rfl,sk,C,dx,fs,ps,_,sp,rfl,c1,c2,c3.mono (by decide),c4,_,rfl,c5 H lv x _ _ (Same.refl H) nl x0 λbv H1 S1 nb=>?_⟩
  have wk1:=wk.same S1
  have hR1:=S1 _ _ e1
  obtain ⟨tvs,hU1⟩:=wk1.ul
  have hk1:=hk.same S1
  have nh1:=nh.same S1
  refine ⟨_,rfl,r,_,rfl,.inl (SqL.of hR1),_,rfl,?_⟩
  rw[Q0,e2]
  refine ⟨by omega,by omega,?_⟩
  rw[Q7]
  refine ZaP (lo:=0) (n:=R0.length) (λp σ H2=>∃(z8 z9:Option V) (Rp:List (List κ.F)) (tp:List (Tn κ)),σ=[some (.ref sk),some (.ref r),some (.ref u),some (.int (l:Int)),some (.int (c:Int)),some lv,some hv,some bv,z8,z9]/\Off [r,u] H1 H2/\Wk κ Z R0 pw m r u H2 Rp tp/\tp.length<=ts.length+3*p/\scF tp=pwr (ent R l c*Fd.inv x) (if p<=l then p else p-1)*scF ts/\∀i<R0.length,∀j,ent Rp i j=if i<p then Zkt R l c x i j else ent R i j) ⟨_,_,R,ts,rfl,λ_ _ _ q=>q,wk1,by omega,(by rw[if_pos (Qd _)]; show _=(1:κ.F)*_; grind),λi hi j=>by rw[if_neg (by omega)]⟩ ?_ ?_
  · rintro p σ H2 hp ⟨z8,z9,Rp,tp,rfl,O,wk2,lt,fp,en⟩
    refine ⟨_,rfl,_,rfl,rfl,_,rfl,?_⟩
    refine ZeC (λz=>?_) (λz=>?_)
    case refine_2 =>
      have ep:p=l:=by omega
      refine ⟨_,_,Rp,tp,rfl,O,wk2,by omega,(by rw[fp,ep,if_pos (Q1 _),if_neg (by omega)]; rfl),λi hi j=>?_⟩
      rw[en i hi j]
      by_cases q:i<p
      · rw[if_pos q,if_pos (by omega)]
      · by_cases q2:i=p
        · rw[if_neg q,if_pos (by omega),q2,ep]
          unfold Zkt
          rw[if_pos rfl]
        · rw[if_neg q,if_neg (by omega)]
    have npl:p≠l:=by omega
    have hk2:=hk1.off2 hR1 hU1 O
    have nh2:=nh1.off2 hR1 hU1 O
    have nb2:=nb.off2 hR1 hU1 O
    obtain ⟨as2,a2,xs2,v2,f1,f2,f3,f4,f5,n2⟩:=wk2.ent hp cm
    rw[en p hp c,if_neg (by omega)] at n2
    obtain ⟨Cm,dxm,fsm,psm,dvm,spm,m1,m2,m3,m4,rfl,m5⟩:=mm κ H2 sk hk2
    obtain ⟨Cn,dxn,fsn,psn,dvn,spn,k1,k2,k3,k4,rfl,k5⟩:=mn κ H2 sk hk2
    refine ⟨_,rfl,sk,Cm,dxm,fsm,psm,_,spm,rfl,m1,m2,m3.mono (by decide),m4,_,rfl,sk,Cn,dxn,fsn,psn,_,spn,rfl,k1,k2,k3.mono (by decide),k4,k5 H2 0 0 _ _ (Same.refl _) Zf1 λv0 H3 S3 n0=>?_⟩
    refine ⟨_,rfl,_,rfl,r,_,_,_,rfl,rfl,SqL.of (S3 _ _ f1),(by rw[Qq]; exact Zcr f3),_,rfl,a2,_,_,_,rfl,rfl,SqL.of (S3 _ _ f4),Za5 f5,m5 H3 v0 v2 0 _ _ S3 n0 (n2.same S3) Zkq (pb.ent _ (pe p hp c cm')).b1 λlsv H4 S4 nls=>?_⟩
    have S24:=S3.trans S4
    have wk4:=wk2.same S24
    have nh4:=nh2.same S24
    have nb4:=nb2.same S24
    have hk4:=hk2.same S24
    have f14:=S24 _ _ f1
    clear S3 S4 n0 m1 m2 m3 m4 m5 k1 k2 k3 k4 k5 f4 f5 n2
    refine ⟨_,rfl,_,rfl,_,rfl,_,rfl,_,rfl,(by show 3<=sizeLine; decide),λt1 nt1=>?_⟩
    have q5:=Zae (H:=H4) (a:=t1) (o:=.tup [.str "scale", .int (0+(p:Int)),hv])
    have S5:=Zag nt1 (.tup [.str "scale", .int (0+(p:Int)),hv])
    generalize upd H4 t1 (.tup [.str "scale", .int (0+(p:Int)),hv])=H5 at *
    rw[Qq] at q5
    have wk5:=wk4.same S5
    have lRp:=wk5.len
    refine ⟨κ,sk,r,u,Z,R0,pw,m,Rp,tp,.ref t1,.scale (p:Int) (ent R l c),rfl,hk4.same S5,wk5,by omega,⟨t1,hv,rfl,q5,nh4.same S5⟩,⟨⟨by omega,by omega⟩,h0⟩,⟨pb.ent _ (pe l ll c cm'),?_⟩,λH6 tp6 O6 wk6 l6 f6=>?_⟩
    · rw[Q7]
      refine Zd1 wk5.wd (by omega) λj hj=>?_
      rw[en p hp j,if_neg (by omega)]
      exact pb.ent _ (pe p hp j hj)
    obtain ⟨tv5,hU5⟩:=wk5.ul
    have hR5:=S5 _ _ f14
    have nls6:=(nls.same S5).off2 hR5 hU5 O6
    have nb6:=(nb4.same S5).off2 hR5 hU5 O6
    have hk6:=(hk4.same S5).off2 hR5 hU5 O6
    have en6:∀i<R0.length,∀j,ent (doT (.scale (p:Int) (ent R l c)) Rp) i j=if i=p then ent R l c*ent R p j else ent Rp i j:=λi hi j=>by
      rw[Zcc (by rw[Q7]; omega),Q7]
      by_cases q:i=p
      · rw[if_pos q,if_pos q,q,en p hp j,if_neg (by omega)]
      · rw[if_neg q,if_neg q]
    generalize doT (.scale (p:Int) (ent R l c)) Rp=R6 at *
    refine ⟨_,rfl,_,rfl,_,rfl,_,rfl,_,rfl,_,rfl,(by show 4<=sizeLine; decide),λt2 nt2=>?_⟩
    have q7:=Zae (H:=H6) (a:=t2) (o:=.tup [.str "add", .int (0+(p:Int)),.int (l:Int),lsv])
    have S7:=Zag nt2 (.tup [.str "add", .int (0+(p:Int)),.int (l:Int),lsv])
    generalize upd H6 t2 (.tup [.str "add", .int (0+(p:Int)),.int (l:Int),lsv])=H7 at *
    rw[Qq] at q7
    have wk7:=wk6.same S7
    have lR6:=wk7.len
    have rl7:∀j,ent R6 l j=ent R l j:=λj=>by
      rw[en6 l ll j,if_neg (Ne.symm npl),en l ll j]
      unfold Zkt
      rw[if_pos rfl]
      split <;> rfl
    refine ⟨κ,sk,r,u,Z,R0,pw,m,R6,tp6,.ref t2,.add (p:Int) (l:Int) (0-ent R p c),rfl,hk6.same S7,wk7,by omega,⟨t2,lsv,rfl,q7,nls6.same S7⟩,⟨⟨by omega,by omega⟩,⟨by omega,by omega⟩,by omega⟩,⟨pb.neg _ (pe p hp c cm'),?_,?_⟩,λH8 tp8 O8 wk8 l8 f8=>?_⟩
    · rw[Q7]
      refine Zd1 wk7.wd (by omega) λj hj=>?_
      rw[en6 p hp j,if_pos rfl]
      exact pb.mul _ _ (pe l ll c cm') (pe p hp j hj)
    · rw[Q7]
      refine Zd1 (Pr:=λy=>B1s κ y/\B1s κ ((0-ent R p c)*y)) wk7.wd (by omega) λj hj=>?_
      rw[rl7 j]
      exact ⟨pb.ent _ (pe l ll j hj),pb.nml _ _ (pe p hp c cm') (pe l ll j hj)⟩
    obtain ⟨as7,hR7,_⟩:=wk7.rl
    obtain ⟨tv7,hU7⟩:=wk7.ul
    have nb8:=(nb6.same S7).off2 hR7 hU7 O8
    have hk8:=(hk6.same S7).off2 hR7 hU7 O8
    have en8:∀i<R0.length,∀j,ent (doT (.add (p:Int) (l:Int) (0-ent R p c)) R6) i j=if i=p then ent R l c*ent R p j+(0-ent R p c)*ent R l j else ent Rp i j:=λi hi j=>by
      rw[Zf5 wk7.wd (by rw[Q7]; omega) (by rw[Q7]; omega),Q7,Q7,rl7 j,en6 i hi j]
      by_cases q:i=p
      · rw[if_pos q,if_pos q,if_pos q]
      · rw[if_neg q,if_neg q,if_neg q]
    generalize doT (.add (p:Int) (l:Int) (0-ent R p c)) R6=R8 at *
    refine ⟨_,rfl,_,rfl,_,rfl,_,rfl,_,rfl,(by show 3<=sizeLine; decide),λt3 nt3=>?_⟩
    have q9:=Zae (H:=H8) (a:=t3) (o:=.tup [.str "scale", .int (0+(p:Int)),bv])
    have S9:=Zag nt3 (.tup [.str "scale", .int (0+(p:Int)),bv])
    generalize upd H8 t3 (.tup [.str "scale", .int (0+(p:Int)),bv])=H9 at *
    rw[Qq] at q9
    have wk9:=wk8.same S9
    have lR8:=wk9.len
    refine ⟨κ,sk,r,u,Z,R0,pw,m,R8,tp8,.ref t3,.scale (p:Int) (Fd.inv x),rfl,hk8.same S9,wk9,by omega,⟨t3,bv,rfl,q9,nb8.same S9⟩,⟨⟨by omega,by omega⟩,ZnB x0⟩,⟨pb.inv,?_⟩,λH10 tp10 O10 wk10 l10 f10=>?_⟩
    · rw[Q7]
      refine Zd1 wk9.wd (by omega) λj hj=>?_
      rw[en8 p hp j,if_pos rfl]
      exact pb.sum _ _ _ _ (pe l ll c cm') (pe p hp j hj) (pe p hp c cm') (pe l ll j hj)
    refine ⟨_,_,_,tp10,rfl,λb o nb' q=>O10 b o nb' (S9 _ _ (O8 b o nb' (S7 _ _ (O6 b o nb' (S5 _ _ (S24 _ _ (O b o nb' q))))))),wk10,by omega,?fac,λi hi j=>?_⟩
    case fac =>
      rw[f10,f8,f6,fp]
      show Fd.inv x*(1*(ent R l c*(pwr _ _*scF ts)))=_
      have e:(if p+1<=l then p+1 else p+1-1)=(if p<=l then p else p-1)+1:=by
        by_cases q:p<l
        · rw[if_pos (by omega),if_pos (by omega)]
        · rw[if_neg (by omega),if_neg (by omega)]; omega
      rw[e]
      show _=pwr _ _*(ent R l c*Fd.inv x)*scF ts
      generalize pwr (ent R l c*Fd.inv x) (if p<=l then p else p-1)=y
      generalize Fd.inv x=z
      grind
    rw[Zcc (by rw[Q7]; omega),Q7,en8 i hi j]
    by_cases q:i=p
    · rw[if_pos q,if_pos q,if_pos (by omega)]
      unfold Zkt
      rw[if_neg (by omega),q]
    · rw[if_neg q,if_neg q,en i hi j]
      by_cases q2:i<p
      · rw[if_pos q2,if_pos (by omega)]
      · rw[if_neg q2,if_neg (by omega)]
  · rintro σ H2 ⟨z8,z9,Rp,tp,rfl,O,wk2,lt,fp,en⟩
    refine k H2 Rp tp (λb o nb' q=>O b o nb' (S1 _ _ q)) wk2 (λi hi j=>?_) lt (by rw[fp,if_neg (by omega)])
    rw[en i hi j,if_pos hi]
end
end My
namespace My
open PySem L2 PyProof.Rows
section
variable{P:Program}{w:World}{K:PySem.W.Frag}{mg:Str->Option Value}{base:Heap}{CF CR:Addr}
theorem sc_emptied:FnScope ["kind", "table", "rows", "turns", "leads", "last", "column", "lead", "found"] ["kind", "table"] (Zah ZeK):=⟨rfl,rfl,rfl,by decide +kernel,rfl,by decide +kernel,by decide +kernel⟩
theorem Zja(h:Here K mg "emptied" ZeK) (T:Nm mg) (mn:ZbO P w K mg base CF CR) (h_take_bottoms:Has P w K mg base "take_bottoms" 6 ["kind", "rows", "turns"] (ZbQ CF CR)) (h_first_filled:Has P w K mg base "first_filled" 6 ["kind", "rows", "start", "column"] (ZbP CF CR)) (h_take:Has P w K mg base "take" 6 ["kind", "rows", "turns", "turn"] (Ze0 CF CR)) (h_empty_column:Has P w K mg base "empty_column" 6 ["kind", "rows", "turns", "lead", "column", "last"] (ZbR CF CR)):Has P w K mg base "emptied" 7 ["kind", "table"] (Zd4 CF CR):=by
  refine h.has (λf fd F=>F.binds λ_ _ _ _ _ _ us hl=>by obtain ⟨_,_,rfl⟩:=Zed hl; exact rfl) λf fd F=>F.ok sc_emptied (λvs H Q E h=>?_) (λcdv A outer s H vs Q E hr h=>?_)
  · obtain ⟨_,_,_,_,_,_,_,rfl,_⟩:=h
    rfl
  obtain ⟨κ,sk,tb,rs,R0,pw,m,rfl,hk,hT,rx,wd,wm,n1,n7,m7,mM,qt,k⟩:=h
  have nd:=sc_emptied.nd
  refine ⟨_,(Zab (Zaj (i:=2) nd rfl (Or.inl rfl) (Zca Zct (by rfl) T.list boot_list (Zaa (pv 1) Zad)))
    (Zab (Zaj (i:=3) nd rfl (Or.inl rfl) (Zb9 Zad))
    (Zab (Zaj (i:=4) nd rfl (Or.inl rfl) (Zb9 Zad))
    (Zab (Zaj (i:=5) nd rfl (Or.inl rfl) (ZaH (pv 0) ZcY hr (Zaa Zac Zad)))
    (Zab (ZaO (Zao h_take_bottoms hr (by rfl) (Zaa (pv 0) (Zaa (pv 2) (Zaa (pv 3) Zad)))))
    (Zab (Za7 PassesOwn.never rfl (ZaJ (by rfl) T.range (Zaa (Zas Zan (by rfl) T.len boot_len (Zaa (Zak Zau (pv 1) Zac (λ_ _=>rfl)) Zad)) Zad)) (Zat (i:=6) nd rfl (Or.inl rfl)) (Zab (Zaj (i:=7) nd rfl (Or.inl rfl) (Zas Zan (by rfl) T.len boot_len (Zaa (pv 4) Zad)))
      (Zab (Zaj (i:=8) nd rfl (Or.inl rfl) (Zao h_first_filled hr (by rfl) (Zaa (pv 0) (Zaa (pv 2) (Zaa (pv 7) (Zaa (pv 6) Zad))))))
      (Zaf (ZaF (Zaq Zhg (pv 8) (Zas Zan (by rfl) T.len boot_len (Zaa (pv 2) Zad)) (Zar _)) (Zab (ZaF (Zaq Zgt (pv 8) (pv 7) (Zar _)) (Zaf (ZaO (Zao h_take hr (by rfl) (Zaa (pv 0) (Zaa (pv 2) (Zaa (pv 3) (Zaa (ZaB (Zaa ZaW (Zaa (pv 7) (Zaa (pv 8) Zad)))) Zad))))))) Zav)
        (Zab (ZaO (Zao h_empty_column hr (by rfl) (Zaa (pv 0) (Zaa (pv 2) (Zaa (pv 3) (Zaa (pv 7) (Zaa (pv 6) (Zaa (pv 5) Zad))))))))
        (Zab (Zaj (i:=5) nd rfl (Or.inl rfl) (Zak Zau (Zak Zau (pv 2) (pv 7) (λ_ _=>rfl)) (pv 6) (λ_ _=>rfl)))
        (Zaf (ZaO (ZfD PySem.F.plainAttrs_list PySem.F.slot_list_append PySem.F.type_list_append Zbc (pv 4) (Zaa (pv 6) Zad))))))) Zav)))))
    (Zaf (Zam (ZaB (Zaa (pv 2) (Zaa (pv 3) (Zaa (pv 4) (Zaa (pv 5) Zad))))))))))))),?_⟩
  have lrs:=rx.1
  rw[Q0] at lrs
  obtain ⟨a0,g0⟩:∃a0,rs[0]?=some a0:=⟨rs[0]'(by omega),Q5 (by omega)⟩
  obtain ⟨f0,e0⟩:=ZaL g0 rx.1
  obtain ⟨xs0,hx0,al0⟩:=rx.2 0 a0 f0 g0 e0
  have lx0:xs0.length=pw:=by rw[al0.1]; exact ZdB wd wm f0 (Q9 e0)
  refine ⟨_,rfl,tb,_,rfl,.inl (SqL.of hT),λr nr=>?_⟩
  have Sr:=Zag nr (.lst (rs.map V.ref))
  have qr:=Zae (H:=H) (a:=r) (o:=.lst (rs.map V.ref))
  have nrr:=rx.notin nr
  generalize upd H r (.lst (rs.map V.ref))=H1 at *
  refine ⟨(by show 0<=sizeLine; decide),λu nu=>?_⟩
  have Su:=Zag nu (.lst [])
  have qu:=Zae (H:=H1) (a:=u) (o:=.lst [])
  have nur:=(rx.same Sr).notin nu
  have nru:r≠u:=λz=>by rw[<-z,qr] at nu; cases nu
  generalize upd H1 u (.lst [])=H2 at *
  refine ⟨(by show 0<=sizeLine; decide),λL nL=>?_⟩
  have SL:=Zag nL (.lst [])
  have qL:=Zae (H:=H2) (a:=L) (o:=.lst [])
  have nLr:=((rx.same Sr).same Su).notin nL
  have nL1:L≠r:=λz=>by rw[z,Su _ _ qr] at nL; cases nL
  have nL2:L≠u:=λz=>by rw[z,qu] at nL; cases nL
  generalize upd H2 L (.lst [])=H3 at *
  have S03:=Sr.trans (Su.trans SL)
  have fu:H u=none:=Sr.free nu
  have fL:H L=none:=(Sr.trans Su).free nL
  obtain ⟨C,dx,fs,ps,dvs,sp,c1,c2,c3,c4,rfl,c5⟩:=mn κ H3 sk (hk.same S03)
  refine ⟨_,rfl,sk,C,dx,fs,ps,_,sp,rfl,c1,c2,c3.mono (by decide),c4,c5 H3 1 1 _ _ (Same.refl _) ZcZ λv0 H4 S4 nv0=>?_⟩
  have S04:=S03.trans S4
  have wk4:Wk κ [r,u,L] R0 pw m r u H4 R0 []:=by
    refine ⟨⟨rs,(Su.trans (SL.trans S4)) _ _ qr,rx.same S04,λz hz=>?_⟩,⟨[],(SL.trans S4) _ _ qu,.nil⟩,rfl,(λt h=>nomatch h),λi t h=>by simp at h,wd,nru,by omega,Qd _,by simp,by simp,λz hz=>?_,wm⟩
    · simp only[Q8,Qz,or_false] at hz
      rcases hz with rfl | rfl | rfl
      · exact nrr
      · exact nur
      · exact nLr
    · simp only[Q8,Qz,or_false] at hz
      rcases hz with rfl | rfl | rfl
      · exact ⟨_,(Su.trans (SL.trans S4)) _ _ qr⟩
      · exact ⟨_,(SL.trans S4) _ _ qu⟩
      · exact ⟨_,S4 _ _ qL⟩
  have fru:∀z∈[r,u],H z=none:=λz hz=>by
    simp only[Q8,Qz,or_false] at hz
    rcases hz with rfl | rfl
    · exact nr
    · exact fu
  refine ⟨_,rfl,_,rfl,_,rfl,κ,sk,r,u,[r,u,L],R0,pw,m,rfl,hk.same S04,wk4,qt,n7,λH5 R5 ts5 O5 wk5 l5 stg5 fw5=>?_⟩
  have S05:=Off.same O5 S04 fru
  have nLo:L∉[r,u]:=λz=>by
    simp only[Q8,Qz,or_false] at z
    rcases z with z | z
    · exact nL1 z
    · exact nL2 z
  have qL5:=O5 _ _ nLo (S4 _ _ qL)
  obtain ⟨as4,hR4,_⟩:=wk4.rl
  obtain ⟨tv4,hU4⟩:=wk4.ul
  have nv5:=nv0.off2 hR4 hU4 O5
  refine ⟨_,rfl,tb,_,0,_,rfl,rfl,SqL.of (S05 _ _ hT),Zcr (i:=0) g0,a0,_,rfl,.inl (SqL.of (S05 _ _ hx0)),_,rfl,?_⟩
  rw[lx0]
  refine ⟨by omega,by omega,?_⟩
  rw[Q7]
  refine ZaP (lo:=0) (n:=pw) (λc σ H6=>∃(z6 z7 z8:Option V) (R:List (List κ.F)) (ts:List (Tn κ)) (ls:List Nat) (v:V) (x:κ.F),σ=[some (.ref sk),some (.ref tb),some (.ref r),some (.ref u),some (.ref L),some v,z6,z7,z8]/\Same H H6/\Wk κ [r,u,L] R0 pw m r u H6 R ts/\H6 L=some (.lst (ls.map λ(i:Nat)=>V.int (i:Int)))/\NR κ H6 v x/\Ech R R0.length c ls x/\Stg κ R ls.length x/\ts.length<=R0.length+22*c/\(Whl κ pw R0->scF ts=pwr x (R0.length-1))) ⟨_,_,_,R5,ts5,[],v0,1,rfl,S05,wk5,qL5,nv5,Znu,stg5,by omega,λW=>by rw[fw5 W,ZhH]⟩ ?_ ?_
  · rintro c σ H6 hc ⟨z6,z7,z8,R,ts,ls,v,x,rfl,S6,wk6,qL6,nv6,ech,stg,lt,fw⟩
    refine ⟨_,rfl,L,_,rfl,.inl (SqL.of qL6),?_⟩
    rw[Q0]
    refine ⟨_,rfl,_,rfl,_,rfl,_,rfl,κ,sk,r,u,[r,u,L],R0,pw,m,R,ts,ls.length,c,(by rw[Qq]; rfl),hk.same S6,wk6,hc,ech.le,by omega,λf h1 h2 h3 h4=>?_⟩
    obtain ⟨as6,hR6,la6⟩:=wk6.rl
    refine ⟨_,rfl,_,rfl,r,_,rfl,.inl (SqL.of hR6),_,_,rfl,rfl,_,rfl,?_⟩
    rw[Q0,la6]
    refine Zcu (λq=>?_) (λq=>?_)
    case refine_2 =>
      have ef:f=R0.length:=by have:¬(f:Int)<(R0.length:Int):=q; omega
      exact ⟨_,_,_,R,ts,ls,v,x,rfl,S6,wk6,qL6,nv6,ech.skip λi a b=>h4 i a (by omega),stg,by omega,fw⟩
    have hf:f<R0.length:=by have:(f:Int)<(R0.length:Int):=q; omega
    have hll:ls.length<R0.length:=by omega
    have d6:Same H H6/\Wk κ [r,u,L] R0 pw m r u H6 R ts/\H6 L=some (.lst (ls.map λ(i:Nat)=>V.int (i:Int)))/\NR κ H6 v x:=⟨S6,wk6,qL6,nv6⟩
    clear S6 qL6 nv6 hR6 la6 wk6
    revert H6
    refine' Zmt (C:=λH6=>Same H H6/\Wk κ [r,u,L] R0 pw m r u H6 R ts/\H6 L=some (.lst (ls.map λ(i:Nat)=>V.int (i:Int)))/\NR κ H6 v x) (C':=λH6=>Same H H6/\∃(R1:List (List κ.F)) (ts1:List (Tn κ)),Wk κ [r,u,L] R0 pw m r u H6 R1 ts1/\H6 L=some (.lst (ls.map λ(i:Nat)=>V.int (i:Int)))/\NR κ H6 v x/\Ech R1 R0.length c ls x/\Stg κ R1 ls.length x/\ts1.length<=ts.length+1/\ent R1 ls.length c≠0/\scF ts1=scF ts) (λk1 H6 d6=>?first) ?second
    case first =>
      obtain ⟨S6,wk6,qL6,nv6⟩:=d6
      refine ⟨_,rfl,_,rfl,rfl,_,rfl,?_⟩
      refine ZeC (λz=>?_) (λz=>?_)
      case refine_2 =>
        have ef:f=ls.length:=by omega
        exact k1 H6 ⟨S6,R,ts,wk6,qL6,nv6,ech,stg,by omega,(by rw[<-ef]; exact h3 hf),rfl⟩
      have nfl:f≠ls.length:=λe=>z (by rw[e])
      refine ⟨_,rfl,_,rfl,_,rfl,_,rfl,_,rfl,(by show 3<=sizeLine; decide),λt1 nt1=>?_⟩
      have q7:=Zae (H:=H6) (a:=t1) (o:=.tup [.str "swap", .int (ls.length:Int),.int (f:Int)])
      have S7:=Zag nt1 (.tup [.str "swap", .int (ls.length:Int),.int (f:Int)])
      generalize upd H6 t1 (.tup [.str "swap", .int (ls.length:Int),.int (f:Int)])=H7 at *
      have wk7:=wk6.same S7
      refine ⟨κ,sk,r,u,[r,u,L],R0,pw,m,R,ts,.ref t1,.swap (ls.length:Int) (f:Int),rfl,(hk.same S6).same S7,wk7,by omega,⟨t1,rfl,q7⟩,⟨⟨by omega,by omega⟩,⟨by omega,by omega⟩,by omega⟩,trivial,λH8 ts8 O8 wk8 l8 f8=>?_⟩
      obtain ⟨as7,hR7,_⟩:=wk7.rl
      obtain ⟨tv7,hU7⟩:=wk7.ul
      refine k1 H8 ⟨Off.same O8 (S6.trans S7) fru,_,ts8,wk8,O8 _ _ nLo (S7 _ _ qL6),(nv6.same S7).off2 hR7 hU7 O8,ech.swap wk7.len h1 hf,stg.swap,by omega,?_,by rw[f8]; show (1:κ.F)*_=_; grind⟩
      rw[Zeq (by rw[Q7,wk7.len]; exact hll) (by rw[Q7,wk7.len]; exact hf),Q7,Q7,if_neg (Ne.symm nfl),if_pos rfl]
      exact h3 hf
    case second =>
      rintro H6 ⟨S6,R1,ts1,wk6,qL6,nv6,ech1,stg1,lt1,h0,f1⟩
      obtain ⟨PQ,PN,pq,pb,fin⟩:=Znv stg1 ech1.x0 (λz=>by have:=qt.l4 z; omega)
      refine ⟨_,rfl,_,rfl,_,rfl,_,rfl,_,rfl,_,rfl,κ,sk,r,u,[r,u,L],R0,pw,m,R1,ts1,ls.length,c,v,x,PQ,PN,(by rw[Qq]; rfl),hk.same S6,wk6,hll,hc,nv6,ech1.x0,h0,pq,pb,n7,by omega,λH7 R7 ts7 O7 wk7 en l7 f7=>?_⟩
      have S7:=Off.same O7 S6 fru
      have qL7:=O7 _ _ nLo qL6
      have ech7:=ech1.pivot hll h0 en
      have pe:∀i<R0.length,∀j<m,PQ (ent R1 i j):=λi hi j hj=>ZhF wk6.wd pq (by rw[wk6.len]; exact hi) hj
      have stg7:Stg κ R7 (ls.length+1) (ent R1 ls.length c):=fin R7 _ (Zkr wk7.wd λi hi j hj=>by
        have hi:i<R0.length:=by rw[<-wk7.len]; exact hi
        rw[en i hi j]
        unfold Zkt
        split
        · exact pb.keep _ (pe _ hll j hj)
        · exact pb.new _ _ _ _ (pe _ hll c (Q6 hc wm)) (pe i hi j hj) (pe i hi c (Q6 hc wm)) (pe _ hll j hj)) (pe _ hll c (Q6 hc wm))
      obtain ⟨as7,a7,xs7,v7,g1,g2,g3,g4,g5,n7'⟩:=wk7.ent hll hc
      have e7:ent R7 ls.length c=ent R1 ls.length c:=by
        rw[en _ hll c]
        unfold Zkt
        rw[if_pos rfl]
      rw[e7] at n7'
      refine ⟨_,rfl,_,rfl,r,_,_,_,rfl,rfl,SqL.of g1,Zcr g3,_,rfl,a7,_,_,_,rfl,rfl,SqL.of g4,(by rw[Qq]; exact Za5 g5),?_⟩
      have ll7:=ech7.le
      refine ⟨_,rfl,.inl ⟨rfl,_,SqL.of qL7⟩,_,rfl,L,_,_,rfl,rfl,qL7,Q6 (show (ls.map λ(i:Nat)=>V.int (i:Int)).length<1000 by rw[Q0]; omega) (by decide),?_⟩
      have OL:Off [L] H7 (upd H7 L (.lst ((ls.map λ(i:Nat)=>V.int (i:Int))++[.int (0+(c:Int))]))):=Zay (Same.refl H7)
      refine ⟨_,_,_,R7,ts7,ls++[c],v7,_,rfl,Off.same OL S7 (λz hz=>by rw[Q3.mp hz]; exact fL),wk7.offL (by simp) nL1 nL2 qL7 Zae OL,?_,n7'.off qL7 OL,ech7,(by rw[Qc]; exact stg7),by omega,λW=>?fac⟩
      case fac =>
        rw[f7,f1,fw W,ZhG]
        have e:=ZhG (Fd.inv x) x (R0.length-1)
        have e2:Fd.inv x*x=1:=by have:=Fd.mul_inv x ech1.x0; generalize Fd.inv x=z at *; grind
        rw[e2,ZhH] at e
        generalize pwr (Fd.inv x) (R0.length-1)=z at *
        generalize pwr x (R0.length-1)=z2 at *
        generalize pwr (ent R1 ls.length c) (R0.length-1)=z3 at *
        grind
      rw[Zae,Qr,Qq]
      rfl
  · rintro σ H6 ⟨z6,z7,z8,R,ts,ls,v,x,rfl,S6,wk6,qL6,nv6,ech,stg,lt,fw⟩
    refine ⟨_,rfl,_,rfl,_,rfl,_,rfl,(by show 4<=sizeLine; decide),λt nt=>?_⟩
    have St:=Zag nt (.tup [.ref r,.ref u,.ref L,v])
    exact k _ t r u L [r,u,L] v R ts ls x (S6.trans St) Zae nr fu fL (wk6.same St) (by simp) nL1 nL2 (St _ _ qL6) (nv6.same St) ech stg (by omega) fw
end
end My
namespace My.Rg
open PySem L2 PyProof.Rows
section
variable{α:Type}[Lean.Grind.CommRing α]
theorem ZpY:(0:α)+0=0:=by grind
def Sg(h:Nat->α):Nat->α
  | 0=>0
  | n+1=>Sg h n+h n
theorem Sg_congr{h g:Nat->α}:∀ {n:Nat},(∀i,i<n->h i=g i)->Sg h n=Sg g n
  | 0,_=>rfl
  | n+1,e=>by
    show Sg h n+h n=Sg g n+g n
    rw[Sg_congr (n:=n) λi hi=>e i (by omega),e n (by omega)]
theorem ZbX(c:α)(h:Nat->α):∀n,c*Sg h n=Sg (λi=>c*h i) n
  | 0=>by show c*0=0; grind
  | n+1=>by
    show c*(Sg h n+h n)=Sg (λi=>c*h i) n+c*h n
    rw[<-ZbX c h n]; grind
theorem ZdC(h g:Nat->α):∀n,Sg h n+Sg g n=Sg (λi=>h i+g i) n
  | 0=>ZpY
  | n+1=>by
    show (Sg h n+h n)+(Sg g n+g n)=Sg (λi=>h i+g i) n+(h n+g n)
    rw[<-ZdC h g n]; grind
theorem Sg_zero:∀n,Sg (λ_=>(0:α)) n=0
  | 0=>rfl
  | n+1=>by show Sg _ n+0=0; rw[Sg_zero n]; exact ZpY
theorem Zkw(h:Nat->Nat->α)(m:Nat):∀n,Sg (λi=>Sg (λj=>h i j) m) n=Sg (λj=>Sg (λi=>h i j) n) m
  | 0=>(Sg_zero m).symm
  | n+1=>by
    show Sg _ n+Sg (λj=>h n j) m=Sg (λj=>Sg (λi=>h i j) n+h n j) m
    rw[Zkw h m n,ZdC]
theorem Zer(h:Nat->α):∀n,Sg h (n+1)=h 0+Sg (λi=>h (i+1)) n
  | 0=>by show 0+h 0=h 0+0; grind
  | n+1=>by
    show Sg h (n+1)+h (n+1)=h 0+(Sg (λi=>h (i+1)) n+h (n+1))
    rw[Zer h n]; grind
theorem Zmu(h:Nat->α)(i:Nat):∀n,Sg (λl=>h l*(if i=l then 1 else 0)) n=if i<n then h i else 0
  | 0=>by rw[if_neg (by omega)]; rfl
  | n+1=>by
    show Sg _ n+h n*(if i=n then 1 else 0)=_
    rw[Zmu h i n]
    by_cases e:i=n
    · subst e; rw[if_neg (by omega),if_pos rfl,if_pos (by omega)]; grind
    · rw[if_neg e]
      by_cases l:i<n
      · rw[if_pos l,if_pos (by omega)]; grind
      · rw[if_neg l,if_neg (by omega)]; grind
def sgn(α:Type)[Lean.Grind.CommRing α]:Nat->α
  | 0=>1
  | n+1=>0-sgn α n
def skip(j t:Nat):Nat:=if t<j then t else t+1
theorem Zkx{j k:Nat}(h:k<j)(t:Nat):skip j (skip k t)=skip k (skip (j-1) t):=by
  have lo:∀ {j t:Nat},t<j->skip j t=t:=λh=>by unfold skip; rw[if_pos h]
  have hi:∀ {j t:Nat},j<=t->skip j t=t+1:=λh=>by unfold skip; rw[if_neg (by omega)]
  by_cases h1:t<k
  · rw[lo h1,lo (show t<j by omega),lo (show t<j-1 by omega),lo h1]
  · by_cases h2:t<j-1
    · rw[hi (show k<=t by omega),lo (show t+1<j by omega),lo h2,hi (show k<=t by omega)]
    · rw[hi (show k<=t by omega),hi (show j<=t+1 by omega),hi (show j-1<=t by omega),hi (show k<=t+1 by omega)]
def det:Nat->(Nat->Nat->α)->α
  | 0,_=>1
  | n+1,a=>Sg (λj=>sgn α j*a 0 j*det n (λi k=>a (i+1) (skip j k))) (n+1)
theorem Zax:∀ {n:Nat} {a b:Nat->Nat->α},(∀i j,i<n->j<n->a i j=b i j)->det n a=det n b
  | 0,_,_,_=>rfl
  | n+1,a,b,h=>by
    show Sg _ (n+1)=Sg _ (n+1)
    refine Sg_congr λj hj=>?_
    rw[h 0 j (by omega) hj,Zax (n:=n) (a:=λi k=>a (i+1) (skip j k)) (b:=λi k=>b (i+1) (skip j k)) λi k hi hk=>h _ _ (by omega) (by unfold skip; split <;> omega)]
def ZaC(a:Nat->Nat->α)(r:Nat)(f:Nat->α):Nat->Nat->α:=λi j=>if i=r then f j else a i j
theorem Ze4:∀ {n:Nat} {a:Nat->Nat->α} {r:Nat} (f g:Nat->α) (c:α),r<n->det n (ZaC a r λj=>f j+c*g j)=det n (ZaC a r f)+c*det n (ZaC a r g)
  | 0,_,_,_,_,_,h=>by omega
  | n+1,a,0,f,g,c,_=>by
    show Sg _ (n+1)=Sg _ (n+1)+c*Sg _ (n+1)
    rw[ZbX,ZdC]
    refine Sg_congr λj hj=>?_
    have e:∀h:Nat->α,det n (λi k=>ZaC a 0 h (i+1) (skip j k))=det n (λi k=>a (i+1) (skip j k)):=λh=>Zax λi k _ _=>by unfold ZaC; rw[if_neg (by omega)]
    rw[e,e,e]
    show sgn α j*(f j+c*g j)*_=sgn α j*f j*_+c*(sgn α j*g j*_)
    grind
  | n+1,a,r+1,f,g,c,hr=>by
    show Sg _ (n+1)=Sg _ (n+1)+c*Sg _ (n+1)
    rw[ZbX,ZdC]
    refine Sg_congr λj hj=>?_
    have e:∀h:Nat->α,det n (λi k=>ZaC a (r+1) h (i+1) (skip j k))=det n (ZaC (λi k=>a (i+1) (skip j k)) r λk=>h (skip j k)):=λh=>Zax λi k _ _=>by
      unfold ZaC
      by_cases q:i=r
      · rw[if_pos (by omega),if_pos q]
      · rw[if_neg (by omega),if_neg q]
    rw[e,e,e,Ze4 (n:=n) (a:=λi k=>a (i+1) (skip j k)) (r:=r) (λk=>f (skip j k)) (λk=>g (skip j k)) c (by omega)]
    have z:∀h:Nat->α,ZaC a (r+1) h 0 j=a 0 j:=λh=>by unfold ZaC; rw[if_neg (by omega)]
    rw[z,z,z]
    grind
theorem Zky{f:Nat->Nat->α}:∀n,(∀j k,k<j->j<=n->f j k=0-f k (j-1))->Sg (λj=>Sg (λk=>f j k) n) (n+1)=0
  | 0,_=>by
    show (0:α)+0=0
    grind
  | n+1,h=>by
    have ih:=Zky n λj k hk hj=>h j k hk (by omega)
    show Sg (λj=>Sg (λk=>f j k) (n+1)) (n+1)+Sg (λk=>f (n+1) k) (n+1)=0
    have e1:Sg (λj=>Sg (λk=>f j k) (n+1)) (n+1)=Sg (λj=>Sg (λk=>f j k) n) (n+1)+Sg (λj=>f j n) (n+1):=by
      rw[ZdC]; rfl
    have e2:Sg (λk=>f (n+1) k) (n+1)=Sg (λj=>(0-1)*f j n) (n+1):=Sg_congr λk hk=>by
      rw[h (n+1) k hk (Q1 _)]
      show 0-f k n=(0-1)*f k n
      grind
    rw[e1,e2,ih,<-ZbX]
    grind
theorem ZhN:∀ {n:Nat} {a:Nat->Nat->α} {r:Nat},r+1<n->(∀j,a r j=a (r+1) j)->det n a=0
  | 0,_,_,h,_=>by omega
  | 1,_,_,h,_=>by omega
  | n+2,a,0,_,e=>by
    show Sg (λj=>sgn α j*a 0 j*Sg (λk=>sgn α k*a 1 (skip j k)*det n (λi t=>a (i+2) (skip j (skip k t)))) (n+1)) (n+2)=0
    have e1:∀j,j<n+2->sgn α j*a 0 j*Sg (λk=>sgn α k*a 1 (skip j k)*det n (λi t=>a (i+2) (skip j (skip k t)))) (n+1)=Sg (λk=>sgn α j*a 0 j*(sgn α k*a 0 (skip j k)*det n (λi t=>a (i+2) (skip j (skip k t))))) (n+1):=λj _=>by
      rw[ZbX]
      exact Sg_congr λk _=>by rw[e (skip j k)]
    rw[Sg_congr e1]
    refine Zky (n+1) λj k hk hj=>?_
    have s1:skip j k=k:=by unfold skip; rw[if_pos hk]
    have s2:skip k (j-1)=j:=by unfold skip; rw[if_neg (by omega)]; omega
    have s3:det n (λi t=>a (i+2) (skip j (skip k t)))=det n (λi t=>a (i+2) (skip k (skip (j-1) t))):=Zax λi t _ _=>by rw[Zkx hk]
    have s4:sgn α j=0-sgn α (j-1):=by
      obtain ⟨m,rfl⟩:∃m,j=m+1:=⟨j-1,by omega⟩
      rfl
    rw[s1,s2,s3,s4]
    grind
  | n+2,a,r+1,h,e=>by
    show Sg _ (n+2)=0
    have z:∀j,j<n+2->sgn α j*a 0 j*det (n+1) (λi k=>a (i+1) (skip j k))=0:=λj _=>by
      rw[ZhN (n:=n+1) (a:=λi k=>a (i+1) (skip j k)) (r:=r) (by omega) λk=>e (skip j k)]
      grind
    rw[Sg_congr z,Sg_zero]
theorem ZbS(a:Nat->Nat->α)(r:Nat):ZaC a r (a r)=a:=by
  funext i j
  unfold ZaC
  split
  · rename_i e; rw[e]
  · rfl
theorem ZcU{n:Nat}{a:Nat->Nat->α}{r:Nat}(f g:Nat->α)(h:r<n):det n (ZaC a r λj=>f j+g j)=det n (ZaC a r f)+det n (ZaC a r g):=by
  have:=Ze4 (a:=a) f g (1:α) h
  have e:(λj=>f j+(1:α)*g j)=λj=>f j+g j:=by funext j; grind
  rw[e] at this
  rw[this]
  grind
theorem ZnC{n:Nat}{a:Nat->Nat->α}{r:Nat}(h:r+1<n):det n (ZaC (ZaC a r (a (r+1))) (r+1) (a r))=0-det n a:=by
  have z:∀x:Nat->α,det n (ZaC (ZaC a r x) (r+1) x)=0:=λx=>ZhN h λj=>by
    unfold ZaC
    rw[if_neg (by omega),if_pos rfl,if_pos rfl]
  have c:∀x y:Nat->α,ZaC (ZaC a r x) (r+1) y=ZaC (ZaC a (r+1) y) r x:=λx y=>by
    funext i j
    unfold ZaC
    by_cases e1:i=r+1
    · rw[if_pos e1,if_neg (by omega),if_pos e1]
    · by_cases e2:i=r
      · rw[if_neg e1,if_pos e2,if_pos e2]
      · rw[if_neg e1,if_neg e2,if_neg e2,if_neg e1]
  have h0:=z λj=>a r j+a (r+1) j
  rw[ZcU _ _ (by omega),c,c,ZcU _ _ (by omega),ZcU _ _ (by omega),<-c,<-c,<-c,<-c] at h0
  have z1:=z λj=>a r j
  have z2:=z λj=>a (r+1) j
  have s:ZaC (ZaC a r λj=>a r j) (r+1) (λj=>a (r+1) j)=a:=by
    have e1:ZaC a r (λj=>a r j)=a:=ZbS a r
    rw[e1]
    exact ZbS a (r+1)
  rw[z1,z2,s] at h0
  have t:det n (ZaC (ZaC a r λj=>a (r+1) j) (r+1) λj=>a r j)=det n (ZaC (ZaC a r (a (r+1))) (r+1) (a r)):=rfl
  rw[t] at h0
  generalize det n (ZaC (ZaC a r (a (r+1))) (r+1) (a r))=u at *
  generalize det n a=v at *
  grind
theorem ZhO{n:Nat}:∀ {d:Nat} {a:Nat->Nat->α} {r:Nat},r+d+1<n->(∀j,a r j=a (r+d+1) j)->det n a=0
  | 0,a,r,h,e=>ZhN h e
  | d+1,a,r,h,e=>by
    have s:=ZnC (a:=a) (r:=r+d+1) (n:=n) (by omega)
    have z:det n (ZaC (ZaC a (r+d+1) (a (r+d+1+1))) (r+d+1+1) (a (r+d+1)))=0:=by
      refine ZhO (d:=d) (r:=r) (by omega) λj=>?_
      unfold ZaC
      rw[if_neg (by omega),if_neg (by omega),if_neg (by omega),if_pos rfl]
      exact e j
    rw[z] at s
    generalize det n a=v at *
    grind
theorem Ziq{n:Nat}{a:Nat->Nat->α}{r s:Nat}(hr:r<n)(hs:s<n)(ne:r≠s)(e:∀j,a r j=a s j):det n a=0:=by
  rcases Nat.lt_or_gt_of_ne ne with h | h
  · refine ZhO (d:=s-r-1) (r:=r) (by omega) λj=>?_
    rw[e j]; congr 1; omega
  · refine ZhO (d:=r-s-1) (r:=s) (by omega) λj=>?_
    rw[<-e j]; congr 1; omega
theorem Zes{n:Nat}{a:Nat->Nat->α}{r s:Nat}(c:α)(hr:r<n)(hs:s<n)(ne:r≠s):det n (ZaC a r λj=>a r j+c*a s j)=det n a:=by
  rw[Ze4 _ _ _ hr,show ZaC a r (λj=>a r j)=a from ZbS a r,Ziq (a:=ZaC a r λj=>a s j) hr hs ne λj=>by unfold ZaC; rw[if_pos rfl,if_neg (Ne.symm ne)]]
  grind
theorem ZdD{n:Nat}{a:Nat->Nat->α}{r:Nat}(c:α)(hr:r<n):det n (ZaC a r λj=>c*a r j)=c*det n a:=by
  have e:(λj=>c*a r j)=λj=>0*a r j+c*a r j:=by funext j; grind
  have z:det n (ZaC a r λj=>0*a r j)=0:=by
    have e2:(λj=>(0:α)*a r j)=λj=>0+0*a r j:=by funext j; grind
    have:=Ze4 (a:=a) (λ_=>(0:α)) (λ_=>0) (0-1) hr
    have e3:(λj:Nat=>(0:α)+(0-1)*0)=λ_=>0:=by funext j; grind
    rw[e3] at this
    have e4:(λj=>(0:α)*a r j)=λ_=>0:=by funext j; grind
    rw[e4]
    generalize det n (ZaC a r λ_=>(0:α))=v at *
    grind
  rw[e,Ze4 (λj=>0*a r j) (a r) c hr,z,ZbS]
  grind
end
end My.Rg
namespace My
open PySem L2 PyProof.Rows Rg
section
variable{κ:KX}
noncomputable abbrev sgn(κ:KX)(n:Nat):κ.F:=Rg.sgn κ.F n
theorem Zkz{n:Nat}{a:Nat->Nat->κ.F}{r s:Nat}(hr:r<n)(hs:s<n)(ne:r≠s):det n (ZaC (ZaC a r (a s)) s (a r))=0-det n a:=by
  have z:∀x:Nat->κ.F,det n (ZaC (ZaC a r x) s x)=0:=λx=>Ziq hr hs ne λj=>by
    unfold ZaC
    rw[if_neg ne,if_pos rfl,if_pos rfl]
  have c:∀x y:Nat->κ.F,ZaC (ZaC a r x) s y=ZaC (ZaC a s y) r x:=λx y=>by
    funext i j
    unfold ZaC
    by_cases e1:i=s
    · rw[if_pos e1,if_neg (by omega),if_pos e1]
    · by_cases e2:i=r
      · rw[if_neg e1,if_pos e2,if_pos e2]
      · rw[if_neg e1,if_neg e2,if_neg e2,if_neg e1]
  have h0:=z λj=>a r j+a s j
  rw[ZcU _ _ hs,c,c,ZcU _ _ hr,ZcU _ _ hr,<-c,<-c,<-c,<-c] at h0
  have z1:=z λj=>a r j
  have z2:=z λj=>a s j
  have st:ZaC (ZaC a r λj=>a r j) s (λj=>a s j)=a:=by
    have e1:ZaC a r (λj=>a r j)=a:=ZbS a r
    rw[e1]
    exact ZbS a s
  rw[z1,z2,st] at h0
  have t:det n (ZaC (ZaC a r λj=>a s j) s λj=>a r j)=det n (ZaC (ZaC a r (a s)) s (a r)):=rfl
  rw[t] at h0
  generalize det n (ZaC (ZaC a r (a s)) s (a r))=u at *
  generalize det n a=v at *
  grind
noncomputable def Zb4(a:Nat->Nat->κ.F):Nat->κ.F
  | 0=>1
  | n+1=>Zb4 a n*a n n
theorem Ze5(a:Nat->Nat->κ.F):∀n,Zb4 a (n+1)=a 0 0*Zb4 (λi j=>a (i+1) (j+1)) n
  | 0=>by show 1*a 0 0=a 0 0*1; grind
  | n+1=>by
    show Zb4 a (n+1)*a (n+1) (n+1)=a 0 0*(Zb4 _ n*a (n+1) (n+1))
    rw[Ze5 a n]
    grind
theorem Zir:∀ {n:Nat} {a:Nat->Nat->κ.F},0<n->(∀i,i<n->a i 0=0)->det n a=0
  | 1,a,_,h=>by
    show (0:κ.F)+sgn κ 0*a 0 0*1=0
    rw[h 0 (by omega)]
    grind
  | n+2,a,_,h=>by
    show Sg _ (n+2)=0
    have z:∀j,j<n+2->sgn κ j*a 0 j*det (n+1) (λi k=>a (i+1) (skip j k))=0:=λj _=>by
      by_cases e:j=0
      · rw[e,h 0 (by omega)]; grind
      · rw[Zir (n:=n+1) (a:=λi k=>a (i+1) (skip j k)) (by omega) λi hi=>by
          show a (i+1) (skip j 0)=0
          rw[show skip j 0=0 by unfold skip; rw[if_pos (by omega)]]
          exact h (i+1) (by omega)]
        grind
    rw[Sg_congr z,Sg_zero]
theorem Ze6:∀ {n:Nat} {a:Nat->Nat->κ.F},(∀i j,j<i->i<n->a i j=0)->det n a=Zb4 a n
  | 0,_,_=>rfl
  | n+1,a,h=>by
    rw[Ze5]
    show Sg _ (n+1)=_
    rw[Zer]
    have z:∀j,j<n->sgn κ (j+1)*a 0 (j+1)*det n (λi k=>a (i+1) (skip (j+1) k))=0:=λj hj=>by
      rw[Zir (n:=n) (a:=λi k=>a (i+1) (skip (j+1) k)) (by omega) λi hi=>by
        show a (i+1) (skip (j+1) 0)=0
        rw[show skip (j+1) 0=0 by unfold skip; rw[if_pos (by omega)]]
        exact h (i+1) 0 (by omega) (by omega)]
      grind
    rw[Sg_congr z,Sg_zero]
    have e:det n (λi k=>a (i+1) (skip 0 k))=Zb4 (λi j=>a (i+1) (j+1)) n:=by
      have:det n (λi k=>a (i+1) (skip 0 k))=det n (λi k=>a (i+1) (k+1)):=Zax λi k _ _=>by
        rw[show skip 0 k=k+1 by unfold skip; rw[if_neg (by omega)]]
      rw[this]
      exact Ze6 λi j hj hi=>h (i+1) (j+1) (by omega) (by omega)
    rw[e]
    show sgn κ 0*a 0 0*_+0=_
    have:sgn κ 0=1:=rfl
    rw[this]
    grind
noncomputable def Zf9:Tn κ->κ.F
  | .swap _ _=>0-1
  | .scale _ c=>c
  | .add _ _ _=>1
theorem Zga{n:Nat}{t:Tn κ}{R:List (List κ.F)}(hn:R.length=n)(wd:Wid n R)(ok:t.ok n):det n (ent (doT t R))=Zf9 t*det n (ent R):=by
  cases t with
  | swap i j =>
    obtain ⟨⟨i0,i1⟩,⟨j0,j1⟩,ne⟩:=ok
    have e:ent (doT (.swap i j) R)=ZaC (ZaC (ent R) i.toNat (ent R j.toNat)) j.toNat (ent R i.toNat):=by
      funext x y
      rw[Zeq (by omega) (by omega)]
      rfl
    rw[e,Zkz (by omega) (by omega) (by omega)]
    show 0-det n (ent R)=(0-1)*det n (ent R)
    grind
  | scale i c =>
    obtain ⟨⟨i0,i1⟩,c0⟩:=ok
    have e:ent (doT (.scale i c) R)=ZaC (ent R) i.toNat λy=>c*ent R i.toNat y:=by
      funext x y
      rw[Zcc (by omega)]
      unfold ZaC
      split
      · rename_i q; rw[q]
      · rfl
    rw[e,ZdD _ (by omega)]
    rfl
  | add i j c =>
    obtain ⟨⟨i0,i1⟩,⟨j0,j1⟩,ne⟩:=ok
    have e:ent (doT (.add i j c) R)=ZaC (ent R) i.toNat λy=>ent R i.toNat y+c*ent R j.toNat y:=by
      funext x y
      rw[Zf5 wd (by omega) (by omega)]
      unfold ZaC
      split
      · rename_i q; rw[q]
      · rfl
    rw[e,Zes _ (by omega) (by omega) (by omega)]
    show _=1*_
    grind
noncomputable def Zdh:List (Tn κ)->κ.F
  | []=>1
  | t::ts=>Zf9 t*Zdh ts
theorem Ze7{n:Nat}:∀ {ts:List (Tn κ)} {R:List (List κ.F)},R.length=n->Wid n R->(∀t∈ts,t.ok n)->det n (ent (Zgo ts R))=Zdh ts*det n (ent R)
  | [],R,_,_,_=>by show det n (ent R)=1*_; grind
  | t::ts,R,hn,wd,ok=>by
    show det n (ent (Zgo ts (doT t R)))=Zf9 t*Zdh ts*_
    rw[Ze7 (ts:=ts) (R:=doT t R) (by rw[Zd0,hn]) (ZeX wd (by rw[hn]; exact ok t (by simp))) (λt' h'=>ok t' (by simp[h'])),Zga hn wd (ok t (by simp))]
    grind
end
end My
namespace My
open PySem L2 PyProof.Rows Rg
section
variable{κ:KX}
theorem ZoJ(ts:List (Tn κ)):Zdh ts=sgn κ (swN ts)*scF ts:=by
  induction ts with
  | nil=>show (1:κ.F)=1*1; grind
  | cons t ts ih =>
    show Zf9 t*Zdh ts=sgn κ (swT t+swN ts)*(scT t*scF ts)
    rw[ih]
    cases t with
    | swap i j =>
      show (0-1)*(sgn κ (swN ts)*scF ts)=sgn κ (1+swN ts)*(1*scF ts)
      rw[show 1+swN ts=swN ts+1 by omega]
      show _=(0-sgn κ (swN ts))*_
      grind
    | scale i c =>
      show c*(sgn κ (swN ts)*scF ts)=sgn κ (0+swN ts)*(c*scF ts)
      rw[Nat.zero_add]; grind
    | add i j c =>
      show 1*(sgn κ (swN ts)*scF ts)=sgn κ (0+swN ts)*(1*scF ts)
      rw[Nat.zero_add]; grind
theorem sgn_sq(n:Nat):sgn κ n*sgn κ n=1:=by
  induction n with
  | zero=>show (1:κ.F)*1=1; grind
  | succ n ih =>
    show (0-sgn κ n)*(0-sgn κ n)=1
    rw[<-ih]; grind
theorem Zgb(n:Nat):sgn κ n=if n%2=0 then 1 else 0-1:=by
  induction n with
  | zero=>rfl
  | succ n ih =>
    show 0-sgn κ n=_
    rw[ih]
    by_cases h:n%2=0
    · rw[if_pos h,if_neg (by omega)]
    · rw[if_neg h,if_pos (by omega)]; grind
theorem Zmv{a:Nat->Nat->κ.F}{x:κ.F}:∀ {n:Nat},(∀i,i<n->a i i=x)->Zb4 a n=pwr x n
  | 0,_=>rfl
  | n+1,h=>by
    show Zb4 a n*a n n=pwr x n*x
    rw[Zmv (n:=n) λi hi=>h i (by omega),h n (by omega)]
theorem Zgc{R:List (List κ.F)}{n:Nat}{ls:List Nat}{x:κ.F}(h:Ech R n n ls x)(full:ls.length=n){i j:Nat}(hi:i<n)(hj:j<n):ent R i j=if i=j then x else 0:=by
  have ge:∀k,k<n->k<=ls.getD k 0:=by
    intro k
    induction k with
    | zero=>intro _; omega
    | succ k ih=>intro hk; have:=h.inc k (k+1) (by omega) (by omega); have:=ih (by omega); omega
  have le:∀d k,k+d+1=n->ls.getD k 0<=k:=by
    intro d
    induction d with
    | zero=>intro k hk; have:=h.lt k (by omega); omega
    | succ d ih=>intro k hk; have:=h.inc k (k+1) (by omega) (by omega); have:=ih (k+1) (by omega); omega
  have eq:ls.getD j 0=j:=by have:=ge j hj; have:=le (n-j-1) j (by omega); omega
  have:=h.col j (by omega) i hi
  rw[eq] at this
  exact this
theorem ZlW{R0:List (List κ.F)}{n:Nat}{ls:List Nat}{x:κ.F}{ts:List (Tn κ)}(n1:1<=n)(hn:R0.length=n)(wd:Wid n R0)(ok:∀t∈ts,t.ok n)(h:Ech (Zgo ts R0) n n ls x)(full:ls.length=n)(sc:scF ts=pwr x (n-1)):det n (ent R0)=sgn κ (swN ts)*x:=by
  have d1:=Ze7 hn wd ok
  rw[Ze6 (λi j hj hi=>by rw[Zgc h full hi (by omega),if_neg (by omega)]),Zmv (λi hi=>by rw[Zgc h full hi hi,if_pos rfl]),ZoJ,sc] at d1
  obtain ⟨m,rfl⟩:∃m,n=m+1:=⟨n-1,by omega⟩
  rw[Nat.add_sub_cancel] at d1
  have px:pwr x m≠0:=by
    have:∀k,pwr x k≠0:=λk=>by
      induction k with
      | zero=>exact λz=>Fd.zne z.symm
      | succ k ih =>
        intro z
        have z:pwr x k*x=0:=z
        have h1:=Fd.mul_inv x h.x0
        apply ih
        have:pwr x k=pwr x k*x*Fd.inv x:=by
          generalize Fd.inv x=y at *
          generalize pwr x k=w at *
          grind
        rw[this,z]
        grind
    exact this m
  have d1:pwr x m*x=sgn κ (swN ts)*pwr x m*det (m+1) (ent R0):=d1
  have sq:=sgn_sq (κ:=κ) (swN ts)
  have hi:=Fd.mul_inv _ px
  generalize Fd.inv (pwr x m)=y at *
  generalize sgn κ (swN ts)=s at *
  generalize pwr x m=w at *
  generalize det (m+1) (ent R0)=d at *
  have e1:y*(w*x)=y*(s*w*d):=by rw[d1]
  have e2:x=s*d:=by grind
  rw[e2]
  have:s*(s*d)=s*s*d:=by grind
  rw[this,sq]
  grind
theorem ZlX{R0:List (List κ.F)}{n:Nat}{ls:List Nat}{x:κ.F}{ts:List (Tn κ)}(hn:R0.length=n)(wd:Wid n R0)(ok:∀t∈ts,t.ok n)(h:Ech (Zgo ts R0) n n ls x)(less:ls.length<n):det n (ent R0)=0:=by
  have d1:=Ze7 hn wd ok
  have z:det n (ent (Zgo ts R0))=0:=by
    have r:∀j,j<n->ent (Zgo ts R0) (n-1) j=0:=λj hj=>h.low (n-1) (by omega) (by omega) j hj
    have e:det n (ent (Zgo ts R0))=det n (ZaC (ent (Zgo ts R0)) (n-1) λj=>0*ent (Zgo ts R0) (n-1) j):=Zax λi j hi hj=>by
      unfold ZaC
      by_cases q:i=n-1
      · rw[if_pos q,q,r j hj]; grind
      · rw[if_neg q]
    rw[e,ZdD 0 (by omega)]
    grind
  rw[z] at d1
  have ne:Zdh ts≠0:=by
    have:∀ts:List (Tn κ),(∀t∈ts,t.ok n)->Zdh ts≠0:=λts=>by
      induction ts with
      | nil=>exact λ_ z=>Fd.zne z.symm
      | cons t ts ih =>
        intro ok z
        have z:Zf9 t*Zdh ts=0:=z
        have i1:=ih λt' h'=>ok t' (by simp[h'])
        have f0:Zf9 t≠0:=by
          have o:=ok t (by simp)
          cases t with
          | swap i j =>
            intro q
            have q:(0:κ.F)-1=0:=q
            exact Fd.zne (α:=κ.F) (by grind)
          | scale i c=>exact o.2
          | add i j c=>exact λq=>Fd.zne q.symm
        have m1:=Fd.mul_inv _ f0
        apply i1
        have:Zdh ts=Zf9 t*Zdh ts*Fd.inv (Zf9 t):=by
          generalize Fd.inv (Zf9 t)=y at *
          generalize Zf9 t=w at *
          generalize Zdh ts=v at *
          grind
        rw[this,z]; grind
    exact this ts ok
  have m1:=Fd.mul_inv _ ne
  have:det n (ent R0)=Zdh ts*det n (ent R0)*Fd.inv (Zdh ts):=by
    generalize Fd.inv (Zdh ts)=y at *
    generalize Zdh ts=w at *
    generalize det n (ent R0)=v at *
    grind
  rw[this,<-d1]
  grind
end
end My
namespace My
open PySem L2 PyProof.Rows Rg
section
variable{κ:KX}
noncomputable def ZpZ(f v:Nat->κ.F):Nat->κ.F
  | 0=>0
  | m+1=>ZpZ f v m+f m*v m
theorem Zgd{l:List Nat}{k:Nat}(h:k<l.length):l.getD k 0=l[k]:=by rw[Q4,Q5 h]; rfl
theorem Ech.pw{R:List (List κ.F)}{n m:Nat}{ls:List Nat}{x:κ.F}(h:Ech R n m ls x):ls.Pairwise (· < ·) :=
  List.pairwise_iff_getElem.mpr λi j hi hj l=>by have:=h.inc i j l hj; rw[Zgd hi,Zgd hj] at this; exact this
end
end My
namespace My
open PySem L2 PyProof.Rows Rg
inductive ZbK (vs:List V) (H:Hp) (Q:VK) (zE:XK):Prop
  | mk (κ:KX) (t:Int) (x:κ.F) (_:vs=[.int κ.P,.int t]) (_:NumV κ t x) (_:∀H' v,Same H H'->NR κ H' v x->Q v H'):ZbK vs H Q zE
theorem ZnD{κ:KX}{t:Int}(h:t.natAbs<=10^140):∃x:κ.F,NumV κ t x:=by
  cases κ with
  | q=>exact ⟨(t:Rat),rfl,rfl⟩
  | r p hp =>
    have h2:=hp.two
    have e0:=U2 t (show (p:Int)≠0 by omega)
    have e1:=Ue t (show 0<(p:Int) by omega)
    exact ⟨(⟨(t%p).toNat,by omega⟩:Fin p),h,by show (((t%p).toNat:Nat):Int)=_; omega⟩
theorem ZkA{κ:KX}{t:Int}{x:κ.F}{a:Nat}(h:NumV κ t x)(ht:Bits a t):QS κ 1 a x:=by
  cases κ with
  | r p hp=>exact trivial
  | q =>
    refine ⟨t,?_,ht⟩
    rw[<-Qo x,h.1,h.2]; rfl
end My
namespace My
open PySem L2 PyProof.Rows Rg
structure LeadsOk (n m:Nat) (ls:List Nat):Prop where
  len:ls.length<=n
  pw:ls.Pairwise (· < ·)
  lt:∀x∈ls,x<m
theorem LeadsOk.inc{n m:Nat}{ls:List Nat}(h:LeadsOk n m ls){k k':Nat}(hk:k<k')(hk':k'<ls.length):ls.getD k 0<ls.getD k' 0:=by
  rw[Zgd (by omega),Zgd hk']
  exact List.pairwise_iff_getElem.mp h.pw k k' (by omega) hk' hk
section
variable{κ:KX}
def QM(κ:KX)(D:Int)(M:Nat)(x:κ.F):Prop:=match κ with
  | .q=>∃X:Int,x=Rat.divInt X D/\X.natAbs<=M
  | .r _ _=>True
theorem QM.qs{D:Int}{M a:Nat}{x:κ.F}(h:QM κ D M x)(hM:M<2^a):QS κ D a x:=by
  cases κ with
  | r p hp=>exact trivial
  | q=>obtain ⟨X,e,l⟩:=h; exact ⟨X,e,Bits.of (Qk l hM)⟩
theorem QM.mono{D:Int}{M N:Nat}{x:κ.F}(h:QM κ D M x)(l:M<=N):QM κ D N x:=by
  cases κ with
  | r p hp=>exact trivial
  | q=>obtain ⟨X,e,hX⟩:=h; exact ⟨X,e,Q2 hX l⟩
theorem QM.mul{D E:Int}{M N:Nat}{x y:κ.F}(h:QM κ D M x)(g:QM κ E N y):QM κ (D*E) (M*N) (x*y):=by
  cases κ with
  | r p hp=>exact trivial
  | q =>
    obtain ⟨X,rfl,hX⟩:=h
    obtain ⟨Y,rfl,hY⟩:=g
    exact ⟨X*Y,Wm _ _,by rw[Qs]; exact W9 hX hY⟩
theorem QM.add{D:Int}(hD:0<D){M N:Nat}{x y:κ.F}(h:QM κ D M x)(g:QM κ D N y):QM κ D (M+N) (x+y):=by
  cases κ with
  | r p hp=>exact trivial
  | q =>
    obtain ⟨X,rfl,hX⟩:=h
    obtain ⟨Y,rfl,hY⟩:=g
    refine ⟨X+Y,?_,Q2 (Int.natAbs_add_le X Y) (Nat.add_le_add hX hY)⟩
    show Rat.divInt X D+Rat.divInt Y D=_
    rw[Ug _ _ (by omega) (by omega),W5 (Wv (Qm hD hD)) (by omega),<-Uo,Qi]
theorem QM.zero{D:Int}{M:Nat}:QM κ D M 0:=by
  cases κ with
  | r p hp=>exact trivial
  | q=>exact ⟨0,(Rat.zero_divInt D).symm,Qd _⟩
theorem QM.up{D E:Int}(hD:0<D)(hE:0<E){M e:Nat}{x:κ.F}(h:QM κ D M x)(bE:E.natAbs<=e):QM κ (D*E) (M*e) x:=by
  cases κ with
  | r p hp=>exact trivial
  | q =>
    obtain ⟨X,rfl,hX⟩:=h
    refine ⟨X*E,?_,by rw[Qs]; exact W9 hX bE⟩
    rw[W5 (by omega) (Wv (Qm hD hE)),Qi,Qn D E]
theorem Zqx{t b:Int}{N:Nat}(h0:1<=b)(h:b<=6)(ht:t.natAbs<=N):QM .q 60 (N*60) (Rat.divInt t b):=by
  obtain ⟨e,he⟩:=ZpA h0 h
  have e1:0<e:=by
    rcases Int.lt_or_le 0 e with c | c
    · exact c
    · have:b*e<=0:=Int.mul_nonpos_of_nonneg_of_nonpos (by omega) c
      omega
  have e2:e<=60:=by
    have:1*e<=b*e:=Int.mul_le_mul_of_nonneg_right h0 (by omega)
    omega
  refine ⟨t*e,?_,by rw[Qs]; exact W9 ht (by omega)⟩
  show Rat.divInt t b=_
  rw[W5 (by omega) (by decide),he,Qn b e,Qi]
def T3:Tn κ->Prop
  | .swap _ _=>True
  | .scale _ c=>∃d:Int,(d=1\/d=2\/d=3)/\QM κ d 3 c
  | .add _ _ c=>QM κ 1 2 c
theorem ZnE{D:Int}(hD:0<D){M:Nat}{t:Tn κ}{R:List (List κ.F)}(ht:T3 t)(h:AllR (QM κ D M) R):∃D':Int,0<D'/\D'<=D*3/\AllR (QM κ D' (M*3)) (doT t R):=by
  have comm:∀x y:κ.F,x*y=y*x:=by intro x y; grind
  cases t with
  | swap i j =>
    have u:AllR (QM κ D (M*3)) R:=λf hf x hx=>(h f hf x hx).mono (by omega)
    exact ⟨D,hD,by omega,(u.set (u.getD _)).set (u.getD _)⟩
  | scale i c =>
    obtain ⟨d,hd,qc⟩:=ht
    have d0:0<d/\d.natAbs<=3/\d<=3:=by omega
    have u:AllR (QM κ (D*d) (M*3)) R:=λf hf x hx=>(h f hf x hx).up hD d0.1 d0.2.1
    refine ⟨D*d,Qm hD d0.1,Ub d0.2.2 (by omega),u.set λx hx=>?_⟩
    obtain ⟨y,hy,rfl⟩:=W0.mp hx
    have:=QM.mul (h.getD _ y hy) qc
    rw[comm y c] at this
    exact this
  | add i j c =>
    have u:AllR (QM κ D (M*3)) R:=λf hf x hx=>(h f hf x hx).mono (by omega)
    refine ⟨D,hD,by omega,u.set λx hx=>?_⟩
    obtain ⟨p,hp,v,hv,rfl⟩:=ZeZ hx
    obtain ⟨y,hy,rfl⟩:=W0.mp hv
    have q:=QM.mul (h.getD _ y hy) (show QM κ 1 2 c from ht)
    rw[comm y c,Wo] at q
    exact ((h.getD _ p hp).add hD q).mono (by omega)
theorem ZoK{D:Int}(hD:0<D)(bD:Bits 3000 D){M:Nat}(hM:M<2^1000){t:Tn κ}{R:List (List κ.F)}(ht:T3 t)(h:AllR (QM κ D M) R):t.pre R:=by
  have b:∀ {x:κ.F},QM κ D M x->B1 κ x:=λs=>(s.qs hM).b1 hD (bD.up (by decide)) (by decide)
  have small:∀ {d:Int} {N:Nat} {c:κ.F},0<d->d<=3->N<=3->QM κ d N c->B1 κ c:=λd0 d3 n3 s=>(s.qs (a:=2) (by omega)).b1 d0 (Bits.of (Q6 (show _<2^2 by omega) (Qe (by decide) (by decide)))) (by decide)
  cases t with
  | swap i j=>trivial
  | scale i c =>
    obtain ⟨d,hd,qc⟩:=ht
    exact ⟨small (by omega) (by omega) (Q1 3) qc,λx hx=>b (h.getD _ x hx)⟩
  | add i j c =>
    have qc:QM κ 1 2 c:=ht
    refine ⟨small (by decide) (by decide) (by decide) qc,λx hx=>b (h.getD _ x hx),λy hy=>⟨b (h.getD _ y hy),?_⟩⟩
    refine ((QM.mul qc (h.getD _ y hy)).qs (a:=1002) ?_).b1 (by omega) (by rw[Ud]; exact bD.up (by decide)) (by decide)
    have:2*M<2*2^1000:=by omega
    exact Q6 this (by rw[show (1002:Nat)=1000+2 from rfl,Um]; omega)
def SzM(κ:KX)(N p:Nat)(R:List (List κ.F)):Prop:=∃D:Int,0<D/\D<=60*3^p/\AllR (QM κ D (N*3^p)) R
theorem SzM.step{N p:Nat}{t:Tn κ}{R:List (List κ.F)}(h:SzM κ N p R)(ht:T3 t):SzM κ N (p+1) (doT t R):=by
  obtain ⟨D,hD,l,al⟩:=h
  obtain ⟨D',h0,l',al'⟩:=ZnE hD ht al
  refine ⟨D',h0,?_,?_⟩
  · rw[Int.pow_succ,<-Qi]; omega
  · rw[Wc,<-W8]; exact al'
theorem ZoL{p:Nat}(h:p<=64):3^p<=3^64:=Qe (by decide) h
theorem SzM.bits{N p:Nat}{R:List (List κ.F)}(h:SzM κ N p R)(hp:p<=64)(hN:N<=10^50):∃D:Int,0<D/\Bits 120 D/\AllR (QM κ D (N*3^p)) R/\N*3^p<2^290:=by
  obtain ⟨D,hD,l,al⟩:=h
  have e:(60*3^p:Int)=((60*3^p:Nat):Int):=by rw[Wl,Int.natCast_pow]; rfl
  rw[e] at l
  have:=ZoL hp
  refine ⟨D,hD,Bits.of (Qk (show D.natAbs<=60*3^64 by omega) (by decide)),al,?_⟩
  exact Qk (W9 hN this) (by decide)
theorem SzM.pre{N p:Nat}{t:Tn κ}{R:List (List κ.F)}(h:SzM κ N p R)(hp:p<=64)(hN:N<=10^50)(ht:T3 t):t.pre R:=by
  obtain ⟨D,hD,bD,al,lM⟩:=h.bits hp hN
  exact ZoK hD (bD.up (by decide)) (Q6 lM (Qe (by decide) (by decide))) ht al
structure RowP (Pr:κ.F->Prop) (ls:List Nat) (m i:Nat) (f:List κ.F):Prop where
  len:f.length=m
  out:ls.length<=i->∀j<m,f.getD j 0=0
  one:i<ls.length->f.getD (ls.getD i 0) 0=1
  pre:i<ls.length->∀j<ls.getD i 0,f.getD j 0=0
  nil:i<ls.length->∀k<ls.length,k≠i->f.getD (ls.getD k 0) 0=0
  sz:∀x∈f,Pr x
theorem ZkB{f:List κ.F}{i j:Nat}{x:κ.F}(h:i<f.length):(f.set i x).getD j 0=if j=i then x else f.getD j 0:=by
  rw[Q4,Wu]
  by_cases e:j=i
  · subst e
    rw[if_pos rfl,if_pos h,if_pos rfl]; rfl
  · rw[if_neg (Ne.symm e),if_neg e,Q4]
theorem ZkC(m j:Nat):(List.replicate m (0:κ.F)).getD j 0=0:=by
  rw[Q4,List.getElem?_replicate]
  split <;> rfl
theorem qm_one:QM κ 60 60 1:=by
  cases κ with
  | r p hp=>exact trivial
  | q=>exact ⟨60,(Rat.divInt_self' (show (60:Int)≠0 by decide)).symm,Q1 60⟩
end
inductive ZcG (vs:List V) (H:Hp) (Q:VK) (zE:XK):Prop
  | mk (κ:KX) (c:Int) (_:vs=[.int κ.P,.int c]) (_:∀H' v (x:κ.F),Same H H'->NR κ H' v x->x≠0->(∃d:Int,(d=1\/d=2\/d=3)/\QM κ d 3 x)->Q v H'):ZcG vs H Q zE
inductive Zdi (vs:List V) (H:Hp) (Q:VK) (zE:XK):Prop
  | mk (κ:KX) (c:Int) (n:Nat) (_:vs=[.int κ.P,.int c,.int (n:Int)]) (_:1<=n) (_:n<=7) (_:∀H' v (t:Tn κ),Same H H'->TR κ H' v t->t.ok n->T3 t->Q v H'):Zdi vs H Q zE
end My
namespace My
open PySem L2 PyProof.Rows Rg
end My
namespace My
open PySem L2 PyProof.Rows Rg
def ZnF(κ:KX):Nat:=match κ with
  | .q=>4
  | .r _ _=>7
theorem Zo8(κ:KX):1<=ZnF κ/\ZnF κ<=7/\(κ = .q->ZnF κ<=4):=by
  cases κ with
  | q=>exact ⟨by decide,by decide,λ_=>Q1 4⟩
  | r p hp=>exact ⟨by show 1<=7; decide,Q1 7,λz=>nomatch z⟩
noncomputable def ZqF{κ:KX}(f g:List κ.F):κ.F:=ZpZ (λi=>f.getD i 0) (λi=>g.getD i 0) f.length
end My
namespace L2
open PySem PySem.Spec PyProof.Rows
section
variable{X:Cx}
end
end L2
namespace L2
open PySem PySem.Spec PyProof.Rows
section
variable{X:Cx}
def ipM:TIp:=λx y H Q=>∃i j,x = .int i/\y = .int j/\IntMulOk i j/\Q (.int (i*j)) H
theorem ZnG:PIp X .Mult ipM:=by
  intro pins s σ H x y v u Q I r1 r2 h
  obtain ⟨i,j,e1,e2,hm,q⟩:=h
  subst e1; subst e2
  obtain ⟨t,rfl⟩:=r1
  obtain ⟨t',rfl⟩:=r2
  exact PyProof.Rows.imul_int ⟨.int _,H,I.tok _,⟨_,rfl⟩,q⟩ hm
end
end L2
namespace My
open PySem L2 PyProof.Rows Rg
section
variable{κ:KX}
theorem ZlY:κ.mulF (K1 κ) (K1 κ)=K1 κ:=by show (1:κ.F)*1=1; grind
structure Bt (κ:KX) (b:Int) (y:κ.F) (k:Nat):Prop where
  n:NumV κ b y
  p:0<b
  l:Bits k b
  r:κ ≠ .q->b=1
  ne:y≠0
theorem ZlZ{b A:Int}{y x:κ.F}(h:NumV κ b y)(g:NumV κ A x)(hr:κ ≠ .q->b=1)(gr:κ ≠ .q->A=1):NumV κ (b*A) (κ.mulF y x):=by
  cases κ with
  | r p hp =>
    have b1:=hr (λz=>nomatch z)
    have a1:=gr (λz=>nomatch z)
    subst b1 a1
    have ey:y=K1 (.r p hp):=h.uniq ZcZ
    have ex:x=K1 (.r p hp):=g.uniq ZcZ
    subst ey ex
    rw[ZlY]
    exact ZcZ
  | q =>
    have ey:y=((b:Int):Rat):=Rat.ext h.1 h.2
    have ex:x=((A:Int):Rat):=Rat.ext g.1 g.2
    subst ey ex
    show Rat.num (((b:Int):Rat)*((A:Int):Rat))=b*A/\Rat.den (((b:Int):Rat)*((A:Int):Rat))=1
    rw[<-Rat.intCast_mul]
    exact ⟨rfl,rfl⟩
theorem Bt.mul{b A:Int}{y x:κ.F}{k l:Nat}(h:Bt κ b y k)(g:Bt κ A x l):Bt κ (b*A) (y*x) (k+l):=by
  refine ⟨ZlZ h.n g.n h.r g.r,Qm h.p g.p,h.l.times g.l,λz=>by rw[h.r z,g.r z]; rfl,λz=>?_⟩
  have m:=Fd.mul_inv x g.ne
  apply h.ne
  have:y=y*x*Fd.inv x:=by
    generalize Fd.inv x=w at *
    grind
  rw[this,z]; grind
def SzD(κ:KX)(A:List (List κ.F)):Prop:=κ = .q->A.length<=4/\∃(D:Int) (M:Nat),0<D/\Bits 180 D/\M<2^290/\AllR (QM κ D M) A
theorem ZoM{f:List κ.F}{A B:Int}(hB:0<B)(bB:Bits 180 B)(hA:Znx κ f A)(hf:∀x∈f,QS κ B 300 x):∃xA:κ.F,Bt κ A xA 180/\B1s κ xA/\∀x∈f,QS κ 1 300 (xA*x):=by
  obtain ⟨xA,nv,x0,b1,_,qA⟩:=Zku hB (by decide) bB hA hf
  refine ⟨xA,⟨nv,?_,?_,?_,x0⟩,b1,qA⟩
  · cases κ with
    | q=>exact hA.1
    | r p hp=>have:A=1:=hA; omega
  · cases κ with
    | q =>
      have dv:=hA.2.2 B λx hx=>QS.dv hB (hf x hx)
      exact bB.le (by have:=Uq hB dv; have:=hA.1; omega)
    | r p hp =>
      have:A=1:=hA
      rw[this]; exact Bits.of (by decide)
  · cases κ with
    | q=>exact λz=>absurd rfl z
    | r p hp=>exact λ_=>hA
theorem ZkD{f:List κ.F}{A:Int}(h:∀x∈f,QS κ 1 300 x)(hA:Znx κ f A):A=1:=by
  cases κ with
  | r p hp=>exact hA
  | q =>
    have d:A ∣ 1:=hA.2.2 1 λx hx=>by
      obtain ⟨X,e,_⟩:=h x hx
      rw[e]
      have:(Rat.divInt X 1)=((X:Int):Rat):=by rw[<-Qo ((X:Int):Rat)]; rfl
      rw[this]
      exact Int.dvd_refl 1
    have:=Uq (by decide) d
    have:=hA.1
    omega
noncomputable def pOc(c:Nat->κ.F):Nat->κ.F
  | 0=>1
  | n+1=>pOc c n*c n
theorem ZcV{n:Nat}{a b:Nat->Nat->κ.F}{c:Nat->κ.F}:∀k,k<=n->(∀i j,i<n->j<n->b i j=if i<k then c i*a i j else a i j)->det n b=pOc c k*det n a
  | 0,_,h=>by
    rw[Zax (a:=b) (b:=a) λi j hi hj=>by rw[h i j hi hj,if_neg (by omega)]]
    show _=1*_; grind
  | k+1,hk,h=>by
    have ih:=ZcV (n:=n) (a:=a) (b:=λi j=>if i<k then c i*a i j else a i j) (c:=c) k (by omega) λi j _ _=>rfl
    have e:det n b=det n (ZaC (λi j=>if i<k then c i*a i j else a i j) k λj=>c k*(λi j=>if i<k then c i*a i j else a i j) k j):=Zax λi j hi hj=>by
      rw[h i j hi hj]
      unfold ZaC
      by_cases q:i=k
      · rw[if_pos q,if_pos (by omega)]
        show _=c k*(if k<k then c k*a k j else a k j)
        rw[if_neg (by omega),q]
      · rw[if_neg q]
        show _=if i<k then c i*a i j else a i j
        by_cases q2:i<k
        · rw[if_pos q2,if_pos (by omega)]
        · rw[if_neg q2,if_neg (by omega)]
    rw[e,ZdD _ (by omega),ih]
    show _=pOc c k*c k*_
    grind
end
end My
namespace My
open PySem L2 PyProof.Rows Rg
inductive ZdE (CF CR:Addr) (vs:List V) (H:Hp) (Q:VK) (zE:XK):Prop
  | mk (κ:KX) (s tb:Addr) (rs:List Addr) (A:List (List κ.F)) (m:Nat) (_:vs=[.ref s,.ref tb]) (_:KdX CF CR κ H s) (_:H tb=some (.lst (rs.map V.ref))) (_:RowsX κ H rs A) (_:Wid m A) (_:A.length<=7) (_:m<=7) (_:SzD κ A) (_:∀(H':Hp) (tp D:Addr) (ds:List Addr) (F:List (List κ.F)) (b:Int) (y:κ.F) (c:Nat->κ.F),Same H H'->H' tp=some (.tup [.ref D,.int b])->H' D=some (.lst (ds.map V.ref))->RowsX κ H' ds F->Wid m F->F.length=A.length->(∀f∈F,∀x∈f,QS κ 1 300 x)->Bt κ b y 1300->(∀i j,i<A.length->j<m->ent F i j=c i*ent A i j)->y=pOc c A.length->Q (.ref tp) H'):ZdE CF CR vs H Q zE
inductive ZcW (vs:List V) (H:Hp) (Q:VK) (zE:XK):Prop
  | mk (n:Nat) (_:vs=[.int (n:Int)]) (_:Q (.int (if n%2=0 then 1 else -1)) H):ZcW vs H Q zE
end My
namespace My
open PySem L2 PyProof.Rows Rg
section
variable{P:Program}{w:World}{K:PySem.W.Frag}{mg:Str->Option Value}{base:Heap}{CF CR:Addr}
theorem sc_freed:FnScope ["kind", "table", "rows", "bottom", "row", "factor"] ["kind", "table"] (Zah Zhq):=⟨rfl,rfl,rfl,by decide +kernel,rfl,by decide +kernel,by decide +kernel⟩
theorem Zl0(h:Here K mg "freed" Zhq) (mn:ZbO P w K mg base CF CR) (mo:ZhI P w K mg base CF CR) (h_scaled_row:Has P w K mg base "scaled_row" 3 ["kind", "number", "row"] (Zbs CF CR)):Has P w K mg base "freed" 4 ["kind", "table"] (ZdE CF CR):=by
  refine h.has (λf fd F=>F.binds λ_ _ _ _ _ _ us hl=>by obtain ⟨_,_,rfl⟩:=Zed hl; exact rfl) λf fd F=>F.ok sc_freed (λvs H Q E h=>?_) (λcdv A outer s H vs Q E hr h=>?_)
  · obtain ⟨_,_,_,_,_,_,rfl,_⟩:=h
    rfl
  obtain ⟨κ,sk,tb,rs,A,m,rfl,hk,hT,rx,wd,n7,m7,sz,k⟩:=h
  have nd:=sc_freed.nd
  refine ⟨_,(Zab (Zaj (i:=2) nd rfl (Or.inl rfl) (Zb9 Zad))
    (Zab (Zaj (i:=3) nd rfl (Or.inl rfl) Zac)
    (Zab (Za7 PassesOwn.never rfl (Zbi (pv 1)) (Zat (i:=4) nd rfl (Or.inl rfl)) (Zab (Zaj (i:=5) nd rfl (Or.inl rfl) (ZaK (pv 0) hr (Zaa (pv 4) Zad)))
      (Zab (ZaO (ZfD PySem.F.plainAttrs_list PySem.F.slot_list_append PySem.F.type_list_append Zbc (pv 2) (Zaa (Zao h_scaled_row hr (by rfl) (Zaa (pv 0) (Zaa (ZaH (pv 0) ZcY hr (Zaa (pv 5) Zad)) (Zaa (pv 4) Zad)))) Zad)))
      (Zaf (Zjp (i:=3) nd rfl (Or.inl rfl) (pv 5) ZnG)))))
    (Zaf (Zam (ZaB (Zaa (pv 2) (Zaa (pv 3) Zad)))))))),?_⟩
  have lr:=rx.1
  obtain ⟨B,hB,bB,qB⟩:∃B:Int,0<B/\Bits 180 B/\∀f∈A,∀x∈f,QS κ B 300 x:=by
    cases κ with
    | r p hp=>exact ⟨1,by decide,Bits.of (by decide),λ_ _ _ _=>trivial⟩
    | q =>
      obtain ⟨_,D,M,hD,bD,lM,al⟩:=sz rfl
      exact ⟨D,hD,bD,λf hf x hx=>((al f hf x hx).qs lM).mono (by decide)⟩
  refine ⟨(by show 0<=sizeLine; decide),λD nD=>?_⟩
  have SD:=Zag nD (.lst [])
  have qD:=Zae (H:=H) (a:=D) (o:=.lst [])
  generalize upd H D (.lst [])=H1 at *
  refine ⟨_,rfl,tb,rfl,⟨_,SqL.of (SD _ _ hT)⟩,?_⟩
  refine Zfz (xs:=rs.map V.ref) (λi σ H2=>∃(z4 z5:Option V) (ds:List Addr) (F:List (List κ.F)) (b:Int) (y:κ.F) (c:Nat->κ.F),σ=[some (.ref sk),some (.ref tb),some (.ref D),some (.int b),z4,z5]/\Same H H2/\H2 D=some (.lst (ds.map V.ref))/\D∉ds/\RowsX κ H2 ds F/\Wid m F/\F.length=i/\(∀f∈F,∀x∈f,QS κ 1 300 x)/\Bt κ b y (180*i+1)/\(∀i' j,i'<i->j<m->ent F i' j=c i'*ent A i' j)/\y=pOc c i) ⟨_,_,[],[],1,1,λ_=>1,rfl,SD,qD,(λz=>nomatch z),.nil,(λf hf=>nomatch hf),rfl,(λf hf=>nomatch hf),⟨ZcZ,by decide,Bits.of (by decide),λ_=>rfl,λz=>Fd.zne z.symm⟩,(λi' j h=>by omega),rfl⟩ ?_ ?_ ?_
  · rintro i σ H2-⟨z4,z5,ds,F,b,y,c,rfl,S2,-⟩
    exact SqL.of (S2 _ _ hT)
  · rintro i x σ H2 hx ⟨z4,z5,ds,F,b,y,c,rfl,S2,hD,nin,rF,wF,lF,qF,bt,eF,ey⟩
    obtain ⟨ra,hra,rfl⟩:=ZaT hx
    obtain ⟨f,hf⟩:=ZaL hra lr
    obtain ⟨xs,hxs,al⟩:=rx.2 i ra f hra hf
    have hi:i<A.length:=(Qf.mp hf).1
    have mf:=Q9 hf
    have lf:=wd f mf
    have hk2:=hk.same S2
    obtain ⟨C',dx',fs',ps',dvs',sp',d1,d2,d3,d4,rfl,d5⟩:=mo κ H2 sk hk2
    obtain ⟨C,dx,fs,ps,dvs,sp,c1,c2,c3,c4,rfl,c5⟩:=mn κ H2 sk hk2
    refine ⟨_,rfl,sk,C',dx',fs',ps',_,sp',rfl,d1,d2,d3.mono (by decide),d4,_,rfl,d5 ra xs f B _ (S2 _ _ hxs) (al.mono λ_ _ n=>n.same S2) hB (bB.up (by decide)) (λx hx=>QS.dv hB (qB f mf x hx)) λAi hA=>?_⟩
    obtain ⟨xA,btA,b1,qA⟩:=ZoM hB bB hA (qB f mf)
    refine ⟨_,rfl,.inl ⟨rfl,_,SqL.of hD⟩,?_⟩
    refine ⟨_,rfl,_,rfl,sk,C,dx,fs,ps,_,sp,rfl,c1,c2,c3.mono (by decide),c4,_,rfl,c5 H2 Ai xA _ _ (Same.refl _) btA.n λv H3 S3 nv=>?_⟩
    have S03:=S2.trans S3
    refine ⟨_,rfl,κ,sk,ra,v,xA,xs,f,rfl,hk.same S03,nv,S03 _ _ hxs,al.mono (λ_ _ n=>n.same S03),b1.b1,(λx hx=>(qB f mf x hx).b1 hB (bB.up (by decide)) (by decide)),by omega,λH4 D4 ws S4 nD4 hD4 e4=>?_⟩
    have S24:=S3.trans S4
    have hDx:=S24 _ _ hD
    have nD4D:D4≠D:=λz=>by rw[z,S3 _ _ hD] at nD4; cases nD4
    refine ⟨D,_,_,rfl,rfl,hDx,Q6 (show (ds.map V.ref).length<1000 by rw[Q0,rF.1]; omega) (by decide),?_⟩
    have O5:Off [D] H4 (upd H4 D (.lst (ds.map V.ref++[.ref D4]))):=Zay (Same.refl H4)
    refine ⟨_,rfl,_,rfl,b,Ai,rfl,rfl,(bt.l.up (by omega)).mulT (btA.l.up (by decide)),?_⟩
    refine ⟨_,_,ds++[D4],F++[f.map (xA * ·)],b*Ai,y*xA,λi'=>if i'=i then xA else c i',rfl,Off.same O5 (S2.trans S24) (λz hz=>by rw[Q3.mp hz]; exact nD),by rw[Zae,Qr]; rfl,λz=>?_,((rF.same S24).off nin hDx O5).snoc (O5 _ _ (λz=>nD4D (Q3.mp z)) hD4) (e4.mono λ_ _ n=>n.off hDx O5),λf' hf'=>?_,by rw[Qc,lF]; rfl,λf' hf' x hx=>?_,?_,λi' j hi' hj=>?_,?_⟩
    · rcases Qu.mp z with q | q
      · exact nin q
      · exact nD4D (Q3.mp q).symm
    · rcases Qu.mp hf' with q | q
      · exact wF f' q
      · rw[Q3.mp q,Q0]; exact lf
    · rcases Qu.mp hf' with q | q
      · exact qF f' q x hx
      · rw[Q3.mp q] at hx
        obtain ⟨x0,h0,rfl⟩:=W0.mp hx
        exact qA x0 h0
    · have:=bt.mul btA
      exact ⟨this.n,this.p,this.l.up (by omega),this.r,this.ne⟩
    · show ent (F++[f.map (xA * ·)]) i' j=(if i'=i then xA else c i')*ent A i' j
      unfold ent
      by_cases e:i'=i
      · rw[if_pos e,e,show (F++[f.map (xA * ·)]).getD i []=f.map (xA * ·) by rw[Q4,W3 (by omega),lF,U3]; rfl,show A.getD i []=f by rw[Q4,hf]; rfl,Zf4]
      · rw[if_neg e,show (F++[f.map (xA * ·)]).getD i' []=F.getD i' [] by rw[Q4,W2 (by omega),<-Q4]]
        exact eF i' j (by omega) hj
    · show _=pOc _ i*(if i=i then xA else c i)
      have e:∀k,k<=i->pOc (λi'=>if i'=i then xA else c i') k=pOc c k:=λk=>by
        induction k with
        | zero=>intro _; rfl
        | succ k ih =>
          intro hk
          show pOc _ k*(if k=i then xA else c k)=pOc c k*c k
          rw[ih (by omega),if_neg (by omega)]
      rw[e i (Q1 _),if_pos rfl,ey]
  · rintro σ H2 ⟨z4,z5,ds,F,b,y,c,rfl,S2,hD,nin,rF,wF,lF,qF,bt,eF,ey⟩
    rw[Q0,lr] at lF eF ey bt
    refine ⟨_,rfl,_,rfl,(by show 2<=sizeLine; decide),λtp ntp=>?_⟩
    have St:=Zag ntp (.tup [.ref D,.int b])
    exact k _ tp D ds F b y c (S2.trans St) Zae (St _ _ hD) (rF.same St) wF lF qF ⟨bt.n,bt.p,bt.l.up (by omega),bt.r,bt.ne⟩ eF ey
theorem Zjb:FnScope ["count"] ["count"] (Zah ZeI):=⟨rfl,rfl,rfl,by decide +kernel,rfl,by decide +kernel,by decide +kernel⟩
theorem Zjc(h:Here K mg "sign_of" ZeI):Has P w K mg base "sign_of" 1 ["count"] ZcW:=by
  refine h.has (λf fd F=>F.binds λ_ _ _ _ _ _ us hl=>by obtain ⟨_,rfl⟩:=Zlu hl; exact rfl) λf fd F=>F.ok Zjb (λvs H Q E h=>?_) (λcdv A outer s H vs Q E hr h=>?_)
  · obtain ⟨_,rfl,_⟩:=h
    rfl
  obtain ⟨n,rfl,k⟩:=h
  refine ⟨_,(Zaf (Zam (Zh8 (Zaq Za8 (Zai ZaQ (pv 0) Zac) Zac (Zar _)) Zac (ZdJ Zb8 Zac)))),?_⟩
  refine ⟨_,rfl,_,_,rfl,rfl,(by show (0:Int)<_; decide),rfl,_,rfl,?_⟩
  refine Zbv (λz=>?_) (λz=>?_)
  · have z:(n:Int)%2=0:=z
    rw[if_pos (by omega)] at k
    exact k
  · have z:¬(n:Int)%2=0:=z
    rw[if_neg (by omega)] at k
    exact ⟨_,rfl,k⟩
end
end My
namespace My
open PySem L2 PyProof.Rows Rg
structure TabR (κ:KX) (H:Hp) (a:Addr) (rs:List Addr) (R:List (List κ.F)) (m:Nat):Prop where
  l:H a=some (.lst (rs.map V.ref))
  r:RowsX κ H rs R
  w:Wid m R
  n1:1<=R.length
  n9:R.length<=100
theorem TabR.fst{κ:KX}{H:Hp}{a:Addr}{rs:List Addr}{R:List (List κ.F)}{m:Nat}(h:TabR κ H a rs R m):∃a0 xs,rs[0]?=some a0/\H a0=some (.lst xs)/\xs.length=m:=by
  have n1:=h.n1
  obtain ⟨a0,xs,ha,hx,al⟩:=h.r.get (i:=0) (by omega)
  exact ⟨a0,xs,ha,hx,by rw[al.1]; exact h.w _ (Qp _)⟩
inductive Zcn (vs:List V) (H:Hp) (Q:VK) (zE:XK):Prop
  | mk (κ:KX) (a:Addr) (rs:List Addr) (R:List (List κ.F)) (m:Nat) (_:vs=[.ref a]) (_:TabR κ H a rs R m) (_:Q (.bl (decide (R.length=m))) H):Zcn vs H Q zE
inductive Za2 (cF:Addr) (vs:List V) (H:Hp) (Q:VK) (E:XK):Prop
  | mk (κ:KX) (a:Addr) (rs:List Addr) (R:List (List κ.F)) (m:Nat) (_:vs=[.ref a]) (_:TabR κ H a rs R m) (_:(R.length=m->Q .non H)) (_:(R.length≠m->E (.ref cF) none H)):Za2 cF vs H Q E
end My
namespace My
open PySem L2 PyProof.Rows Rg
section
variable{P:Program}{w:World}{K:PySem.W.Frag}{mg:Str->Option Value}{base:Heap}{CF CR cF cT cI CE fI:Addr}
theorem ZgZ:FnScope ["table"] ["table"] (Zah Zc8):=⟨rfl,rfl,rfl,by decide +kernel,rfl,by decide +kernel,by decide +kernel⟩
theorem Zge(h:Here K mg "is_square" Zc8) (T:Nm mg):Has P w K mg base "is_square" 1 ["table"] Zcn:=by
  refine h.has (λf fd F=>F.binds λ_ _ _ _ _ _ us hl=>by obtain ⟨_,rfl⟩:=Zlu hl; exact rfl) λf fd F=>F.ok ZgZ (λvs H Q E h=>?_) (λcdv A outer s H vs Q E hr h=>?_)
  · obtain ⟨_,_,_,_,_,rfl,_⟩:=h
    rfl
  obtain ⟨κ,a,rs,R,m,rfl,ta,k⟩:=h
  refine ⟨_,(Zaf (Zam (Zbz Za8 (Zas Zan (by rfl) T.len boot_len (Zaa (pv 0) Zad)) (Zas Zan (by rfl) T.len boot_len (Zaa (Zak Zau (pv 0) Zac (λ_ _=>rfl)) Zad)) (Zar _)))),?_⟩
  have lr:=ta.r.1
  obtain ⟨a0,xs,ha,hx,lx⟩:=ta.fst
  refine ⟨_,rfl,a,_,rfl,.inl (SqL.of ta.l),_,rfl,a,_,0,_,rfl,rfl,SqL.of ta.l,Zcr (i:=0) ha,a0,_,rfl,.inl (SqL.of hx),rfl,?_⟩
  rw[Q0,lr,lx]
  have e:decide (V.int (R.length:Int)=V.int (m:Int))=decide (R.length=m):=by
    by_cases z:R.length=m
    · rw[decide_eq_true z,decide_eq_true (by rw[z])]
    · rw[decide_eq_false z,decide_eq_false (λq=>z (by have:=V.int.inj q; omega))]
  rw[e]
  exact k
theorem Zfm:FnScope ["table"] ["table"] (Zah Zci):=⟨rfl,rfl,rfl,by decide +kernel,rfl,by decide +kernel,by decide +kernel⟩
theorem Ze8(h:Here K mg "need_square" Zci) (c_NoFit:ExcC K mg "NoFit" cF) (h_is_square:Has P w K mg base "is_square" 1 ["table"] Zcn):HasX P w K mg base "need_square" 2 ["table"] (Za2 cF):=by
  refine h.hasX (λf fd F=>F.binds λ_ _ _ _ _ _ us hl=>by obtain ⟨_,rfl⟩:=Zlu hl; exact rfl) λf fd F=>F.okx Zfm (λvs H Q E h=>?_) (λcdv A outer s H vs Q E hr h=>?_)
  · obtain ⟨_,_,_,_,_,rfl,_⟩:=h
    rfl
  obtain ⟨κ,a,rs,R,m,rfl,ta,k,kE⟩:=h
  refine ⟨_,(Zaf (ZaF (Zdr (Zdq (Zao h_is_square hr (by rfl) (Zaa (pv 0) Zad)))) (Zaf (Zdt c_NoFit ZgK rfl (by rfl) (Zaa ZaW Zad))) Zav)),?_⟩
  refine ⟨_,rfl,κ,a,rs,R,m,rfl,ta,_,rfl,?_⟩
  refine ZjI (λz=>?_) (λz=>k z)
  exact ⟨(by show 1<=1000; decide),kE z⟩
end
end My
namespace My
open PySem L2 PyProof.Rows Rg
inductive ZbT (vs:List V) (H:Hp) (Q:VK) (zE:XK):Prop
  | mk (s:Addr) (t b:Int) (_:vs=[.ref s,.int t,.int b]) (_:0<b) (_:b.natAbs<=10^1000) (_:∀(r:Addr) (x y:Int),H r=none->Fc x y->x*b=t*y->Q (.ref r) (upd H r (.tup [.int x,.int y]))):ZbT vs H Q zE
def Zet(P:Program)(w:World)(K:PySem.W.Frag)(mg:Str->Option Value)(base:Heap)(CF CR:Addr):Prop :=
  ∀(κ:KX) (H:Hp) (s:Addr),KdX CF CR κ H s->∃C dx fs ps dvs sp,H s=some (.ins C dx fs)/\Cls K C/\HasMX P w K mg base C "number" 3 ps dvs sp/\fs.lookup ("number" : Str)=none/\dvs=[] ∧
    ∀(H':Hp) (t b:Int) (e y:κ.F) (Q:VK) (E:XK),Same H H'->t.natAbs<=1->NumV κ t e->NumV κ b y->y≠0->0<b->b.natAbs<=10^1000->(κ ≠ .q->b=1)->(∀v H'',Same H' H''->NR κ H'' v (e*Fd.inv y)->Q v H'')->sp [.ref s,.int t,.int b] H' Q E
inductive Zdj (CF CR cF:Addr) (vs:List V) (H:Hp) (Q:VK) (E:XK):Prop
  | mk (κ:KX) (s tb:Addr) (rs:List Addr) (A:List (List κ.F)) (m:Nat) (_:vs=[.ref s,.ref tb]) (_:KdX CF CR κ H s) (_:TabR κ H tb rs A m) (_:(A.length≠m->E (.ref cF) none H)) (_:(A.length=m->m<=7/\SzD κ A/\∀H' v,Same H H'->NR κ H' v (det m (ent A))->Q v H')):Zdj CF CR cF vs H Q E
theorem ZnH{κ:KX}{x:κ.F}(h:NumV κ (-1) x):x+1=0:=by
  cases κ with
  | q =>
    have e:x=(-1:Rat):=Rat.ext h.1 h.2
    subst e
    show (-1:Rat)+1=0
    grind
  | r p hp =>
    have h2:=hp.two
    refine Fin.ext ?_
    show (Fin.val x+Fin.val (K1 (.r p hp)))%p=Fin.val (K0 (.r p hp))
    rw[ZhB,ZdA]
    have e:(Fin.val x:Int)=(-1)%p:=h.2
    have e2:((-1:Int))%p=(p:Int)-1:=by
      have:(-1:Int)=((p:Int)-1)+p*(-1):=by omega
      rw[this,Int.add_mul_emod_self_left]
      exact Uf (by omega) (by omega)
    have e3:Fin.val x+1=p:=by omega
    rw[e3,Nat.mod_self]
theorem Ze9{κ:KX}:NumV κ (-1) ((0:κ.F)-1):=by
  obtain ⟨x,hx⟩:=ZnD (κ:=κ) (t:=-1) (by decide)
  have:=ZnH hx
  have e:x=0-1:=by grind
  rw[<-e]; exact hx
theorem ZkE{κ:KX}(n:Nat):NumV κ (if n%2=0 then 1 else -1) (sgn κ n):=by
  rw[Zgb]
  by_cases h:n%2=0
  · rw[if_pos h,if_pos h]; exact ZcZ
  · rw[if_neg h,if_neg h]; exact Ze9
theorem Zd5{κ:KX}{b:Int}{y:κ.F}{n:Nat}(bt:Bt κ b y 1300):B1 κ (sgn κ n*Fd.inv y):=by
  obtain ⟨L,hL,bL,q⟩:=QS.inv (D:=1) (by decide) (show 1<=1300 by decide) (ZkA bt.n bt.l) (show Bits 1 1 from Bits.of (by decide)) bt.ne
  rw[Zgb]
  split
  · have e:(1:κ.F)*Fd.inv y=Fd.inv y:=by generalize Fd.inv y=z; grind
    rw[e]
    exact q.b1 hL (bL.up (by decide)) (by decide)
  · have e:(0-1:κ.F)*Fd.inv y=0-Fd.inv y:=by generalize Fd.inv y=z; grind
    rw[e]
    exact q.neg.b1 hL (bL.up (by decide)) (by decide)
theorem Zl1{κ:KX}{e y:κ.F}(h:y=1):e*Fd.inv y=e:=by
  have h1:y≠0:=λz=>Fd.zne (α:=κ.F) (by rw[<-z,h])
  have m:=Fd.mul_inv y h1
  rw[h] at m ⊢
  generalize Fd.inv (1:κ.F)=w at *
  grind
theorem ZkF{κ:KX}{w e y:κ.F}(hy:y≠0)(h:w*y=e):w=e*Fd.inv y:=by
  have m:=Fd.mul_inv y hy
  rw[<-h]
  generalize Fd.inv y=z at *
  grind
end My
namespace My
open PySem L2 PyProof.Rows Rg
section
variable{P:Program}{w:World}{K:PySem.W.Frag}{mg:Str->Option Value}{base:Heap}{CF CR cN:Addr}
theorem ZhP{tk:Tok}(h:HereD K CF "number" "Fractions.number" ZaM #[.int 1 tk]) (c:ExcC K mg "NoNumber" cN) (h_divisor:Has P w K mg base "divisor" 1 ["one", "other"] ZaU):HasMX P w K mg base CF "number" 2 ["self", "top", "bottom"] [] ZbT:=by
  refine h.hasMX (ds:=[]) .nil (λf fd T F=>F.binds λ_ _ _ _ _ _ us hl=>by obtain ⟨_,_,_,rfl⟩:=Zei (show us.length=3 by simpa using hl); exact ⟨_,rfl,rfl⟩) λf fd T F=>?_
  refine F.okx sc_Fractions_number (λvs H Q E h=>?_) (λcdv A outer s H vs Q E hr h=>?_)
  · obtain ⟨_,_,_,rfl,_⟩:=h
    rfl
  obtain ⟨sf,t,b,rfl,hb,lb,k⟩:=h
  have nd:=sc_Fractions_number.nd
  refine ⟨_,(Zab (ZaF (Zaq Za8 (pv 2) Zac (Zar _)) (Zaf (Zdt c ZgK rfl (by rfl) (Zaa ZaW Zad))) Zav)
    (Zab (Zaj (i:=3) nd rfl (Or.inl rfl) (Zao h_divisor hr (by rfl) (Zaa (pv 1) (Zaa (pv 2) Zad))))
    (Zab (ZaF (Zaq Zhg (pv 2) Zac (Zar _)) (Zaf (Zaj (i:=3) nd rfl (Or.inl rfl) (ZdJ Zb8 (pv 3)))) Zav)
    (Zaf (Zam (ZaB (Zaa (Zai Zel (pv 1) (pv 3)) (Zaa (Zai Zel (pv 2) (pv 3)) Zad)))))))),?_⟩
  refine ⟨_,rfl,rfl,_,rfl,?_⟩
  refine Zbv (λz=>absurd z (by omega)) (λ_=>?_)
  refine ⟨_,rfl,_,rfl,t,b,rfl,?_⟩
  refine ⟨_,rfl,_,_,rfl,rfl,_,rfl,?_⟩
  refine Zcu (λhn=>absurd hn (by omega)) (λhn=>?_)
  have hg:=M3.gcd_ne (a:=t) (b:=b) (by omega)
  have gl:Int.gcd t b<=b.natAbs:=Ww (by omega) (Wx.mpr (Qy t b))
  have hg1:(Int.gcd t b:Int)≠0/\((Int.gcd t b:Int)).natAbs<=10^1000:=⟨by omega,Q2 (show _<=b.natAbs from gl) lb⟩
  obtain ⟨l1,l2,l3,l4,l5⟩:=M3.low (t:=t) hb
  refine ⟨_,rfl,_,rfl,_,_,rfl,rfl,hg1,_,rfl,_,rfl,_,_,rfl,rfl,hg1,(by show 2<=sizeLine; decide),λr hr'=>?_⟩
  exact k r _ _ hr' ⟨l2,l1⟩ l3
end
section
variable{P:Program}{w:World}{K:PySem.W.Frag}{mg:Str->Option Value}{base:Heap}{CF CR cF cN:Addr}
theorem ZkG(kd:Kd K mg CF CR)(hF:HasMX P w K mg base CF "number" 3 ["self", "top", "bottom"] [] ZbT) (hR:HasMX P w K mg base CR "number" 3 ["self", "top", "bottom"] [] (Zbo CR cN)):Zet P w K mg base CF CR:=by
  intro κ H s hk
  cases κ with
  | q =>
    obtain ⟨dx,h⟩:=hk
    refine ⟨CF,dx,[],_,_,_,h,kd.clF,hF,rfl,rfl,λH' t b e y Q E S t1 he hy y0 b0 bl _ k=>⟨s,t,b,rfl,b0,bl,λr x z nr fc ee=>?_⟩⟩
    obtain ⟨v,v1,v2⟩:=ZgW fc
    have ev:v=(e:KX.q.F)*Fd.inv (y:KX.q.F):=by
      refine ZkF (κ:=.q) y0 ?_
      have ey:y=((b:Int):Rat):=Rat.ext hy.1 hy.2
      have et:e=((t:Int):Rat):=Rat.ext he.1 he.2
      have c:∀i:Int,((i:Int):Rat)=Rat.divInt i 1:=λi=>(Qo ((i:Int):Rat)).symm
      show (v*y:Rat)=e
      rw[ey,et,<-Qo v,v1,v2,c,c,Wm,W5 (by have:=fc.pos; omega) (by decide),ee]
      grind
    refine k _ _ (Zag nr _) ⟨r,rfl,?_⟩
    rw[<-ev]
    show upd H' r _ r=some (.tup [.int (v:Rat).num,.int ((v:Rat).den:Int)])
    rw[v1,v2]; exact Zae
  | r p hp =>
    obtain ⟨dx,h⟩:=hk
    have h2:=hp.pr.1
    refine ⟨CR,dx,_,_,_,_,h,kd.clR,hR,Zc3 p (by decide),rfl,λH' t b e y Q E S t1 he hy y0 b0 bl b1 k=>?_⟩
    have b1:=b1 (λz=>nomatch z)
    subst b1
    refine ⟨s,p,t,1,rfl,⟨dx,S _ _ h⟩,hp.pr,by have:=hp.lt; omega,Q2 t1 (by decide),by decide,λz=>?_,λ_ H'' r S' r0 r1 rd=>?_⟩
    · have:=Uq (by decide) z
      omega
    · refine k _ H'' S' ?_
      have ey:y=K1 (.r p hp):=hy.uniq ZcZ
      have em:=Zl1 (κ:=.r p hp) (e:=e) ey
      rw[em]
      show V.int r=V.int ((Fin.val (e:Fin p):Nat):Int)
      have hv:((Fin.val (e:Fin p):Nat):Int)=t%p:=he.2
      rw[hv]
      congr 1
      rw[Wo] at rd
      have e3:r%p=t%p:=Int.emod_eq_emod_iff_emod_sub_eq_zero.mpr (U1 rd)
      rw[Uf r0 r1] at e3
      exact e3
theorem sc_by_steps:FnScope ["kind", "table", "part", "found", "swaps"] ["kind", "table"] (Zah ZdQ):=⟨rfl,rfl,rfl,by decide +kernel,rfl,by decide +kernel,by decide +kernel⟩
theorem ZhQ(h:Here K mg "by_steps" ZdQ) (T:Nm mg) (mn:ZbO P w K mg base CF CR) (mnS:Zet P w K mg base CF CR) (mt:ZhA P w K mg base CF CR "times" (λ_ x y=>x*y)) (h_need_square:HasX P w K mg base "need_square" 7 ["table"] (Za2 cF)) (h_freed:Has P w K mg base "freed" 7 ["kind", "table"] (ZdE CF CR)) (h_emptied:Has P w K mg base "emptied" 7 ["kind", "table"] (Zd4 CF CR)) (h_sign_of:Has P w K mg base "sign_of" 7 ["count"] ZcW):HasX P w K mg base "by_steps" 8 ["kind", "table"] (Zdj CF CR cF):=by
  refine h.hasX (λf fd F=>F.binds λ_ _ _ _ _ _ us hl=>by obtain ⟨_,_,rfl⟩:=Zed hl; exact rfl) λf fd F=>F.okx sc_by_steps (λvs H Q E h=>?_) (λcdv A outer s H vs Q E hr h=>?_)
  · obtain ⟨_,_,_,_,_,_,rfl,_⟩:=h
    rfl
  obtain ⟨κ,sk,tb,rs,A,m,rfl,hk,ta,kF,kS⟩:=h
  have nd:=sc_by_steps.nd
  refine ⟨_,(Zab (ZaO (ZdM h_need_square ZgJ hr (by rfl) (Zaa (pv 1) Zad)))
    (Zab (Zaj (i:=2) nd rfl (Or.inl rfl) (Zao h_freed hr (by rfl) (Zaa (pv 0) (Zaa (pv 1) Zad))))
    (Zab (Zaj (i:=3) nd rfl (Or.inl rfl) (Zao h_emptied hr (by rfl) (Zaa (pv 0) (Zaa (Zak Zal (pv 2) Zac (λ_ _=>rfl)) Zad))))
    (Zab (ZaF (Zaq Zhg (Zas Zan (by rfl) T.len boot_len (Zaa (Zak Zal (pv 3) Zac (λ_ _=>rfl)) Zad)) (Zas Zan (by rfl) T.len boot_len (Zaa (pv 1) Zad)) (Zar _)) (Zaf (Zam (ZaH (pv 0) ZgJ hr (Zaa Zac Zad)))) Zav)
    (Zab (Zaj (i:=4) nd rfl (Or.inl rfl) (Zas Zan (by rfl) T.len boot_len (Zaa (Zlz ["turn"] [] rfl (Zbi (Zak Zal (pv 3) Zac (λ_ _=>rfl))) (by exact λ_ _ _ _=>(Zat (i:=0) (show (["turn"]:List Str).Nodup by decide +kernel) rfl (Or.inl rfl))) (by exact λ_ _ _ _=>(Zaq Za8 (Zak (ZfI K rfl) (pv 0) Zac (λ_ _=>rfl)) ZaW (Zar _))) (by exact λ_ _ _ _=>(pv 0)) trivial) Zad)))
    (Zaf (Zam (ZaK (pv 0) hr (Zaa (Zak Zal (pv 3) Zac (λ_ _=>rfl)) (Zaa (ZaH (pv 0) ZgJ hr (Zaa (Zao h_sign_of hr (by rfl) (Zaa (pv 4) Zad)) (Zaa (Zak Zal (pv 2) Zac (λ_ _=>rfl)) Zad))) Zad)))))))))),?_⟩
  refine ⟨_,rfl,κ,tb,rs,A,m,rfl,ta,(λsq=>?_),kF⟩
  obtain ⟨m7,sz,k⟩:=kS sq
  have lr:=ta.r.1
  have n1:=ta.n1
  refine ⟨_,rfl,_,rfl,κ,sk,tb,rs,A,m,rfl,hk,ta.l,ta.r,ta.w,by omega,m7,sz,λH1 tp D ds F b y c S1 htp hD rF wF lF qF bt eF ey=>?_⟩
  have lFm:F.length=m:=by omega
  have eid:F.map (List.take m)=F:=by
    apply List.ext_getElem?
    intro i
    rw[Qh]
    cases e:F[i]? with
    | none=>rfl
    | some f=>show some (f.take m)=some f; rw[Wt (by rw[wF f (Q9 e)]; exact Q1 _)]
  have qt:QT κ m F:=⟨λe=>by have:=(sz e).1; omega,⟨1,1,1,by decide,Bits.of (by decide),by decide,λf hf=>⟨λx hx=>qF f hf x (Wb hx),λx hx=>by rw[List.drop_of_length_le (by rw[wF f hf]; exact Q1 _)] at hx; cases hx⟩⟩⟩
  have whl:Whl κ m F:=λf hf Ai hA=>ZkD (λx hx=>qF f hf x (Wb hx)) hA
  have dF:det m (ent F)=y*det m (ent A):=by
    rw[ey,sq]
    exact ZcV m (Q1 _) λi j hi hj=>by rw[if_pos hi]; exact eF i j (by omega) hj
  refine ⟨_,rfl,_,rfl,tp,_,0,_,rfl,rfl,SqT.of htp,rfl,κ,sk,D,ds,F,m,m,rfl,hk.same S1,hD,(by rw[eid]; exact rF),wF,Q1 _,by omega,by omega,m7,by omega,qt,λH2 t r u L Z v R' ts ls x S2 ht nr nu nL wk Lz Lr Lu hL nv ech stg lt fw=>?_⟩
  have S02:=S1.trans S2
  have okT:∀t∈ts,t.ok m:=λt ht=>by rw[<-lFm]; exact wk.ok t ht
  have eR:=wk.run
  rw[eR,lFm] at ech
  refine ⟨_,rfl,t,_,2,_,rfl,rfl,SqT.of ht,rfl,L,_,rfl,.inl (SqL.of hL),_,rfl,tb,_,rfl,.inl (SqL.of (S02 _ _ ta.l)),_,_,rfl,rfl,_,rfl,?_⟩
  rw[Q0,Q0,lr,sq]
  refine Zcu (λz=>?_) (λz=>?_)
  · have z:(ls.length:Int)<(m:Int):=z
    have d0:=ZlX lFm wF okT ech (by omega)
    have dA:det m (ent A)=0:=by
      have mi:=Fd.mul_inv y bt.ne
      rw[dF] at d0
      generalize Fd.inv y=q at *
      generalize det m (ent A)=d at *
      have:d=q*(y*d):=by grind
      rw[this,d0]; grind
    obtain ⟨C,dx,fs,ps,dvs,sp,c1,c2,c3,c4,rfl,c5⟩:=mn κ H2 sk (hk.same S02)
    refine ⟨_,rfl,sk,C,dx,fs,ps,_,sp,rfl,c1,c2,c3.mono (by decide),c4,c5 H2 0 0 _ _ (Same.refl _) Zf1 λv0 H3 S3 n0=>?_⟩
    exact k H3 v0 (S02.trans S3) (by rw[dA]; exact n0)
  have z:¬(ls.length:Int)<(m:Int):=z
  have full:ls.length=m:=by have:=ech.le; omega
  have fw:=fw whl
  rw[lFm] at fw
  have dd:=ZlW (by omega) lFm wF okT ech full fw
  obtain ⟨tvs,hU,aT⟩:=wk.turns
  have lt2:=aT.1
  refine ⟨_,rfl,t,_,1,_,rfl,rfl,SqT.of ht,rfl,u,rfl,⟨_,SqL.of hU⟩,?_⟩
  refine ZiT (K:=K) (a:=u) (xs:=tvs) (λi ys H3=>H3=H2/\ys.length=swN (ts.take i)) (by omega) ⟨rfl,rfl⟩ (λi ys H3 _ q=>by rw[q.1]; exact SqL.of hU) ?_ ?_
  · rintro i tv ys H3 htv _ ⟨rfl,ly⟩
    obtain ⟨t',ht',tr⟩:=aT.get htv
    have e:swN (ts.take (i+1))=swN (ts.take i)+swT t':=by rw[W7,ht']; exact ZlR _ _
    cases t' with
    | swap i1 j1 =>
      obtain ⟨a1,rfl,h1⟩:=tr
      refine ⟨_,rfl,a1,_,0,_,rfl,rfl,SqT.of h1,rfl,rfl,?_⟩
      refine ⟨true,rfl,?_⟩
      refine ⟨_,rfl,rfl,?_⟩
      rw[Qc,ly,e]; rfl
    | scale i1 c1 =>
      obtain ⟨a1,u1,rfl,h1,_⟩:=tr
      refine ⟨_,rfl,a1,_,0,_,rfl,rfl,SqT.of h1,rfl,rfl,?_⟩
      exact ⟨false,rfl,rfl,by rw[ly,e]; rfl⟩
    | add i1 j1 c1 =>
      obtain ⟨a1,u1,rfl,h1,_⟩:=tr
      refine ⟨_,rfl,a1,_,0,_,rfl,rfl,SqT.of h1,rfl,rfl,?_⟩
      exact ⟨false,rfl,rfl,by rw[ly,e]; rfl⟩
  rintro ys H3 _ ⟨rfl,ly⟩ pl npl
  rw[Wt (by omega)] at ly
  have Sp:=Zag npl (.lst ys)
  have qp:=Zae (H:=H3) (a:=pl) (o:=.lst ys)
  generalize upd H3 pl (.lst ys)=H4 at *
  refine ⟨pl,_,rfl,.inl (SqL.of qp),?_⟩
  rw[ly]
  have S04:=S02.trans Sp
  obtain ⟨Ct,dxt,fst,pst,dvt,spt,t1,t2,t3,t4,rfl,t5⟩:=mt κ H4 sk (hk.same S04)
  obtain ⟨Cn,dxn,fsn,psn,dvn,spn,e1,e2,e3,e4,rfl,e5⟩:=mnS κ H4 sk (hk.same S04)
  have bx:B1 κ x:=by
    have b2:=(ZoI stg ech.x0 (λe=>by have:=(sz e).1; omega)).2
    have h00:=ZhF wk.wd b2 (i:=0) (j:=0) (by rw[wk.len]; omega) (by omega)
    rw[eR,Zgc ech full (by omega) (by omega),if_pos rfl] at h00
    exact h00.b1
  have lb:b.natAbs<=10^1000:=Q2 (Qt bt.l.lt) (by decide)
  refine ⟨_,rfl,sk,Ct,dxt,fst,pst,_,spt,rfl,t1,t2,t3.mono (by decide),t4,_,rfl,t,_,3,_,rfl,rfl,SqT.of (Sp _ _ ht),rfl,_,rfl,sk,Cn,dxn,fsn,psn,_,spn,rfl,e1,e2,e3.mono (by decide),e4,_,rfl,swN ts,rfl,_,rfl,tp,_,1,_,rfl,rfl,SqT.of (Sp _ _ (S2 _ _ htp)),rfl,e5 H4 _ b (sgn κ (swN ts)) y _ _ (Same.refl _) (by split <;> decide) (ZkE _) bt.n bt.ne bt.p lb bt.r λv4 H5 S5 n4=>?_⟩
  refine t5 H5 v v4 x _ _ S5 ((nv.same Sp).same S5) n4 bx (Zd5 bt) λv6 H6 S6 n6=>?_
  refine k H6 v6 (S04.trans (S5.trans S6)) ?_
  have e:det m (ent A)=x*(sgn κ (swN ts)*Fd.inv y):=by
    have mi:=Fd.mul_inv y bt.ne
    rw[dF] at dd
    generalize Fd.inv y=q at *
    generalize det m (ent A)=d at *
    generalize sgn κ (swN ts)=s at *
    have:d=q*(y*d):=by grind
    rw[this,dd]; grind
  rw[e]
  exact n6
end
end My
namespace My
open PySem L2 PyProof.Rows Rg
section
variable{κ:KX}
noncomputable def ZnI(N s n:Nat)(f:List κ.F):List κ.F:=List.replicate s 0++f++List.replicate (N-s-n) 0
noncomputable def ZpC(N:Nat):Nat->List (List (List κ.F))->List (List κ.F)
  | _,[]=>[]
  | s,T::Ts=>T.map (ZnI N s T.length)++ZpC N (s+T.length) Ts
noncomputable def ZpD(N i:Nat)(x:κ.F)(b:Bool):List κ.F:=(List.range N).map λj=>if j=i then x else if b=true/\j+1=i then 1 else 0
noncomputable def ZqG(x:κ.F)(n:Nat):List (List κ.F):=(List.range n).map λp=>(List.range n).map λc=>if c=p then x else if c+1=p then 1 else 0
noncomputable def dsc(bl:List (κ.F×Nat)):List (κ.F×Bool):=bl.flatMap λd=>(List.range d.2).map λk=>(d.1,decide (0<k))
noncomputable def Zqy(bl:List (κ.F×Nat)):List (List κ.F):=(dsc bl).mapIdx λi d=>ZpD (dsc bl).length i d.1 d.2
noncomputable def Zqz(i:Nat)(d:κ.F×Bool):List κ.F:=if d.2=true then (List.replicate i 0++[d.1]).set (i-1) 1 else List.replicate i 0++[d.1]
noncomputable def ZqA(ds:List (κ.F×Bool)):List (List κ.F):=ds.mapIdx Zqz
end
end My
namespace My
open PySem L2 PyProof.Rows Rg
theorem RowsX.cat{κ:KX}{H:Hp}{as bs:List Addr}{R S:List (List κ.F)}(h:RowsX κ H as R)(g:RowsX κ H bs S):RowsX κ H (as++bs) (R++S):=by
  have l:=h.1
  have l2:=g.1
  refine ⟨by rw[Qc,Qc,l,l2],λi a f ha hf=>?_⟩
  by_cases hi:i<as.length
  · rw[W2 hi] at ha
    rw[W2 (by omega)] at hf
    exact h.2 i a f ha hf
  · rw[W3 (by omega)] at ha hf
    rw[<-l] at hf
    exact g.2 _ a f ha hf
end My
namespace L2
open PySem PySem.Spec PyProof.Rows
section
variable{X:Cx}{e st:Expr}{te ts:TE}{pos p2:Pos}
end
section
variable{X:Cx}{k:Nat}
end
end L2
namespace L2
open PySem PySem.Spec PyProof.Rows
section
variable{X:Cx}{tg:Expr}
end
section
variable{prog:Program}{w:World}{A:Around}{s:Shared}{R:Result->Shared->Prop}
end
section
variable{prog:Program}{w:World}{A:Around}{E:Value->Shared->Prop}{s:Shared}
end
section
variable{X:Cx}{e1:Expr}{ta:TA}{p p2 pos pos2:Pos}
end
end L2
namespace My
open PySem L2 PyProof.Rows Rg
section
variable{κ:KX}
def QN(κ:KX)(D:Int)(M:Nat)(x:κ.F):Prop:=match κ with
  | .q=>∃X:Int,x=Rat.divInt X D/\X.natAbs<=M
  | .r _ _=>True
theorem QN.mono{D:Int}{M N:Nat}{x:κ.F}(h:QN κ D M x)(l:M<=N):QN κ D N x:=by
  cases κ with
  | r p hp=>exact trivial
  | q=>obtain ⟨X,e,hX⟩:=h; exact ⟨X,e,Q2 hX l⟩
theorem QN.mul{D E:Int}{M N:Nat}{x y:κ.F}(h:QN κ D M x)(g:QN κ E N y):QN κ (D*E) (M*N) (x*y):=by
  cases κ with
  | r p hp=>exact trivial
  | q =>
    obtain ⟨X,rfl,hX⟩:=h
    obtain ⟨Y,rfl,hY⟩:=g
    exact ⟨X*Y,Wm _ _,by rw[Qs]; exact W9 hX hY⟩
theorem QN.add{D:Int}(hD:0<D){M N:Nat}{x y:κ.F}(h:QN κ D M x)(g:QN κ D N y):QN κ D (M+N) (x+y):=by
  cases κ with
  | r p hp=>exact trivial
  | q =>
    obtain ⟨X,rfl,hX⟩:=h
    obtain ⟨Y,rfl,hY⟩:=g
    refine ⟨X+Y,?_,Q2 (Int.natAbs_add_le X Y) (Nat.add_le_add hX hY)⟩
    show Rat.divInt X D+Rat.divInt Y D=_
    rw[Ug _ _ (by omega) (by omega),W5 (Wv (Qm hD hD)) (by omega),<-Uo,Qi]
theorem QN.zero{D:Int}{M:Nat}:QN κ D M 0:=by
  cases κ with
  | r p hp=>exact trivial
  | q=>exact ⟨0,(Rat.zero_divInt D).symm,Qd _⟩
theorem QN.b1{D:Int}(hD:0<D)(lD:D.natAbs<2^3000){M:Nat}(lM:M<2^3000){x:κ.F}(h:QN κ D M x):B1 κ x:=by
  cases κ with
  | r p hp=>exact trivial
  | q =>
    obtain ⟨X,rfl,hX⟩:=h
    obtain ⟨d1,d2⟩:=Zcb X hD
    refine ⟨?_,?_⟩
    · show Bits 1000000 (Rat.divInt X D).num
      exact ZcT d2 ((Bits.of (n:=3000) (Qk hX lM)).up (by decide)) (Zep X hD)
    · show Bits 4000 ((Rat.divInt X D).den:Int)
      exact ZcT d1 ((Bits.of (n:=3000) lD).up (by decide)) (λz=>by omega)
noncomputable def pI(F G:List κ.F)(i:Nat):Nat->Nat->κ.F
  | 0,_=>0
  | j+1,k=>pI F G i j k+(if i+j=k then F.getD i 0*G.getD j 0 else 0)
noncomputable def pO(F G:List κ.F):Nat->Nat->κ.F
  | 0,_=>0
  | i+1,k=>pO F G i k+pI F G i G.length k
noncomputable def ZqH(F G:List κ.F)(i j:Nat):List κ.F:=(List.range (F.length+G.length)).map λk=>pO F G i k+pI F G i j k
noncomputable def ZqB(f:List κ.F)(d i:Nat):List κ.F:=(List.range d).map λc=>if c+1=d then 0-f.getD i 0 else if c+1=i then 1 else 0
noncomputable def ZqI(f:List κ.F):List (List κ.F):=(List.range (f.length-1)).map λi=>ZqB f (f.length-1) i
noncomputable def atE:List (List κ.F)->Nat->Nat->Nat->κ.F
  | [],_,_,_=>0
  | f::fs,s,i,j=>if s<=i/\i<s+(f.length-1)/\j+1=s+(f.length-1) then 0-f.getD (i-s) 0 else if s<=i/\i<s+(f.length-1)/\s<=j then (if i=j+1 then 1 else 0) else atE fs (s+(f.length-1)) i j
end
end My
namespace My
open PySem L2 PyProof.Rows Rg
end My
namespace My
open PySem L2 PyProof.Rows Rg
theorem Zl2{n:Nat}(h:1<=n):ixN n (-1)=some (n-1):=by
  unfold ixN
  rw[if_neg (by decide),if_pos (by omega)]
  congr 1
  omega
theorem ZkH{κ:KX}{l:List κ.F}{i:Nat}(h:i<l.length):l[i]?=some (l.getD i 0):=by
  rw[Q4,Q5 h]; rfl
theorem ZcH{κ:KX}{H:Hp}{xs:List V}{f:List κ.F}(h:AllG (NR κ H) xs f){i:Nat}(hi:i<f.length):∃v,xs[i]?=some v/\NR κ H v (f.getD i 0):=by
  obtain ⟨v,hv⟩:=ZaL (ZkH hi) h.1.symm
  obtain ⟨x,hx,nx⟩:=h.get hv
  rw[ZkH hi] at hx
  cases hx
  exact ⟨v,hv,nx⟩
end My
namespace My
open PySem L2 PyProof.Rows Rg
theorem Zgf{κ:KX}{H:Hp}{xs:List V}{f:List κ.F}(h:AllG (NR κ H) xs f)(r:Nat):AllG (NR κ H) (xs.take r) (f.take r):=by
  obtain ⟨l,h⟩:=h
  refine ⟨by rw[Ql,Ql,l],λi v d hv hd=>?_⟩
  rw[Wz] at hv hd
  by_cases c:i<r
  · rw[if_pos c] at hv hd; exact h i v d hv hd
  · rw[if_neg c] at hv; cases hv
end My
namespace My
open PySem L2 PyProof.Rows Rg
section
variable{κ:KX}
noncomputable def Zhb(f g:List κ.F):Nat->κ.F
  | 0=>0
  | k+1=>Zhb f g k+f.getD k 0*g.getD k 0
noncomputable def Zis(f g:List κ.F):κ.F:=Zhb f g f.length
theorem ZkI{f g:List κ.F}{i:Nat}{x y:κ.F}(hx:f[i]?=some x)(hy:g[i]?=some y):Zhb f g (i+1)=Zhb f g i+x*y:=by
  show Zhb f g i+f.getD i 0*g.getD i 0=_
  rw[Q4,Q4,hx,hy]; rfl
end
theorem Zit{x:Rat}{A:Int}(hA:0<A)(h:(x.den:Int) ∣ A):x=Rat.divInt (x.num*(A/x.den)) A:=by
  have hd:=(Za4 x).pos
  obtain ⟨c,rfl⟩:=h
  rw[Int.mul_ediv_cancel_left c (by omega)]
  have:Rat.divInt x.num x.den=Rat.divInt (x.num*c) (x.den*c):=by
    rw[W5 (by omega) (by omega)]
    rw[Qi,Qn c]
  rw[<-this,Qo]
theorem ZhR{X Y D:Int}(hD:0<D):Rat.divInt X D+Rat.divInt Y D=Rat.divInt (X+Y) D:=by
  rw[Ug _ _ (by omega) (by omega),W5 (Wv (Qm hD hD)) (by omega),<-Uo,Qi]
def tS(f g:List Rat)(A C:Int):Nat->Int
  | 0=>0
  | k+1=>tS f g A C k+(f.getD k 0).num*(A/(f.getD k 0).den)*(g.getD k 0).num*(C/(g.getD k 0).den)
theorem Zmw{f g:List Rat}{A C:Int}(hA:0<A)(hC:0<C)(dA:∀x∈f,(x.den:Int) ∣ A)(dC:∀x∈g,(x.den:Int) ∣ C):∀k,k<=f.length->k<=g.length->Rat.divInt (tS f g A C k) (A*C)=Zhb (κ:=.q) f g k
  | 0,_,_=>Rat.zero_divInt _
  | k+1,h1,h2=>by
    have a:f.getD k 0∈f:=by rw[Q4,Q5 (show k<f.length by omega)]; exact Qp _
    have b:g.getD k 0∈g:=by rw[Q4,Q5 (show k<g.length by omega)]; exact Qp _
    have ih:=Zmw hA hC dA dC k (by omega) (by omega)
    have e1:=Zit hA (dA _ a)
    have e2:=Zit hC (dC _ b)
    have e3:(f.getD k 0)*(g.getD k 0)=Rat.divInt ((f.getD k 0).num*(A/(f.getD k 0).den)*(g.getD k 0).num*(C/(g.getD k 0).den)) (A*C):=by
      conv=>lhs; rw[e1,e2]
      rw[Wm,<-Qi]
    show Rat.divInt (tS f g A C k+_) (A*C)=Zhb (κ:=.q) f g k+(f.getD k 0:Rat)*(g.getD k 0:Rat)
    rw[<-ZhR (Qm hA hC),ih,e3]
def W60(f:List Rat):Prop:=∀x∈f,x.num.natAbs<=10^500/\x.den<=10^200
inductive Zgg (CF:Addr) (vs:List V) (H:Hp) (Q:VK) (zE:XK):Prop
  | mk (s r1 r2:Addr) (xs ys:List V) (f g:List Rat) (B C:Int) (_:vs=[.ref s,.ref r1,.ref r2]) (_:FrA CF H s) (_:H r1=some (.lst xs)) (_:H r2=some (.lst ys)) (_:AllG (NR .q H) xs f) (_:AllG (NR .q H) ys g) (_:f.length=g.length) (_:f.length<=100) (_:W60 f) (_:W60 g) (_:0<B) (_:B.natAbs<=10^200) (_:(∀x∈f,((Rat.den x:Nat):Int) ∣ B)) (_:0<C) (_:C.natAbs<=10^200) (_:(∀x∈g,((Rat.den x:Nat):Int) ∣ C)) (_:∀H' v,Same H H'->NR .q H' v (Zis (κ:=.q) f g)->Q v H'):Zgg CF vs H Q zE
inductive Zgh (CR:Addr) (vs:List V) (H:Hp) (Q:VK) (zE:XK):Prop
  | mk (p:Nat) (hp:PrN p) (s r1 r2:Addr) (xs ys:List V) (f g:List (KX.r p hp).F) (_:vs=[.ref s,.ref r1,.ref r2]) (_:ReA CR p H s) (_:H r1=some (.lst xs)) (_:H r2=some (.lst ys)) (_:AllG (NR (.r p hp) H) xs f) (_:AllG (NR (.r p hp) H) ys g) (_:f.length=g.length) (_:f.length<=100) (_:∀H' v,Same H H'->NR (.r p hp) H' v (Zis f g)->Q v H'):Zgh CR vs H Q zE
def Zfa(P:Program)(w:World)(K:PySem.W.Frag)(mg:Str->Option Value)(base:Heap)(CF CR:Addr):Prop :=
  ∀(κ:KX) (H:Hp) (s:Addr),KdX CF CR κ H s->∃C dx fs ps dvs sp,H s=some (.ins C dx fs)/\Cls K C/\HasM P w K mg base C "sum_of_products" 3 ps dvs sp/\fs.lookup ("sum_of_products" : Str)=none/\dvs=[] ∧
    ∀(H':Hp) (r1 r2:Addr) (xs ys:List V) (f g:List κ.F) (D E M N:Nat) (Q:VK),Same H H'->H' r1=some (.lst xs)->H' r2=some (.lst ys)->AllG (NR κ H') xs f->AllG (NR κ H') ys g->f.length=g.length->f.length<=100->(∀x∈f,QN κ (D:Int) M x)->(∀x∈g,QN κ (E:Int) N x)->0<D->D<=10^200->0<E->E<=10^200->M<=10^500->N<=10^500->(∀H'' v,Same H' H''->NR κ H'' v (Zis f g)->Q v H'')->sp [.ref s,.ref r1,.ref r2] H' Q E0
theorem Zmx{D M:Nat}(hD:0<D)(lD:D<=10^200)(lM:M<=10^500){f:List Rat}(h:∀x∈f,QN .q (D:Int) M x):W60 f/\∀x∈f,((Rat.den x:Nat):Int) ∣ (D:Int):=by
  refine ⟨λx hx=>?_,λx hx=>?_⟩
  · obtain ⟨X,e,hX⟩:=h x hx
    have e:x=Rat.divInt X D:=e
    obtain ⟨d1,d2⟩:=Zcb X (show (0:Int)<(D:Int) by omega)
    rw[<-e] at d1 d2
    refine ⟨?_,?_⟩
    · by_cases z:X=0
      · have:=Zep X (show (0:Int)<(D:Int) by omega) z
        rw[<-e] at this
        rw[this]; exact Qd _
      · exact Q2 (Za3 d2 z) (Q2 hX lM)
    · have:=Za3 d1 (show (D:Int)≠0 by omega)
      rw[Wa,Wa] at this
      omega
  · obtain ⟨X,e,hX⟩:=h x hx
    have e:x=Rat.divInt X D:=e
    rw[e]
    exact (Zcb X (show (0:Int)<(D:Int) by omega)).1
theorem ZdF{n i:Nat}(h:n<=10^i)(hi:i<=1000:=by decide):n<=10^1000:=Q2 h (Qe (by decide) hi)
theorem ZcX{n i:Nat}(h:n<=10^i)(hi:i<=2000:=by decide):n<=10^2000:=Q2 h (Qe (by decide) hi)
theorem Zmy:10^2000<2^8000:=by decide +kernel
theorem ZnJ{i j:Int}(h:i.natAbs<=10^2000)(h':j.natAbs<=10^2000):IntMulOk i j :=
  .of_bits (Q2 (Zc6 (n:=8000) (Qk h Zmy)) (by decide)) (Q2 (Zc6 (n:=8000) (Qk h' Zmy)) (by decide))
theorem ZpE{a b:Int}{i j:Nat}(ha:a.natAbs<=10^i)(hb:b.natAbs<=10^j):(a*b).natAbs<=10^(i+j):=by
  rw[Qs,Um]; exact W9 ha hb
theorem Zmz{A b:Int}:(A/b).natAbs<=A.natAbs:=Int.natAbs_ediv_le_natAbs A b
end My
namespace My
open PySem L2 PyProof.Rows Rg
section
variable{P:Program}{w:World}{K:PySem.W.Frag}{mg:Str->Option Value}{base:Heap}{CF CR cN:Addr}
theorem sc_Fractions_sum_of_products:FnScope ["self", "some", "others", "ahead", "behind", "total", "one", "other"] ["self", "some", "others"] (Zah ZaG):=⟨rfl,rfl,rfl,by decide +kernel,rfl,by decide +kernel,by decide +kernel⟩
theorem Zl3(h:HereM K CF "sum_of_products" "Fractions.sum_of_products" ZaG) (cl:Cls K CF) (Tz:mg "zip" = none) (hB:HasM P w K mg base CF "common_bottom" 2 ["self", "some"] [] (Zbq K)) (hN:HasMX P w K mg base CF "number" 2 ["self", "top", "bottom"] [] ZbT):HasM P w K mg base CF "sum_of_products" 3 ["self", "some", "others"] [] (Zgg CF):=by
  refine h.hasM (λf fd F=>F.binds λ_ _ _ _ _ _ us hl=>by obtain ⟨_,_,_,rfl⟩:=Zei hl; exact rfl) λf fd F=>F.ok sc_Fractions_sum_of_products (λvs H Q E h=>?_) (λcdv A outer s H vs Q E hr h=>?_)
  · obtain ⟨_,_,_,_,_,_,_,_,_,rfl,_⟩:=h
    rfl
  obtain ⟨sf,r1,r2,xs,ys,f1,f2,B1',C1',rfl,⟨dx,hs⟩,h1,h2,al1,al2,lfg,l100,w1,w2,b0,bl,bd,c0,cl',cd,k⟩:=h
  have nd:=sc_Fractions_sum_of_products.nd
  refine ⟨_,(Zab (Zaj (i:=3) nd rfl (Or.inl rfl) (ZaK (pv 0) hr (Zaa (pv 1) Zad)))
    (Zab (Zaj (i:=4) nd rfl (Or.inl rfl) (ZaK (pv 0) hr (Zaa (pv 2) Zad)))
    (Zab (Zaj (i:=5) nd rfl (Or.inl rfl) Zac)
    (Zab (Za7 PassesOwn.never rfl (Zfv (by rfl) Tz (Zaa (pv 1) (Zaa (pv 2) Zad))) (Zh9 rfl (ZaX (Zat (i:=6) nd rfl (Or.inl rfl)) (ZaX (Zat (i:=7) nd rfl (Or.inl rfl)) Zc4))) (Zaf (Zjp (i:=5) nd rfl (Or.inl rfl) (Zai ZaA (Zai ZaA (Zai ZaA (Zak Zal (pv 6) Zac (λ_ _=>rfl)) (Zai Zel (pv 3) (Zak Zal (pv 6) Zac (λ_ _=>rfl)))) (Zak Zal (pv 7) Zac (λ_ _=>rfl))) (Zai Zel (pv 4) (Zak Zal (pv 7) Zac (λ_ _=>rfl)))) Zmk)))
    (Zaf (Zam (ZaH (pv 0) ZcY hr (Zaa (pv 5) (Zaa (Zai ZaA (pv 3) (pv 4)) Zad))))))))),?_⟩
  have lx:=al1.1
  have ly:=al2.1
  have bitsB:∀ {Z:Int},Z.natAbs<=10^200->Bits 4000 Z:=fun {Z} hz=>Bits.of (Qk hz (Q6 (show 10^200<2^1000 by decide) (Qe (by decide) (by decide))))
  refine ⟨_,rfl,sf,CF,dx,[],_,_,Zbq K,rfl,hs,cl,hB,rfl,_,rfl,sf,r1,xs,f1,B1',rfl,h1,al1,b0,bitsB bl,bd,λA ⟨hA,dA,mA⟩=>?_⟩
  refine ⟨_,rfl,sf,CF,dx,[],_,_,Zbq K,rfl,hs,cl,hB,rfl,_,rfl,sf,r2,ys,f2,C1',rfl,h2,al2,c0,bitsB cl',cd,λC ⟨hC,dC,mC⟩=>?_⟩
  have lA:A.natAbs<=10^200:=Q2 (Za3 (mA _ bd) (by omega)) bl
  have lC:C.natAbs<=10^200:=Q2 (Za3 (mC _ cd) (by omega)) cl'
  refine ⟨_,rfl,_,rfl,r1,r2,rfl,⟨_,SqL.of h1⟩,⟨_,SqL.of h2⟩,?_⟩
  refine Zhl (xs:=xs) (ys:=ys) (λi σ H2=>∃z6 z7:Option V,σ=[some (.ref sf),some (.ref r1),some (.ref r2),some (.int A),some (.int C),some (.int (tS f1 f2 A C i)),z6,z7]/\Same H H2) ⟨none,none,rfl,Same.refl H⟩ ?_ ?_ ?_
  · rintro i σ H2 ⟨z6,z7,rfl,S⟩
    exact ⟨SqL.of (S _ _ h1),SqL.of (S _ _ h2)⟩
  · rintro i u v Tp σ H2 hx hy nT ⟨z6,z7,rfl,S⟩
    obtain ⟨x,hx',t,rfl,ht⟩:=al1.get hx
    obtain ⟨y,hy',t',rfl,ht'⟩:=al2.get hy
    have ex:f1.getD i 0=x:=by rw[Q4,hx']; rfl
    have ey:f2.getD i 0=y:=by rw[Q4,hy']; rfl
    have hb:=(Za4 x).pos
    have hd:=(Za4 y).pos
    obtain ⟨la,lb⟩:=w1 x (Q9 hx')
    obtain ⟨lc,ld⟩:=w2 y (Q9 hy')
    have ST:=Zag nT (.tup [.ref t,.ref t'])
    refine ⟨Tp,_,rfl,SqT.of Zae,rfl,_,_,rfl,_,_,rfl,rfl,?_⟩
    generalize upd H2 Tp (.tup [.ref t,.ref t'])=H3 at *
    have S3:=S.trans ST
    have qt:=SqT.of (K:=K) (S3 _ _ ht)
    have qu:=SqT.of (K:=K) (S3 _ _ ht')
    have eA:A.fdiv (x.den:Int)=A/x.den:=Ux _ (by omega)
    have eC:C.fdiv (y.den:Int)=C/y.den:=Ux _ (by omega)
    have lA':(A.fdiv (x.den:Int)).natAbs<=10^200:=by rw[eA]; exact Q2 Zmz lA
    have lC':(C.fdiv (y.den:Int)).natAbs<=10^200:=by rw[eC]; exact Q2 Zmz lC
    have m1:=ZpE la lA'
    have m2:=ZpE m1 lc
    refine ⟨_,rfl,_,rfl,t,_,_,_,rfl,rfl,qt,rfl,_,rfl,_,rfl,t,_,_,_,rfl,rfl,qt,rfl,_,_,rfl,rfl,⟨(show (x.den:Int)≠0 by omega),ZdF (by rw[Wa]; exact lb)⟩,_,_,rfl,rfl,ZnJ (ZcX la) (ZcX lA'),_,rfl,t',_,_,_,rfl,rfl,qu,rfl,_,_,rfl,rfl,ZnJ (ZcX m1) (ZcX lc),_,rfl,_,rfl,t',_,_,_,rfl,rfl,qu,rfl,_,_,rfl,rfl,⟨(show (y.den:Int)≠0 by omega),ZdF (by rw[Wa]; exact ld)⟩,_,_,rfl,rfl,ZnJ (ZcX m2) (ZcX lC'),_,_,rfl,rfl,?_⟩
    refine ⟨some (.ref t),some (.ref t'),?_,S3⟩
    have e:tS f1 f2 A C (i+1)=tS f1 f2 A C i+x.num*(A.fdiv (x.den:Int))*y.num*(C.fdiv (y.den:Int)):=by
      show tS f1 f2 A C i+_=_
      rw[ex,ey,eA,eC]
    rw[e]
    rfl
  · rintro i σ H2 hi ⟨z6,z7,rfl,S⟩
    have hi:i=f1.length:=by omega
    subst hi
    have hAC:0<A*C:=Qm hA hC
    refine ⟨_,rfl,sf,CF,dx,[],_,_,ZbT,rfl,S _ _ hs,cl,hN,rfl,_,rfl,_,rfl,_,rfl,_,_,rfl,rfl,Zql (ZdF lA) (ZdF lC),sf,_,_,rfl,hAC,ZdF (ZpE lA lC),λr x y nr fc e=>?_⟩
    obtain ⟨q,q1,q2⟩:=ZgW fc
    have y0:=fc.pos
    have eq:q=Zis (κ:=.q) f1 f2:=by
      have t:=Zmw hA hC dA dC f1.length (Q1 _) (by omega)
      have:q=Rat.divInt (tS f1 f2 A C f1.length) (A*C):=by
        rw[<-Qo q,q1,q2,W5 (by omega) (by omega)]
        exact e
      exact this.trans t
    refine k _ _ (S.trans (Zag nr _)) ⟨r,rfl,?_⟩
    rw[Zae,<-eq]
    show some (HO.tup [V.int x,V.int y])=some (HO.tup [V.int (Rat.num q),V.int ((Rat.den q:Nat):Int)])
    rw[q1,q2]
theorem Zcd:FnScope ["self", "some", "others"] ["self", "some", "others"] (Zah ZaS):=⟨rfl,rfl,rfl,by decide +kernel,rfl,by decide +kernel,by decide +kernel⟩
theorem Zl4(h:HereM K CR "sum_of_products" "Rests.sum_of_products" ZaS) (cl:Cls K CR) (nP:NoAttr K CR "prime") (Tz:mg "zip" = none) (Ts:mg "sum" = none):HasM P w K mg base CR "sum_of_products" 3 ["self", "some", "others"] [] (Zgh CR):=by
  refine h.hasM (λf fd F=>F.binds λ_ _ _ _ _ _ us hl=>by obtain ⟨_,_,_,rfl⟩:=Zei hl; exact rfl) λf fd F=>F.ok Zcd (λvs H Q E h=>?_) (λcdv A outer s H vs Q E hr h=>?_)
  · obtain ⟨_,_,_,_,_,_,_,_,_,rfl,_⟩:=h
    rfl
  obtain ⟨p,hp,sr,r1,r2,xs,ys,f1,f2,rfl,⟨dx,hs⟩,h1,h2,al1,al2,lfg,l100,k⟩:=h
  refine ⟨_,(Zaf (Zam (Zai ZaD (Zas (Zlx rfl) (by rfl) Ts boot_sum (Zaa (ZbL ["one", "other"] [] rfl (Zfv (by rfl) Tz (Zaa (pv 1) (Zaa (pv 2) Zad))) (by exact λ_ _ _ _=>(ZfJ (n:=2) K rfl rfl (ZaX (Zat (i:=0) (show (["one", "other"]:List Str).Nodup by decide +kernel) rfl (Or.inl rfl)) (ZaX (Zat (i:=1) (show (["one", "other"]:List Str).Nodup by decide +kernel) rfl (Or.inl rfl)) Zc4)))) (by exact λ_ _ _ _=>(Zai ZaA (pv 0) (pv 1))) trivial) Zad)) (Zez (pv 0) rfl)))),?_⟩
  have lx:=al1.1
  have ly:=al2.1
  have h2':=hp.two
  refine ⟨_,rfl,_,rfl,r1,r2,rfl,⟨_,SqL.of h1⟩,⟨_,SqL.of h2⟩,?_⟩
  refine ZeG (K:=K) (a:=r1) (b:=r2) (xs:=xs) (ys:=ys) (λi zs H2=>Same H H2/\∃ms:List Int,zs=ms.map V.int/\(ms.sum%p:Int)=((Fin.val (Zhb f1 f2 i:Fin p):Nat):Int)) (by omega) ⟨Same.refl H,[],rfl,?_⟩ (λi zs H2 q=>⟨SqL.of (q.1 _ _ h1),SqL.of (q.1 _ _ h2)⟩) ?_ ?_
  · show (0:Int)%p=((Fin.val (K0 (.r p hp)):Nat):Int)
    rw[ZdA]; simp
  · rintro i u v Tp zs H2 hx hy hl nT ⟨S,ms,rfl,es⟩
    obtain ⟨x,hx',e1⟩:=al1.get hx
    obtain ⟨y,hy',e2⟩:=al2.get hy
    have e1:u = .int (Fin.val (x:Fin p)):=e1
    have e2:v = .int (Fin.val (y:Fin p)):=e2
    subst e1 e2
    have ST:=Zag nT (.tup [.int (Fin.val (x:Fin p)),.int (Fin.val (y:Fin p))])
    generalize upd H2 Tp (.tup [.int (Fin.val (x:Fin p)),.int (Fin.val (y:Fin p))])=H3 at *
    refine ⟨_,rfl,_,rfl,_,_,rfl,rfl,ZbA (ZaV hp x) (ZaV hp y),S.trans ST,ms++[(Fin.val (x:Fin p):Int)*Fin.val (y:Fin p)],by simp,?_⟩
    have ed:(Zhb f1 f2 (i+1):Fin p)=(Zhb f1 f2 i:Fin p)+(x:Fin p)*(y:Fin p):=ZkI hx' hy'
    rw[ed,Fin.val_add,Fin.val_mul,List.sum_append]
    simp only[List.sum_cons,List.sum_nil,Int.add_zero]
    rw[Int.add_emod,es,Wf,Int.natCast_add,Wf,Wl,Int.add_emod (Fin.val (Zhb f1 f2 i:Fin p):Int)]
    first | done | simp
  · rintro zs H2 hl ⟨S,ms,rfl,es⟩ D hD
    have S4:=S.trans (Zag hD (.lst (ms.map V.int)))
    refine ⟨D,_,rfl,SqL.of Zae,?_⟩
    refine ⟨_,rfl,sr,CR,dx,_,_,rfl,S4 _ _ hs,cl,nP,ZbM p,_,_,rfl,rfl,(show (p:Int)≠0 by omega),?_⟩
    show Q (V.int (ms.sum.fmod p)) _
    refine k _ _ S4 ?_
    show V.int (ms.sum.fmod p)=V.int ((Fin.val (Zhb f1 f2 f1.length:Fin p):Nat):Int)
    rw[Qx _ (by omega),es]
    congr 4
    omega
theorem Zl5(kd:Kd K mg CF CR)(hF:HasM P w K mg base CF "sum_of_products" 3 ["self", "some", "others"] [] (Zgg CF)) (hR:HasM P w K mg base CR "sum_of_products" 3 ["self", "some", "others"] [] (Zgh CR)):Zfa P w K mg base CF CR:=by
  intro κ H s hk
  cases κ with
  | q =>
    obtain ⟨dx,h⟩:=hk
    refine ⟨CF,dx,[],_,_,_,h,kd.clF,hF,rfl,rfl,λH' r1 r2 xs ys f g D E M N Q S h1 h2 a1 a2 lfg l100 qf qg d0 dl e0 el ml nl k=>?_⟩
    obtain ⟨w1,v1⟩:=Zmx d0 dl ml qf
    obtain ⟨w2,v2⟩:=Zmx e0 el nl qg
    exact ⟨s,r1,r2,xs,ys,f,g,(D:Int),(E:Int),rfl,⟨dx,S _ _ h⟩,h1,h2,a1,a2,lfg,l100,w1,w2,by omega,by rw[Wa]; exact dl,v1,by omega,by rw[Wa]; exact el,v2,k⟩
  | r p hp =>
    obtain ⟨dx,h⟩:=hk
    exact ⟨CR,dx,fsR p,_,_,_,h,kd.clR,hR,Zc3 _ (by decide),rfl,λH' r1 r2 xs ys f g D E M N Q S h1 h2 a1 a2 lfg l100 qf qg d0 dl e0 el ml nl k=>⟨p,hp,s,r1,r2,xs,ys,f,g,rfl,⟨dx,S _ _ h⟩,h1,h2,a1,a2,lfg,l100,k⟩⟩
end
end My
namespace My
open PySem L2 PyProof.Rows Rg
section
variable{κ:KX}
noncomputable def ZqC(κ:KX)(n i:Nat):List κ.F:=(List.range n).map λj=>if i=j then 1 else 0
noncomputable def ZqD(κ:KX)(n:Nat):List (List κ.F):=(List.range n).map (ZqC κ n)
noncomputable def ZqE(B:List (List κ.F))(j:Nat):List κ.F:=B.map λr=>r.getD j 0
noncomputable def ZpF(B:List (List κ.F))(m:Nat):List (List κ.F):=(List.range m).map (ZqE B)
noncomputable def mulT(A B:List (List κ.F))(m:Nat):List (List κ.F):=A.map λr=>(ZpF B m).map λc=>Zis c r
noncomputable def ZqJ(c:κ.F)(A:List (List κ.F)):List (List κ.F):=A.map λr=>r.map (c * ·)
noncomputable def ZqK(A B:List (List κ.F)):List (List κ.F):=List.zipWith (λf g=>List.zipWith (· + ·) f g) A B
end
structure TabL (κ:KX) (H:Hp) (a:Addr) (rs:List Addr) (R:List (List κ.F)) (m:Nat):Prop where
  l:H a=some (.lst (rs.map V.ref))
  r:RowsX κ H rs R
  w:Wid m R
  n1:1<=R.length
  n9:R.length<=100
  m9:m<=100
end My
namespace My
open PySem L2 PyProof.Rows Rg
inductive Zfb (CF CR:Addr) (vs:List V) (H:Hp) (Q:VK) (zE:XK):Prop
  | mk (κ:KX) (s a c:Addr) (rs:List Addr) (R:List (List κ.F)) (xs:List V) (f:List κ.F) (D E M N:Nat) (_:vs=[.ref s,.ref a,.ref c]) (_:KdX CF CR κ H s) (_:H a=some (.lst (rs.map V.ref))) (_:RowsX κ H rs R) (_:Wid f.length R) (_:R.length<=100) (_:f.length<=100) (_:H c=some (.lst xs)) (_:AllG (NR κ H) xs f) (_:AllR (QN κ (D:Int) M) R) (_:(∀x∈f,QN κ (E:Int) N x)) (_:0<D) (_:D<=10^200) (_:0<E) (_:E<=10^200) (_:M<=10^500) (_:N<=10^500) (_:∀(H':Hp) (D:Addr) (ys:List V),Same H H'->H D=none->H' D=some (.lst ys)->AllG (NR κ H') ys (R.map λr=>Zis r f)->Q (.ref D) H'):Zfb CF CR vs H Q zE
end My
namespace My
open PySem L2 PyProof.Rows Rg
section
variable{P:Program}{w:World}{K:PySem.W.Frag}{mg:Str->Option Value}{base:Heap}{CF CR cF:Addr}
theorem Zg0:FnScope ["kind", "table", "column"] ["kind", "table", "column"] (Zah Zda):=⟨rfl,rfl,rfl,by decide +kernel,rfl,by decide +kernel,by decide +kernel⟩
theorem ZkJ(h:Here K mg "sums_with" Zda) (md:Zfa P w K mg base CF CR):Has P w K mg base "sums_with" 4 ["kind", "table", "column"] (Zfb CF CR):=by
  refine h.has (λf fd F=>F.binds λ_ _ _ _ _ _ us hl=>by obtain ⟨_,_,_,rfl⟩:=Zei hl; exact rfl) λf fd F=>F.ok Zg0 (λvs H Q E h=>?_) (λcdv A outer s H vs Q E hr h=>?_)
  · obtain ⟨_,_,_,_,_,_,_,_,_,_,_,_,rfl,_⟩:=h
    rfl
  obtain ⟨κ,sk,a,c,rs,R,xs,f,D,E',M,N,rfl,hk,hA,rx,wd,n9,m9,hC,al,qR,qf,d0,d1,e0,e1,m1,n1,k⟩:=h
  refine ⟨_,(Zaf (Zam (ZbL ["row"] [(0, "kind"),(2, "column")] rfl (Zbi (pv 1)) (by exact λ_ _ _ _=>(Zat (i:=0) (show (["row", "kind", "column"]:List Str).Nodup by decide +kernel) rfl (Or.inl rfl))) (by exact λ_ _ _ _=>(Zdv ⟨rfl,rfl,rfl,rfl,rfl⟩ (pv 1) hr (Zaa (pv 0) (Zaa (pv 2) Zad)))) ⟨⟨rfl,rfl,Or.inl rfl⟩,⟨⟨rfl,rfl,Or.inl rfl⟩,trivial⟩⟩))),?_⟩
  have lr:=rx.1
  refine ⟨_,rfl,a,rfl,⟨_,SqL.of hA⟩,?_⟩
  refine Zbx (K:=K) (a:=a) (xs:=rs.map V.ref) (λi ys H2=>Same H H2/\AllG (NR κ H2) ys ((R.take i).map λr=>Zis r f)) (by rw[Q0]; omega) ⟨Same.refl _,.nil⟩ (λi ys H2 _ q=>SqL.of (q.1 _ _ hA)) ?_ ?_
  · rintro i x ys H2 hx hl ⟨S2,e⟩
    obtain ⟨b,hb,rfl⟩:=ZaT hx
    obtain ⟨g,hg⟩:=ZaL hb lr
    obtain ⟨zs,hz,al2⟩:=rx.2 i b g hb hg
    have mg':=Q9 hg
    have lg:=wd g mg'
    obtain ⟨Cd,dxd,fsd,psd,dvd,spd,k1,k2,k3,k4,rfl,k5⟩:=md κ H2 sk (hk.same S2)
    refine ⟨_,rfl,sk,Cd,dxd,fsd,psd,_,spd,rfl,k1,k2,k3.mono (by decide),k4,_,rfl,_,rfl,k5 H2 b c zs xs g f D E' M N _ (Same.refl _) (S2 _ _ hz) (S2 _ _ hC) (al2.mono λ_ _ n=>n.same S2) (al.mono λ_ _ n=>n.same S2) lg (by omega) (qR g mg') qf d0 d1 e0 e1 m1 n1 λH3 v S3 nv=>⟨S2.trans S3,?_⟩⟩
    rw[W7,hg,Qr]
    exact (e.mono λ_ _ n=>n.same S3).append (.one nv)
  · rintro ys H2 hl ⟨S2,e⟩ Dd nD
    rw[Q0,lr,U4] at e
    have SD:=Zag nD (.lst ys)
    exact k _ Dd ys (S2.trans SD) (S2.free nD) Zae (e.mono λ_ _ n=>n.same SD)
end
end My
namespace My.Rg
open PySem L2 PyProof.Rows
section
variable{α:Type}[Lean.Grind.CommRing α]
theorem ZmA(F:Nat->Nat->α):∀n,Sg (λk=>Sg (λi=>F k i) (k+1)) n=Sg (λi=>Sg (λj=>F (i+j) i) (n-i)) n
  | 0=>rfl
  | n+1=>by
    show Sg _ n+Sg (λi=>F n i) (n+1)=Sg _ n+Sg (λj=>F (n+j) n) (n+1-n)
    rw[ZmA F n,show n+1-n=1 by omega]
    have e:Sg (λi=>Sg (λj=>F (i+j) i) (n+1-i)) n=Sg (λi=>Sg (λj=>F (i+j) i) (n-i)) n+Sg (λi=>F n i) n:=by
      rw[ZdC]
      refine Sg_congr λi hi=>?_
      rw[show n+1-i=(n-i)+1 by omega]
      show _+F (i+(n-i)) i=_
      rw[show i+(n-i)=n by omega]
    rw[e]
    show _+(Sg (λi=>F n i) n+F n n)=_+(0+F (n+0) n)
    generalize Sg (λi=>Sg (λj=>F (i+j) i) (n-i)) n=S
    generalize Sg (λi=>F n i) n=U
    show _=_+(0+F n n)
    grind
theorem ZmB(h:Nat->α):∀n,Sg h n=Sg (λi=>h (n-1-i)) n
  | 0=>rfl
  | n+1=>by
    rw[Zer (λi=>h (n+1-1-i)) n]
    show Sg h n+h n=h n+_
    rw[ZmB h n]
    have e:Sg (λi=>h (n-1-i)) n=Sg (λi=>h (n+1-1-(i+1))) n:=Sg_congr λi _=>by rw[show n+1-1-(i+1)=n-1-i by omega]
    rw[e]
    grind
end
structure Ps (α:Type) where
  c:Nat->α
namespace Ps
section
variable{α:Type}[Lean.Grind.CommRing α]
def nc(n:Nat):α:=@NatCast.natCast α Lean.Grind.Semiring.natCast n
def ic(i:Int):α:=@IntCast.intCast α Lean.Grind.Ring.intCast i
theorem ext{f g:Ps α}(h:∀n,f.c n=g.c n):f=g:=by
  cases f; cases g
  congr 1
  funext n
  exact h n
def add(f g:Ps α):Ps α:=⟨λn=>f.c n+g.c n⟩
def mul(f g:Ps α):Ps α:=⟨λn=>Sg (λi=>f.c i*g.c (n-i)) (n+1)⟩
def neg(f:Ps α):Ps α:=⟨λn => - f.c n⟩
def con(x:α):Ps α:=⟨λn=>if n=0 then x else 0⟩
def pow(f:Ps α):Nat->Ps α
  | 0=>con 1
  | n+1=>mul (pow f n) f
theorem con_mul(x:α)(f:Ps α)(n:Nat):(mul (con x) f).c n=x*f.c n:=by
  show Sg (λi=>(if i=0 then x else 0)*f.c (n-i)) (n+1)=_
  rw[Zer]
  have e:Sg (λi=>(if i+1=0 then x else 0)*f.c (n-(i+1))) n=Sg (λ_=>(0:α)) n:=Sg_congr λi _=>by rw[if_neg (by omega)]; grind
  rw[e,Sg_zero,if_pos rfl]
  show x*f.c n+0=_
  grind
theorem Zfy(f g:Ps α):mul f g=mul g f:=ext λn=>by
  show Sg _ (n+1)=Sg _ (n+1)
  rw[ZmB]
  refine Sg_congr λi hi=>?_
  rw[show n+1-1-i=n-i by omega,show n-(n-i)=i by omega]
  grind
theorem ZoN(f g h:Ps α):mul (mul f g) h=mul f (mul g h):=ext λn=>by
  show Sg (λk=>Sg (λi=>f.c i*g.c (k-i)) (k+1)*h.c (n-k)) (n+1)=Sg (λi=>f.c i*Sg (λj=>g.c j*h.c (n-i-j)) (n-i+1)) (n+1)
  have e:Sg (λk=>Sg (λi=>f.c i*g.c (k-i)) (k+1)*h.c (n-k)) (n+1)=Sg (λk=>Sg (λi=>f.c i*(g.c (k-i)*h.c (n-k))) (k+1)) (n+1):=Sg_congr λk _=>by
    have e1:Sg (λi=>f.c i*g.c (k-i)) (k+1)*h.c (n-k)=h.c (n-k)*Sg (λi=>f.c i*g.c (k-i)) (k+1):=by grind
    rw[e1,ZbX]
    refine Sg_congr λi _=>?_
    grind
  rw[e,ZmA (λk i=>f.c i*(g.c (k-i)*h.c (n-k))) (n+1)]
  refine Sg_congr λi hi=>?_
  rw[ZbX,show n+1-i=n-i+1 by omega]
  refine Sg_congr λj _=>?_
  rw[show i+j-i=j by omega,show n-(i+j)=n-i-j by omega]
theorem Ziu(f g h:Ps α):mul f (add g h)=add (mul f g) (mul f h):=ext λn=>by
  show Sg _ (n+1)=Sg _ (n+1)+Sg _ (n+1)
  rw[ZdC]
  refine Sg_congr λi _=>?_
  show f.c i*(g.c (n-i)+h.c (n-i))=_
  grind
theorem ZkK(f:Ps α):mul (con 1) f=f:=ext λn=>by rw[con_mul]; grind
theorem Ziv(f:Ps α):mul (con 0) f=con 0:=ext λn=>by
  rw[con_mul]
  show 0*f.c n=if n=0 then 0 else 0
  split <;> grind
theorem ZhS{x y:α}(h:x=y):con x=con y:=by rw[h]
instance instRing:Lean.Grind.CommRing (Ps α) where
  add:=add
  mul:=mul
  neg:=neg
  sub f g:=add f (neg g)
  natCast:=⟨λn=>con (nc n)⟩
  ofNat n:=⟨con (OfNat.ofNat n)⟩
  nsmul:=⟨λn f=>mul (con (nc n)) f⟩
  npow:=⟨pow⟩
  intCast:=⟨λi=>con (ic i)⟩
  zsmul:=⟨λi f=>mul (con (ic i)) f⟩
  add_zero f:=ext λn=>by
    show f.c n+(if n=0 then 0 else 0)=f.c n
    split <;> grind
  add_comm f g:=ext λn=>by show f.c n+g.c n=g.c n+f.c n; grind
  add_assoc f g h:=ext λn=>by show f.c n+g.c n+h.c n=f.c n+(g.c n+h.c n); grind
  mul_assoc:=ZoN
  mul_one f:=(Zfy f (con 1)).trans (ZkK f)
  one_mul f:=ZkK f
  left_distrib:=Ziu
  right_distrib f g h:=by
    show mul (add f g) h=add (mul f h) (mul g h)
    rw[Zfy,Ziu,Zfy h f,Zfy h g]
  zero_mul f:=Ziv f
  mul_zero f:=(Zfy f (con 0)).trans (Ziv f)
  pow_zero f:=rfl
  pow_succ f n:=rfl
  ofNat_succ n:=ext λk=>by
    show (if k=0 then OfNat.ofNat (n+1) else 0)=(if k=0 then OfNat.ofNat n else 0)+(if k=0 then (1:α) else 0)
    split
    · exact Lean.Grind.Semiring.ofNat_succ n
    · grind
  ofNat_eq_natCast n:=ZhS (Lean.Grind.Semiring.ofNat_eq_natCast n)
  nsmul_eq_natCast_mul n f:=rfl
  neg_add_cancel f:=ext λn=>by
    show-f.c n+f.c n=if n=0 then 0 else 0
    split <;> grind
  sub_eq_add_neg f g:=rfl
  neg_zsmul i f:=ext λn=>by
    show (mul (con (ic (-i))) f).c n = - (mul (con (ic i)) f).c n
    rw[con_mul,con_mul,show (ic (-i):α) = - ic i from Lean.Grind.Ring.intCast_neg i]
    grind
  zsmul_natCast_eq_nsmul n f:=by
    show mul (con (ic (n:Int))) f=mul (con (nc n)) f
    rw[ZhS (show (ic (n:Int):α)=nc n from Lean.Grind.Ring.intCast_natCast n)]
  intCast_ofNat n:=ZhS (Lean.Grind.Ring.intCast_ofNat n)
  intCast_neg i:=ext λn=>by
    show (if n=0 then (ic (-i):α) else 0) = - (if n=0 then ic i else 0)
    split
    · exact Lean.Grind.Ring.intCast_neg i
    · grind
  mul_comm:=Zfy
theorem c_add(f g:Ps α)(n:Nat):(f+g).c n=f.c n+g.c n:=rfl
theorem c_mul(f g:Ps α)(n:Nat):(f*g).c n=Sg (λi=>f.c i*g.c (n-i)) (n+1):=rfl
theorem c_sub(f g:Ps α)(n:Nat):(f-g).c n=f.c n-g.c n:=by
  show f.c n + - g.c n=_
  grind
theorem c_zero(n:Nat):(0:Ps α).c n=0:=by show (if n=0 then (0:α) else 0)=0; split <;> rfl
theorem c_one(n:Nat):(1:Ps α).c n=if n=0 then 1 else 0:=rfl
theorem c_Sg(h:Nat->Ps α)(n:Nat):∀m,(Sg h m).c n=Sg (λi=>(h i).c n) m
  | 0=>c_zero n
  | m+1=>by
    show (Sg h m+h m).c n=_
    rw[c_add,c_Sg h n m]
    rfl
end
end Ps
end My.Rg
namespace My.Rg
open PySem L2 PyProof.Rows
section
variable{α:Type}[Lean.Grind.CommRing α]
theorem ZhT{j t:Nat}(h:t<j):skip j t=t:=by unfold skip; rw[if_pos h]
theorem ZkL{j t:Nat}(h:j<=t):skip j t=t+1:=by unfold skip; rw[if_neg (by omega)]
theorem Zfc:∀(n:Nat) (B:Nat->Nat->α),(∀j,j<n->B n j=0)->det (n+1) B=B n n*det n B
  | 0,B,_=>by
    show 0+1*B 0 0*1=B 0 0*1
    grind
  | n+1,B,h=>by
    show Sg (λj=>sgn α j*B 0 j*det (n+1) (λi k=>B (i+1) (skip j k))) (n+2)=B (n+1) (n+1)*Sg (λj=>sgn α j*B 0 j*det n (λi k=>B (i+1) (skip j k))) (n+1)
    show Sg _ (n+1)+sgn α (n+1)*B 0 (n+1)*det (n+1) (λi k=>B (i+1) (skip (n+1) k))=_
    rw[Zfc n (λi k=>B (i+1) (skip (n+1) k)) λj hj=>by rw[ZhT (by omega)]; exact h j (by omega)]
    show Sg _ (n+1)+sgn α (n+1)*B 0 (n+1)*(B (n+1) (skip (n+1) n)*det n (λi k=>B (i+1) (skip (n+1) k)))=_
    rw[ZhT (show n<n+1 by omega),h n (by omega),ZbX]
    have e:Sg (λj=>sgn α j*B 0 j*det (n+1) (λi k=>B (i+1) (skip j k))) (n+1)=Sg (λj=>B (n+1) (n+1)*(sgn α j*B 0 j*det n (λi k=>B (i+1) (skip j k)))) (n+1):=Sg_congr λj hj=>by
      rw[Zfc n (λi k=>B (i+1) (skip j k)) λk hk=>h _ (by unfold skip; split <;> omega)]
      show sgn α j*B 0 j*(B (n+1) (skip j n)*_)=_
      rw[ZkL (show j<=n by omega)]
      generalize (det n _:α)=D
      grind
    rw[e]
    generalize (Sg _ (n+1):α)=S
    generalize (det n _:α)=D
    grind
def lin(x y:α):Ps α:=⟨λn=>if n=0 then x else if n=1 then y else 0⟩
theorem ZhU(f:Ps α)(x y:α)(n:Nat):(f*lin x y).c n=f.c n*x+(if n=0 then 0 else f.c (n-1)*y):=by
  rw[Ps.c_mul]
  match n with
  | 0 =>
    show 0+f.c 0*x=f.c 0*x+0
    grind
  | n+1 =>
    show (Sg (λi=>f.c i*(lin x y).c (n+1-i)) n+f.c n*(lin x y).c (n+1-n))+f.c (n+1)*(lin x y).c (n+1-(n+1))=_
    have e:Sg (λi=>f.c i*(lin x y).c (n+1-i)) n=Sg (λ_=>(0:α)) n:=Sg_congr λi hi=>by
      show f.c i*(if n+1-i=0 then x else if n+1-i=1 then y else 0)=0
      rw[if_neg (by omega),if_neg (by omega)]
      grind
    rw[e,Sg_zero,show n+1-n=1 by omega,show n+1-(n+1)=0 by omega,if_neg (by omega),show n+1-1=n by omega]
    show 0+f.c n*y+f.c (n+1)*x=_
    grind
def unz(a:Nat->Nat->α):Nat->Nat->Ps α:=λi j=>lin (if j=i then 1 else 0) (0-a i j)
def wv(a:Nat->Nat->α)(s:Nat):Nat->Nat->α
  | 0,j=>a s j
  | t+1,j=>Sg (λi=>wv a s t i*a i j) s
def yv(a:Nat->Nat->α)(s i:Nat):Ps α:=⟨λn=>match n with
  | 0=>0
  | t+1=>wv a s t i⟩
def cn(a:Nat->Nat->α)(s:Nat):Ps α:=⟨λn=>match n with
  | 0=>1
  | 1=>0-a s s
  | t+2=>0-Sg (λi=>wv a s t i*a i s) s⟩
theorem ZmC(h:Nat->α)(n:Nat):0-Sg h n=Sg (λi=>0-h i) n:=by
  have e:0-Sg h n=(0-1)*Sg h n:=by grind
  rw[e,ZbX]
  exact Sg_congr λi _=>by grind
theorem Zjd(a:Nat->Nat->α){s j:Nat}(hj:j<s):unz a s j+Sg (λi=>yv a s i*unz a i j) s=0:=Ps.ext λn=>by
  rw[Ps.c_add,Ps.c_Sg,Ps.c_zero]
  have e:Sg (λi=>(yv a s i*unz a i j).c n) s=Sg (λi=>(yv a s i).c n*(if j=i then 1 else 0)) s+Sg (λi=>if n=0 then 0 else (yv a s i).c (n-1)*(0-a i j)) s:=by
    rw[ZdC]
    exact Sg_congr λi _=>ZhU _ _ _ _
  rw[e,Zmu,if_pos hj]
  have u:(unz a s j).c n=if n=1 then 0-a s j else 0:=by
    show (if n=0 then (if j=s then (1:α) else 0) else if n=1 then 0-a s j else 0)=_
    rw[if_neg (show ¬j=s by omega)]
    by_cases h:n=0
    · rw[if_pos h,if_neg (by omega)]
    · rw[if_neg h]
  rw[u]
  match n with
  | 0 =>
    rw[if_neg (by omega)]
    have e2:Sg (λi=>if (0:Nat)=0 then (0:α) else (yv a s i).c (0-1)*(0-a i j)) s=Sg (λ_=>(0:α)) s:=Sg_congr λi _=>if_pos rfl
    rw[e2,Sg_zero]
    show (0:α)+(0+0)=0
    grind
  | 1 =>
    rw[if_pos rfl]
    have e2:Sg (λi=>if (1:Nat)=0 then (0:α) else (yv a s i).c (1-1)*(0-a i j)) s=Sg (λ_=>(0:α)) s:=Sg_congr λi _=>by
      rw[if_neg (by omega)]
      show (0:α)*(0-a i j)=0
      grind
    rw[e2,Sg_zero]
    show 0-a s j+(a s j+0)=0
    grind
  | t+2 =>
    rw[if_neg (by omega)]
    have e2:Sg (λi=>if t+2=0 then (0:α) else (yv a s i).c (t+2-1)*(0-a i j)) s=0-Sg (λi=>wv a s t i*a i j) s:=by
      rw[ZmC]
      refine Sg_congr λi _=>?_
      rw[if_neg (by omega)]
      show wv a s t i*(0-a i j)=_
      grind
    rw[e2]
    show 0+(Sg (λi=>wv a s t i*a i j) s+_)=0
    grind
theorem ZhV(a:Nat->Nat->α)(s:Nat):unz a s s+Sg (λi=>yv a s i*unz a i s) s=cn a s:=Ps.ext λn=>by
  rw[Ps.c_add,Ps.c_Sg]
  have e:Sg (λi=>(yv a s i*unz a i s).c n) s=Sg (λi=>if n=0 then 0 else (yv a s i).c (n-1)*(0-a i s)) s:=Sg_congr λi hi=>by
    show (yv a s i*lin (if s=i then 1 else 0) (0-a i s)).c n=_
    rw[ZhU,if_neg (show ¬s=i by omega)]
    grind
  rw[e]
  have u:(unz a s s).c n=if n=0 then 1 else if n=1 then 0-a s s else 0:=by
    show (if n=0 then (if s=s then (1:α) else 0) else if n=1 then 0-a s s else 0)=_
    rw[if_pos rfl]
  rw[u]
  match n with
  | 0 =>
    rw[if_pos rfl]
    have e2:Sg (λi=>if (0:Nat)=0 then (0:α) else (yv a s i).c (0-1)*(0-a i s)) s=Sg (λ_=>(0:α)) s:=Sg_congr λi _=>if_pos rfl
    rw[e2,Sg_zero]
    show (1:α)+0=1
    grind
  | 1 =>
    rw[if_neg (by omega),if_pos rfl]
    have e2:Sg (λi=>if (1:Nat)=0 then (0:α) else (yv a s i).c (1-1)*(0-a i s)) s=Sg (λ_=>(0:α)) s:=Sg_congr λi _=>by
      rw[if_neg (by omega)]
      show (0:α)*(0-a i s)=0
      grind
    rw[e2,Sg_zero]
    show 0-a s s+0=0-a s s
    grind
  | t+2 =>
    rw[if_neg (by omega),if_neg (by omega)]
    show 0+_=0-Sg (λi=>wv a s t i*a i s) s
    rw[ZmC]
    have e2:Sg (λi=>if t+2=0 then (0:α) else (yv a s i).c (t+2-1)*(0-a i s)) s=Sg (λi=>0-wv a s t i*a i s) s:=Sg_congr λi _=>by
      rw[if_neg (by omega)]
      show wv a s t i*(0-a i s)=_
      grind
    rw[e2]
    grind
theorem ZkM(a:Nat->Nat->α)(r:Nat)(f g:Nat->α):ZaC (ZaC a r f) r g=ZaC a r g:=by
  funext i j
  unfold ZaC
  split
  · rfl
  · rfl
theorem Ziw{s:Nat}(E:Nat->Nat->α)(y:Nat->α):∀k,k<=s->det (s+1) (ZaC E s λj=>E s j+Sg (λi=>y i*E i j) k)=det (s+1) E
  | 0,_=>by
    have e:(λj=>E s j+Sg (λi=>y i*E i j) 0)=E s:=by funext j; show E s j+0=_; grind
    rw[e,ZbS]
  | k+1,hk=>by
    rw[<-Ziw E y k (by omega)]
    have h:=Zes (n:=s+1) (a:=ZaC E s λj=>E s j+Sg (λi=>y i*E i j) k) (r:=s) (s:=k) (y k) (by omega) (by omega) (by omega)
    rw[ZkM] at h
    rw[<-h]
    congr 1
    congr 1
    funext j
    unfold ZaC
    rw[if_pos rfl,if_neg (show ¬k=s by omega)]
    show E s j+(Sg (λi=>y i*E i j) k+y k*E k j)=_
    grind
def qz(n:Nat)(a:Nat->Nat->α):Ps α:=det n (unz a)
theorem qz_step(a:Nat->Nat->α)(s:Nat):qz (s+1) a=cn a s*qz s a:=by
  show det (s+1) (unz a)=_
  rw[<-Ziw (unz a) (yv a s) s (Q1 s),Zfc]
  · have e1:ZaC (unz a) s (λj=>unz a s j+Sg (λi=>yv a s i*unz a i j) s) s s=cn a s:=by
      unfold ZaC
      rw[if_pos rfl]
      exact ZhV a s
    rw[e1]
    congr 1
    exact Zax λi j hi _=>by unfold ZaC; rw[if_neg (by omega)]
  · intro j hj
    unfold ZaC
    rw[if_pos rfl]
    exact Zjd a hj
theorem ZkN:∀j,sgn (Ps α) j=Ps.con (sgn α j)
  | 0=>rfl
  | j+1=>Ps.ext λn=>by
    show (0-sgn (Ps α) j).c n=(if n=0 then 0-sgn α j else 0)
    rw[Ps.c_sub,ZkN j,Ps.c_zero]
    show 0-(if n=0 then sgn α j else 0)=_
    split <;> grind
theorem ZoO(j:Nat)(x y:α)(D:Ps α)(n:Nat):(sgn (Ps α) j*lin x y*D).c n=sgn α j*(x*D.c n+(if n=0 then 0 else y*D.c (n-1))):=by
  have e:sgn (Ps α) j*lin x y*D=sgn (Ps α) j*(D*lin x y):=by generalize lin x y=L; grind
  rw[e,ZkN]
  show (Ps.mul (Ps.con (sgn α j)) (D*lin x y)).c n=_
  rw[Ps.con_mul,ZhU]
  split <;> grind
theorem ZhW:∀(n:Nat) (A B:Nat->Nat->α),(∀m,n<m->(det n λi j=>lin (A i j) (B i j)).c m=0)/\(det n λi j=>lin (A i j) (B i j)).c n=det n B
  | 0,A,B=>by
    refine ⟨λm hm=>?_,?_⟩
    · show (1:Ps α).c m=0
      rw[Ps.c_one,if_neg (by omega)]
    · show (1:Ps α).c 0=1
      rw[Ps.c_one,if_pos rfl]
  | n+1,A,B=>by
    have ih:=λj=>ZhW n (λi k=>A (i+1) (skip j k)) (λi k=>B (i+1) (skip j k))
    have e:∀m,(det (n+1) λi j=>lin (A i j) (B i j)).c m=Sg (λj=>sgn α j*(A 0 j*(det n λi k=>lin (A (i+1) (skip j k)) (B (i+1) (skip j k))).c m+(if m=0 then 0 else B 0 j*(det n λi k=>lin (A (i+1) (skip j k)) (B (i+1) (skip j k))).c (m-1)))) (n+1):=λm=>by
      show (Sg (λj=>sgn (Ps α) j*lin (A 0 j) (B 0 j)*det n (λi k=>lin (A (i+1) (skip j k)) (B (i+1) (skip j k)))) (n+1)).c m=_
      rw[Ps.c_Sg]
      exact Sg_congr λj _=>ZoO _ _ _ _ _
    refine ⟨λm hm=>?_,?_⟩
    · rw[e m]
      have z:∀j,j<n+1->sgn α j*(A 0 j*(det n λi k=>lin (A (i+1) (skip j k)) (B (i+1) (skip j k))).c m+(if m=0 then 0 else B 0 j*(det n λi k=>lin (A (i+1) (skip j k)) (B (i+1) (skip j k))).c (m-1)))=0:=λj _=>by
        rw[(ih j).1 m (by omega),if_neg (by omega),(ih j).1 (m-1) (by omega)]
        grind
      rw[Sg_congr z,Sg_zero]
    · rw[e (n+1)]
      show _=Sg (λj=>sgn α j*B 0 j*det n (λi k=>B (i+1) (skip j k))) (n+1)
      refine Sg_congr λj _=>?_
      rw[(ih j).1 (n+1) (by omega),if_neg (by omega),show n+1-1=n by omega,(ih j).2]
      generalize (det n _:α)=D
      grind
theorem ZkO:∀(n:Nat) (a:Nat->Nat->α),det n (λi j=>0-a i j)=sgn α n*det n a
  | 0,a=>by show (1:α)=1*1; grind
  | n+1,a=>by
    show Sg (λj=>sgn α j*(0-a 0 j)*det n (λi k=>0-a (i+1) (skip j k))) (n+1)=(0-sgn α n)*Sg (λj=>sgn α j*a 0 j*det n (λi k=>a (i+1) (skip j k))) (n+1)
    rw[ZbX]
    refine Sg_congr λj _=>?_
    rw[ZkO n (λi k=>a (i+1) (skip j k))]
    generalize (det n _:α)=D
    grind
theorem qz_deg(n:Nat)(a:Nat->Nat->α){m:Nat}(h:n<m):(qz n a).c m=0:=(ZhW n _ _).1 m h
theorem qz_top(n:Nat)(a:Nat->Nat->α):(qz n a).c n=sgn α n*det n a:=by
  rw[<-ZkO]
  exact (ZhW n _ _).2
theorem sgn_sq(n:Nat):sgn α n*sgn α n=1:=by
  induction n with
  | zero=>show (1:α)*1=1; grind
  | succ n ih=>show (0-sgn α n)*(0-sgn α n)=1; rw[<-ih]; grind
def cv(a:Nat->Nat->α)(s:Nat)(u:Nat->α):Nat->Nat->α
  | 0,i=>u i
  | t+1,i=>Sg (λk=>a i k*cv a s u t k) s
theorem ZoP(a:Nat->Nat->α)(s:Nat):∀(t:Nat) (u:Nat->α) (i:Nat),cv a s (cv a s u 1) t i=cv a s u (t+1) i
  | 0,u,i=>rfl
  | t+1,u,i=>by
    show Sg (λk=>a i k*cv a s (cv a s u 1) t k) s=Sg (λk=>a i k*cv a s u (t+1) k) s
    exact Sg_congr λk _=>by rw[ZoP a s t u k]
theorem wv_cv(a:Nat->Nat->α)(s:Nat):∀(t:Nat) (u:Nat->α),Sg (λi=>wv a s t i*u i) s=Sg (λj=>a s j*cv a s u t j) s
  | 0,u=>rfl
  | t+1,u=>by
    have e:Sg (λi=>wv a s (t+1) i*u i) s=Sg (λi=>Sg (λl=>wv a s t l*(a l i*u i)) s) s:=Sg_congr λi _=>by
      show Sg (λl=>wv a s t l*a l i) s*u i=_
      have e1:Sg (λl=>wv a s t l*a l i) s*u i=u i*Sg (λl=>wv a s t l*a l i) s:=by grind
      rw[e1,ZbX]
      exact Sg_congr λl _=>by grind
    rw[e,Zkw]
    have e2:Sg (λj=>Sg (λi=>wv a s t j*(a j i*u i)) s) s=Sg (λl=>wv a s t l*cv a s u 1 l) s:=Sg_congr λl _=>by
      rw[<-ZbX]; rfl
    rw[e2,wv_cv a s t (cv a s u 1)]
    exact Sg_congr λj _=>by rw[ZoP]
end
end My.Rg
namespace My
open PySem L2 PyProof.Rows Rg
section
variable{κ:KX}
theorem ZoQ(n:Nat):Rg.sgn κ.F n=sgn κ n:=rfl
theorem ZhX(f g:List κ.F):∀k,Zhb f g k=Rg.Sg (λi=>f.getD i 0*g.getD i 0) k
  | 0=>rfl
  | k+1=>by show Zhb f g k+_=Rg.Sg _ k+_; rw[ZhX f g k]
noncomputable def coL(f:Rg.Ps κ.F)(n:Nat):List κ.F:=(List.range n).map f.c
theorem Zdk(f:Rg.Ps κ.F)(n:Nat):(coL f n).length=n:=by unfold coL; rw[Q0,W4]
theorem Zgi(f:Rg.Ps κ.F){n i:Nat}(h:i<n):(coL f n).getD i 0=f.c i:=by
  unfold coL
  rw[Q4,Qh,Wj h]
  rfl
theorem Zeu{f:List κ.F}{i:Nat}(h:f.length<=i):f.getD i 0=0:=by
  rw[Q4,Ur h]; rfl
theorem Zix(f:Rg.Ps κ.F)(n:Nat):coL f (n+1)=coL f n++[f.c n]:=by
  unfold coL
  rw[Ut,Qr]
  rfl
theorem ZkP{f:Rg.Ps κ.F}{n:Nat}{x:κ.F}(h:x∈coL f n):∃i,i<n/\x=f.c i:=by
  obtain ⟨i,hi,rfl⟩:=W0.mp h
  exact ⟨i,U5.mp hi,rfl⟩
noncomputable def pN(f g:List κ.F)(place:Nat):κ.F:=Rg.Sg (λi=>f.getD i 0*g.getD (place-i) 0) (place+1)
theorem ZmD(h:Nat->κ.F)(lo:Nat)(z:∀i,i<lo->h i=0):∀k,Rg.Sg h (lo+k)=Rg.Sg (λi=>h (lo+i)) k
  | 0=>by
    show Rg.Sg h lo=0
    rw[Rg.Sg_congr z,Rg.Sg_zero]
  | k+1=>by
    show Rg.Sg h (lo+k)+h (lo+k)=_+h (lo+k)
    rw[ZmD h lo z k]
theorem ZoR{a:Nat->Nat->κ.F}{s place:Nat}(h:place<s+2):pN (coL (Rg.cn a s) (s+2)) (coL (Rg.qz s a) (s+1)) place=(Rg.qz (s+1) a).c place:=by
  rw[Rg.qz_step,Rg.Ps.c_mul]
  unfold pN
  refine Rg.Sg_congr λi hi=>?_
  rw[Zgi _ (by omega)]
  by_cases q:place-i<s+1
  · rw[Zgi _ q]
  · rw[Zeu (by rw[Zdk]; omega),Rg.qz_deg s a (show s<place-i by omega)]
def EE(κ:KX):Nat:=match κ with
  | .q=>2^300
  | .r _ _=>0
abbrev GG(κ:KX):Nat:=7*EE κ
theorem Zl6{h:Nat->κ.F}{M:Nat}:∀k,(∀i,i<k->QN κ 1 M (h i))->QN κ 1 (k*M) (Rg.Sg h k)
  | 0,_=>QN.zero
  | k+1,e=>by
    rw[Nat.succ_mul]
    exact QN.add (by decide) (Zl6 k λi hi=>e i (by omega)) (e k (by omega))
theorem QN.mul1{M N:Nat}{x y:κ.F}(h:QN κ 1 M x)(g:QN κ 1 N y):QN κ 1 (M*N) (x*y):=h.mul g
theorem QN.neg1{M:Nat}{x:κ.F}(h:QN κ 1 M x):QN κ 1 M (0-x):=by
  cases κ with
  | r p hp=>exact trivial
  | q =>
    obtain ⟨X,rfl,l⟩:=h
    refine ⟨-X,?_,by rw[Int.natAbs_neg]; exact l⟩
    show (0:Rat)-Rat.divInt X 1=Rat.divInt (-X) 1
    rw[<-Rat.neg_divInt]
    generalize Rat.divInt X 1=z
    grind
theorem qn1:QN κ 1 1 (1:κ.F):=by
  cases κ with
  | r p hp=>exact trivial
  | q=>exact ⟨1,by show (1:Rat)=Rat.divInt 1 1; decide +kernel,by decide⟩
theorem ZkQ{D:Int}{M:Nat}{A:List (List κ.F)}(h:AllR (QN κ D M) A)(i j:Nat):QN κ D M (ent A i j):=by
  unfold ent
  by_cases q:j<(A.getD i []).length
  · refine h.getD i _ ?_
    rw[Q4 (l:=A.getD i []),Q5 q]
    exact Qp _
  · rw[Zeu (by omega)]
    exact QN.zero
theorem Zl7{a:Nat->Nat->κ.F}{s:Nat}(h:∀i j,QN κ 1 (EE κ) (a i j))(hs:s<=7):∀t i,QN κ 1 ((GG κ)^t*(EE κ)) (Rg.cv a s (λi=>a i s) t i)
  | 0,i=>(h i s).mono (by rw[Nat.pow_zero,Ul]; exact Q1 _)
  | t+1,i=>by
    refine QN.mono (Zl6 (M:=(EE κ)*((GG κ)^t*(EE κ))) s λk _=>(h i k).mul1 (Zl7 h hs t k)) ?_
    rw[Wc,W8 ((GG κ)^t) (GG κ) (EE κ),show (GG κ)*(EE κ)=7*((EE κ)*(EE κ)) by rw[show (GG κ)=7*(EE κ) from rfl,W8],<-W8 (EE κ) ((GG κ)^t) (EE κ),U0 (EE κ) ((GG κ)^t),W8 ((GG κ)^t) (EE κ) (EE κ),Nat.mul_left_comm ((GG κ)^t) 7]
    exact Ws _ hs
theorem ZmE{a:Nat->Nat->κ.F}{s:Nat}(h:∀i j,QN κ 1 (EE κ) (a i j))(hs:s<=7)(t:Nat):QN κ 1 ((GG κ)^(t+2)) (Rg.Sg (λj=>a s j*Rg.cv a s (λi=>a i s) t j) s):=by
  refine QN.mono (Zl6 (M:=(EE κ)*((GG κ)^t*(EE κ))) s λk _=>(h s k).mul1 (Zl7 h hs t k)) ?_
  have e:(GG κ)^(t+2)=49*((EE κ)*((GG κ)^t*(EE κ))):=by
    rw[show t+2=t+1+1 from rfl,Wc,Wc,W8,show (GG κ)*(GG κ)=49*((EE κ)*(EE κ)) by rw[show (GG κ)=7*(EE κ) from rfl,Nat.mul_mul_mul_comm],<-W8 (EE κ) ((GG κ)^t) (EE κ),U0 (EE κ) ((GG κ)^t),W8 ((GG κ)^t) (EE κ) (EE κ),Nat.mul_left_comm ((GG κ)^t) 49]
  rw[e]
  exact Ws _ (by omega)
theorem ZmF(a:Nat->Nat->κ.F)(s t:Nat):(Rg.cn a s).c (t+2)=0-Rg.Sg (λj=>a s j*Rg.cv a s (λi=>a i s) t j) s:=by
  show 0-Rg.Sg (λi=>Rg.wv a s t i*a i s) s=_
  rw[Rg.wv_cv a s t (λi=>a i s)]
theorem ZoS{a:Nat->Nat->κ.F}{s:Nat}(h:∀i j,QN κ 1 (EE κ) (a i j))(hs:s<=7):∀i,QN κ 1 ((GG κ)^i) ((Rg.cn a s).c i)
  | 0=>qn1
  | 1=>(h s s).neg1.mono (by rw[Nat.pow_one]; show (EE κ)<=7*(EE κ); omega)
  | t+2=>by
    rw[ZmF]
    exact (ZmE h hs t).neg1
theorem ZnK{a:Nat->Nat->κ.F}(h:∀i j,QN κ 1 (EE κ) (a i j)):∀s,s<=7->∀i,QN κ 1 (8^s*(GG κ)^i) ((Rg.qz s a).c i)
  | 0,_,i=>by
    show QN κ 1 _ ((1:Rg.Ps κ.F).c i)
    rw[Rg.Ps.c_one]
    by_cases q:i=0
    · rw[if_pos q,q]; exact qn1
    · rw[if_neg q]; exact QN.zero
  | s+1,hs,i=>by
    by_cases q:i<=s+1
    · rw[Rg.qz_step,Rg.Ps.c_mul]
      refine QN.mono (Zl6 (M:=8^s*(GG κ)^i) (i+1) λk hk=>?_) ?_
      · refine QN.mono ((ZoS h (by omega) k).mul1 (ZnK h s (by omega) (i-k))) ?_
        rw[Nat.mul_left_comm,<-Um,show k+(i-k)=i by omega]
        exact Q1 _
      · rw[Wc,U0 (8^s) 8,W8]
        exact Ws _ (by omega)
    · rw[Rg.qz_deg (s+1) a (by omega)]
      exact QN.zero
theorem eeL:EE κ<=10^500:=by
  cases κ with
  | r p hp=>exact Qd _
  | q=>exact (by decide:2^300<=10^500)
theorem gg5{i:Nat}(hi:κ = .q->i<=5):GG κ^i<=10^500:=by
  cases κ with
  | r p hp=>exact Q2 (Nat.pow_le_pow_left (show GG (.r p hp)<=1 by show 7*0<=1; decide) i) (by rw[Nat.one_pow]; decide)
  | q=>exact Q2 (Qe (show 0<7*2^300 by decide) (hi rfl)) (by decide)
theorem gg4{i:Nat}(hi:κ = .q->i<=4):GG κ^i*EE κ<=10^500:=by
  cases κ with
  | r p hp=>exact Qd _
  | q=>exact Q2 (Ws (2^300) (Qe (show 0<7*2^300 by decide) (hi rfl))) (by decide)
theorem qz5{s i:Nat}(hs:s<=7)(hi:κ = .q->i<=5):8^s*GG κ^i<=10^500:=by
  have a:8^s<=8^7:=Qe (by decide) hs
  cases κ with
  | r p hp=>exact Q2 (W9 a (Nat.pow_le_pow_left (show GG (.r p hp)<=1 by show 7*0<=1; decide) i)) (by rw[Nat.one_pow]; decide)
  | q=>exact Q2 (W9 a (Qe (show 0<7*2^300 by decide) (hi rfl))) (by decide)
theorem ZoT{a:Nat->Nat->κ.F}{t i:Nat}(h:∀i j,QN κ 1 (EE κ) (a i j))(ht:t<=7)(hi:κ = .q->i<=5):QN κ 1 (GG κ^5) ((Rg.cn a t).c i):=by
  cases κ with
  | r p hp=>exact trivial
  | q=>exact (ZoS h ht i).mono (Qe (show 0<7*2^300 by decide) (hi rfl))
theorem ZoU{a:Nat->Nat->κ.F}{t i:Nat}(h:∀i j,QN κ 1 (EE κ) (a i j))(ht:t<=7)(hi:κ = .q->i<=5):QN κ 1 (8^t*GG κ^5) ((Rg.qz t a).c i):=by
  cases κ with
  | r p hp=>exact trivial
  | q=>exact (ZnK h t ht i).mono (Wr _ (Qe (show 0<7*2^300 by decide) (hi rfl)))
theorem Zg1{M:Nat}{x:κ.F}(h:QN κ 1 M x)(l:M<=10^500):B1 κ x:=h.b1 (by decide) (Q6 (show 1<2^1 by decide) (Qe (by decide) (by decide))) (Qk l (Q6 (show 10^500<2^2000 by decide) (Qe (by decide) (by decide))))
theorem ZoV(n:Nat)(a:Nat->Nat->κ.F):(Rg.qz n a).c n=sgn κ n*det n a:=by
  exact Rg.qz_top n a
end
inductive Zbr (CF CR:Addr) (vs:List V) (H:Hp) (Q:VK) (zE:XK):Prop
  | mk (κ:KX) (s fa ga:Addr) (xs ys:List V) (f g:List κ.F) (place M N:Nat) (_:vs=[.ref s,.ref fa,.ref ga,.int (place:Int)]) (_:KdX CF CR κ H s) (_:H fa=some (.lst xs)) (_:AllG (NR κ H) xs f) (_:H ga=some (.lst ys)) (_:AllG (NR κ H) ys g) (_:place+1<=f.length) (_:f.length<=90) (_:g.length<=90) (_:(∀x∈f,QN κ 1 M x)) (_:(∀x∈g,QN κ 1 N x)) (_:M<=10^500) (_:N<=10^500) (_:∀H' v,Same H H'->NR κ H' v (pN f g place)->Q v H'):Zbr CF CR vs H Q zE
inductive Zdl (vs:List V) (H:Hp) (Q:VK) (zE:XK):Prop
  | mk (κ:KX) (a:Addr) (rs:List Addr) (R:List (List κ.F)) (m j:Nat) (_:vs=[.ref a,.int (j:Int)]) (_:H a=some (.lst (rs.map V.ref))) (_:RowsX κ H rs R) (_:Wid m R) (_:R.length<=100) (_:j<m) (_:∀(H':Hp) (D:Addr) (ys:List V),Same H H'->H D=none->H' D=some (.lst ys)->AllG (NR κ H') ys (R.map λr=>r.getD j 0)->Q (.ref D) H'):Zdl vs H Q zE
inductive Zfd (CF CR:Addr) (vs:List V) (H:Hp) (Q:VK) (zE:XK):Prop
  | mk (κ:KX) (s tb:Addr) (rs:List Addr) (A:List (List κ.F)) (n size:Nat) (_:vs=[.ref s,.ref tb,.int (size:Int)]) (_:KdX CF CR κ H s) (_:H tb=some (.lst (rs.map V.ref))) (_:RowsX κ H rs A) (_:A.length=n) (_:Wid n A) (_:n<=7) (_:(κ = .q->n<=4)) (_:size<n) (_:AllR (QN κ 1 (EE κ)) A) (_:∀(H':Hp) (D:Addr) (ys:List V),Same H H'->H' D=some (.lst ys)->AllG (NR κ H') ys (coL (Rg.cn (ent A) size) (size+2))->Q (.ref D) H'):Zfd CF CR vs H Q zE
inductive Zd6 (CF CR:Addr) (vs:List V) (H:Hp) (Q:VK) (zE:XK):Prop
  | mk (κ:KX) (s tb:Addr) (rs:List Addr) (A:List (List κ.F)) (n:Nat) (_:vs=[.ref s,.ref tb]) (_:KdX CF CR κ H s) (_:H tb=some (.lst (rs.map V.ref))) (_:RowsX κ H rs A) (_:A.length=n) (_:Wid n A) (_:n<=7) (_:(κ = .q->n<=4)) (_:AllR (QN κ 1 (EE κ)) A) (_:∀(H':Hp) (D:Addr) (ys:List V),Same H H'->H' D=some (.lst ys)->AllG (NR κ H') ys (coL (Rg.qz n (ent A)) (n+1))->Q (.ref D) H'):Zd6 CF CR vs H Q zE
inductive Zd7 (CF CR cF:Addr) (vs:List V) (H:Hp) (Q:VK) (E:XK):Prop
  | mk (κ:KX) (s tb:Addr) (rs:List Addr) (A:List (List κ.F)) (m:Nat) (_:vs=[.ref s,.ref tb]) (_:KdX CF CR κ H s) (_:TabR κ H tb rs A m) (_:(A.length≠m->E (.ref cF) none H)) (_:(A.length=m->m<=7/\SzD κ A/\∀H' v,Same H H'->NR κ H' v (det m (ent A))->Q v H')):Zd7 CF CR cF vs H Q E
end My
namespace My
open PySem L2 PyProof.Rows Rg
theorem Zl8(xs:List V){a b:Nat}(hab:a<=b)(hb:b<=xs.length):Zfs xs (some (a:Int)) (some (b:Int))=(xs.drop a).take (b-a):=by
  unfold Zfs
  rw[HT.sIx_nat,HT.sIx_nat,Nat.min_eq_left (show a<=xs.length by omega),Nat.min_eq_left hb]
theorem ZkR{κ:KX}{H:Hp}{xs:List V}{f:List κ.F}(al:AllG (NR κ H) xs f){a k:Nat}:AllG (NR κ H) ((xs.drop a).take k) ((f.drop a).take k):=Zgf (al.drop a) k
section
variable{P:Program}{w:World}{K:PySem.W.Frag}{mg:Str->Option Value}{base:Heap}{CF CR cN cF:Addr}
theorem sc_product_number:FnScope ["kind", "some", "others", "place", "start", "bound"] ["kind", "some", "others", "place"] (Zah ZbE):=⟨rfl,rfl,rfl,by decide +kernel,rfl,by decide +kernel,by decide +kernel⟩
theorem Zd8(h:Here K mg "product_number" ZbE) (T:Nm mg) (Tmax:mg "max" = none) (Tmin:mg "min" = none) (md:Zfa P w K mg base CF CR):Has P w K mg base "product_number" 4 ["kind", "some", "others", "place"] (Zbr CF CR):=by
  refine h.has (λf fd F=>F.binds λ_ _ _ _ _ _ us hl=>by obtain ⟨_,_,_,_,rfl⟩:=Zom hl; exact rfl) λf fd F=>F.ok sc_product_number (λvs H Q E h=>?_) (λcdv A outer s H vs Q E hr h=>?_)
  · obtain ⟨_,_,_,_,_,_,_,_,_,_,_,rfl,_⟩:=h
    rfl
  obtain ⟨κ,sk,fa,ga,xs,ys,f,g,pl,M,N,rfl,hk,hF,aF,hG,aG,lp,l9,g9,qf,qg,hM,hN,k⟩:=h
  have nd:=sc_product_number.nd
  refine ⟨_,(Zab (Zaj (i:=4) nd rfl (Or.inl rfl) (Zas (Zjv rfl) (by rfl) Tmax PyProof.Rows.Boot.max (Zaa Zac (Zaa (Zai ZaY (Zai Zc1 (pv 3) (Zas Zan (by rfl) T.len boot_len (Zaa (pv 2) Zad))) Zac) Zad))))
    (Zab (Zaj (i:=5) nd rfl (Or.inl rfl) (Zas (Zjw rfl) (by rfl) Tmin PyProof.Rows.Boot.min (Zaa (Zai ZaY (pv 3) Zac) (Zaa (Zas Zan (by rfl) T.len boot_len (Zaa (pv 1) Zad)) Zad))))
    (Zaf (Zam (ZaK (pv 0) hr (Zaa (ZbU ZdK (pv 1) (Zcf (pv 4)) (Zcf (pv 5))) (Zaa (ZbL ["each"] [(2, "others"),(3, "place")] rfl (Zev (by rfl) T.range (Zaa (pv 4) (Zaa (pv 5) Zad))) (by exact λ_ _ _ _=>(Zat (i:=0) (show (["each", "others", "place"]:List Str).Nodup by decide +kernel) rfl (Or.inl rfl))) (by exact λ_ _ _ _=>(Zak (ZfH K rfl) (pv 1) (Zai Zc1 (pv 2) (pv 0)) (λ_ _=>rfl))) ⟨⟨rfl,rfl,Or.inl rfl⟩,⟨⟨rfl,rfl,Or.inl rfl⟩,trivial⟩⟩) Zad))))))),?_⟩
  have lx:=aF.1
  have ly:=aG.1
  refine ⟨_,rfl,_,rfl,ga,_,rfl,.inl (SqL.of hG),_,_,rfl,rfl,_,_,rfl,rfl,_,_,rfl,?_⟩
  obtain ⟨st,est,hst,hst2⟩:∃st:Nat,(if (pl:Int)-(ys.length:Int)+1>0 then (pl:Int)-(ys.length:Int)+1 else 0)=(st:Int)/\st<=pl+1/\(st=pl+1-g.length):=by
    refine ⟨pl+1-g.length,?_,by omega,rfl⟩
    split <;> omega
  show Zb6 4 (V.int (if (pl:Int)-(ys.length:Int)+1>0 then (pl:Int)-(ys.length:Int)+1 else 0)) _ H _
  rw[est]
  refine ⟨_,rfl,_,_,rfl,rfl,_,rfl,fa,_,rfl,.inl (SqL.of hF),_,_,rfl,?_⟩
  have eb:(if (xs.length:Int)<(pl:Int)+1 then (xs.length:Int) else (pl:Int)+1)=((pl+1:Nat):Int):=by split <;> omega
  show Zb6 5 (V.int (if (xs.length:Int)<(pl:Int)+1 then (xs.length:Int) else (pl:Int)+1)) _ H _
  rw[eb]
  obtain ⟨Cd,dxd,fsd,psd,dvd,spd,k1,k2,k3,k4,rfl,k5⟩:=md κ H sk hk
  refine ⟨_,rfl,sk,Cd,dxd,fsd,psd,_,spd,rfl,k1,k2,k3.mono (by decide),k4,_,rfl,_,rfl,_,rfl,_,rfl,_,rfl,fa,xs,rfl,SqL.of hF,λsl nsl=>?_⟩
  rw[Zl8 xs hst (by omega)]
  have Ss:=Zag nsl (.lst ((xs.drop st).take (pl+1-st)))
  have qs:=Zae (H:=H) (a:=sl) (o:=.lst ((xs.drop st).take (pl+1-st)))
  generalize upd H sl (.lst ((xs.drop st).take (pl+1-st)))=H1 at *
  refine ⟨_,rfl,_,rfl,_,_,rfl,⟨by omega,by omega,by omega,by omega⟩,?_⟩
  have en:((((pl+1:Nat):Int))-(st:Int)).toNat=pl+1-st:=by omega
  rw[en]
  refine ZcO (lo:=(st:Int)) (n:=pl+1-st) (λq zs H2=>H2=H1/\AllG (NR κ H1) zs ((List.range q).map λi=>g.getD (pl-(st+i)) 0)) (by omega) ⟨rfl,.nil⟩ ?_ ?_
  · rintro q zs H2 hq _ ⟨rfl,e⟩
    obtain ⟨v,hv,nv⟩:=ZcH aG (i:=pl-(st+q)) (by omega)
    refine ⟨_,rfl,_,rfl,_,rfl,_,_,rfl,rfl,ga,_,_,v,rfl,rfl,SqL.of (Ss _ _ hG),?_,rfl,?_⟩
    · rw[show (pl:Int)-((st:Int)+(q:Int))=((pl-(st+q):Nat):Int) by omega]
      exact Za5 hv
    · rw[Ut,Qr]
      exact e.append (.one (nv.same Ss))
  rintro zs H2 _ ⟨rfl,e⟩ lz nlz
  have Sz:=Zag nlz (.lst zs)
  have qz:=Zae (H:=H2) (a:=lz) (o:=.lst zs)
  generalize upd H2 lz (.lst zs)=H3 at *
  have S03:=Ss.trans Sz
  have lsl:((f.drop st).take (pl+1-st)).length=pl+1-st:=by rw[Ql,Wp]; omega
  refine k5 H3 sl lz _ zs ((f.drop st).take (pl+1-st)) ((List.range (pl+1-st)).map λi=>g.getD (pl-(st+i)) 0) 1 1 M N _ S03 (Sz _ _ qs) qz (ZkR (aF.mono λ_ _ n=>n.same S03)) (e.mono λ_ _ n=>n.same Sz) (by rw[lsl,Q0,W4]) (by omega) (λx hx=>qf x (List.mem_of_mem_drop (Wb hx))) (λx hx=>?_) (by decide) (by decide) (by decide) (by decide) hM hN λH4 v S4 nv=>?_
  · obtain ⟨i,hi,rfl⟩:=W0.mp hx
    by_cases q:pl-(st+i)<g.length
    · refine qg _ ?_
      rw[Q4,Q5 q]
      exact Qp _
    · rw[Zeu (by omega)]; exact QN.zero
  · refine k H4 v (S03.trans S4) ?_
    have ev:Zis ((f.drop st).take (pl+1-st)) ((List.range (pl+1-st)).map λi=>g.getD (pl-(st+i)) 0)=pN f g pl:=by
      unfold Zis pN
      rw[lsl,ZhX,show pl+1=st+(pl+1-st) by omega,ZmD (λi=>f.getD i 0*g.getD (pl-i) 0) st (λi hi=>by rw[Zeu (f:=g) (by omega)]; grind),show st+(pl+1-st)-st=pl+1-st by omega]
      refine Rg.Sg_congr λi hi=>?_
      have e1:((f.drop st).take (pl+1-st)).getD i 0=f.getD (st+i) 0:=by
        rw[Q4,Wz,if_pos hi,List.getElem?_drop,<-Q4]
      have e2:((List.range (pl+1-st)).map λi=>g.getD (pl-(st+i)) 0).getD i 0=g.getD (pl-(st+i)) 0:=by
        rw[Q4,Qh,Wj hi]; rfl
      rw[e1,e2]
    rw[<-ev]
    exact nv
theorem Zg2:FnScope ["table", "place"] ["table", "place"] (Zah Zc9):=⟨rfl,rfl,rfl,by decide +kernel,rfl,by decide +kernel,by decide +kernel⟩
theorem ZhY(h:Here K mg "column_at" Zc9):Has P w K mg base "column_at" 1 ["table", "place"] Zdl:=by
  refine h.has (λf fd F=>F.binds λ_ _ _ _ _ _ us hl=>by obtain ⟨_,_,rfl⟩:=Zed hl; exact rfl) λf fd F=>F.ok Zg2 (λvs H Q E h=>?_) (λcdv A outer s H vs Q E hr h=>?_)
  · obtain ⟨_,_,_,_,_,_,rfl,_⟩:=h
    rfl
  obtain ⟨κ,a,rs,R,m,j,rfl,hA,rx,wd,n9,jm,k⟩:=h
  refine ⟨_,(Zaf (Zam (ZbL ["row"] [(1, "place")] rfl (Zbi (pv 0)) (by exact λ_ _ _ _=>(Zat (i:=0) (show (["row", "place"]:List Str).Nodup by decide +kernel) rfl (Or.inl rfl))) (by exact λ_ _ _ _=>(Zak (ZfH K rfl) (pv 0) (pv 1) (λ_ _=>rfl))) ⟨⟨rfl,rfl,Or.inl rfl⟩,trivial⟩))),?_⟩
  have lr:=rx.1
  refine ⟨_,rfl,a,rfl,⟨_,SqL.of hA⟩,?_⟩
  refine Zbx (K:=K) (a:=a) (xs:=rs.map V.ref) (λi ys H2=>H2=H/\AllG (NR κ H) ys ((R.take i).map λr=>r.getD j 0)) (by rw[Q0]; omega) ⟨rfl,.nil⟩ (λi ys H2 _ q=>by rw[q.1]; exact SqL.of hA) ?_ ?_
  · rintro i x ys H2 hx hl ⟨rfl,e⟩
    obtain ⟨b,hb,rfl⟩:=ZaT hx
    obtain ⟨f,hf⟩:=ZaL hb lr
    obtain ⟨zs,hz,al⟩:=rx.2 i b f hb hf
    obtain ⟨v,hv,nv⟩:=ZcH al (i:=j) (by rw[wd f (Q9 hf)]; exact jm)
    refine ⟨_,rfl,_,rfl,b,_,_,v,rfl,rfl,SqL.of hz,Za5 hv,rfl,?_⟩
    rw[W7,hf,Qr]
    exact e.append (.one nv)
  · rintro ys H2 hl ⟨rfl,e⟩ D nD
    rw[Q0,lr,U4] at e
    have SD:=Zag nD (.lst ys)
    exact k _ D ys SD nD Zae (e.mono λ_ _ n=>n.same SD)
end
end My
namespace L2
open PySem PySem.Spec PyProof.Rows
section
variable{X:Cx}
theorem Zl9(K:PySem.W.Frag)(h:X.K=K):SlR X (ZpS K):=by subst h; exact ZdK
end
end L2
namespace My
open PySem L2 PyProof.Rows Rg
theorem Ziy{κ:KX}{A:List (List κ.F)}{s:Nat}(h:s<=A.length):A.take s=(List.range s).map λi=>A.getD i []:=by
  apply List.ext_getElem?
  intro i
  rw[Wz,Qh]
  by_cases q:i<s
  · rw[if_pos q,Wj q]
    show A[i]?=some (A.getD i [])
    rw[Q4,Q5 (by omega)]
    rfl
  · rw[if_neg q,Ur (by rw[W4]; omega)]
    rfl
noncomputable def cvL{κ:KX}(a:Nat->Nat->κ.F)(s t:Nat):List κ.F:=(List.range s).map (Rg.cv a s (λi=>a i s) t)
theorem ZhZ{κ:KX}(a:Nat->Nat->κ.F)(s t:Nat):(cvL a s t).length=s:=by unfold cvL; rw[Q0,W4]
theorem ZkS{κ:KX}{A:List (List κ.F)}{n s t i:Nat}(wd:Wid n A)(hs:s<=n)(hi:i<A.length):Zis ((A.getD i []).take s) (cvL (ent A) s t)=Rg.Sg (λj=>ent A i j*Rg.cv (ent A) s (λi=>ent A i s) t j) s:=by
  have w:=wd.get hi
  have l:((A.getD i []).take s).length=s:=by rw[Ql]; omega
  unfold Zis
  rw[l,ZhX]
  refine Rg.Sg_congr λj hj=>?_
  have e1:((A.getD i []).take s).getD j 0=ent A i j:=by
    unfold ent
    rw[Q4,Wz,if_pos hj,<-Q4]
  have e2:(cvL (ent A) s t).getD j 0=Rg.cv (ent A) s (λi=>ent A i s) t j:=by
    unfold cvL
    rw[Q4,Qh,Wj hj]
    rfl
  rw[e1,e2]
theorem ZnL{κ:KX}{A:List (List κ.F)}{n s t:Nat}(wd:Wid n A)(hs:s<=n)(hn:A.length=n):((A.take s).map (List.take s)).map (λr=>Zis r (cvL (ent A) s t))=cvL (ent A) s (t+1):=by
  rw[Ziy (by omega),List.map_map,List.map_map]
  unfold cvL
  refine List.map_congr_left λi hi=>?_
  have hi:=U5.mp hi
  exact ZkS wd hs (by omega)
theorem ZoW{κ:KX}{A:List (List κ.F)}{n s:Nat}(hs:s<=n)(hn:A.length=n):(A.take s).map (λr=>r.getD s 0)=cvL (ent A) s 0:=by
  rw[Ziy (by omega),List.map_map]
  rfl
section
variable{P:Program}{w:World}{K:PySem.W.Frag}{mg:Str->Option Value}{base:Heap}{CF CR cN cF:Addr}
theorem sc_corner_numbers:FnScope ["kind", "table", "size", "row", "inner", "column", "falling", "turn"] ["kind", "table", "size"] (Zah ZbF):=⟨rfl,rfl,rfl,by decide +kernel,rfl,by decide +kernel,by decide +kernel⟩
theorem Zd9(h:Here K mg "corner_numbers" ZbF) (T:Nm mg) (mn:ZbO P w K mg base CF CR) (mm:ZlO P w K mg base CF CR) (md:Zfa P w K mg base CF CR) (h_column_at:Has P w K mg base "column_at" 4 ["table", "place"] Zdl) (h_sums_with:Has P w K mg base "sums_with" 4 ["kind", "table", "column"] (Zfb CF CR)):Has P w K mg base "corner_numbers" 5 ["kind", "table", "size"] (Zfd CF CR):=by
  refine h.has (λf fd F=>F.binds λ_ _ _ _ _ _ us hl=>by obtain ⟨_,_,_,rfl⟩:=Zei hl; exact rfl) λf fd F=>F.ok sc_corner_numbers (λvs H Q E h=>?_) (λcdv A outer s H vs Q E hr h=>?_)
  · obtain ⟨_,_,_,_,_,_,_,rfl,_⟩:=h
    rfl
  obtain ⟨κ,sk,tb,rs,A,n,sz,rfl,hk,hT,rx,lA,wd,n5,n4,hs,qA,k⟩:=h
  have nd:=sc_corner_numbers.nd
  refine ⟨_,(Zab (Zaj (i:=3) nd rfl (Or.inl rfl) (ZbU ZdK (Zak Zau (pv 1) (pv 2) (λ_ _=>rfl)) Zc5 (Zcf (pv 2))))
    (Zab (ZbJ (i:=4) ["each"] [(2, "size")] nd rfl rfl rfl (Zbi (ZbU ZdK (pv 1) Zc5 (Zcf (pv 2)))) (by exact λ_ _ _ _=>(Zat (i:=0) (show (["each", "size"]:List Str).Nodup by decide +kernel) rfl (Or.inl rfl))) (by exact λ_ _ _ _=>(ZbU (Zl9 K rfl) (pv 0) Zc5 (Zcf (pv 1)))) ⟨⟨rfl,rfl,Or.inl rfl⟩,trivial⟩)
    (Zab (Zaj (i:=5) nd rfl (Or.inl rfl) (Zao h_column_at hr (by rfl) (Zaa (ZbU ZdK (pv 1) Zc5 (Zcf (pv 2))) (Zaa (pv 2) Zad))))
    (Zab (Zaj (i:=6) nd rfl (Or.inl rfl) (Zb9 (Zaa (ZaH (pv 0) ZcY hr (Zaa Zac Zad)) (Zaa (ZaK (pv 0) hr (Zaa (ZaH (pv 0) ZcY hr (Zaa Zac Zad)) (Zaa (Zak Zau (Zak Zau (pv 1) (pv 2) (λ_ _=>rfl)) (pv 2) (λ_ _=>rfl)) Zad))) Zad))))
    (Zab (Za7 PassesOwn.never rfl (ZaJ (by rfl) T.range (Zaa (pv 2) Zad)) (Zat (i:=7) nd rfl (Or.inl rfl)) (Zab (ZaO (ZfD PySem.F.plainAttrs_list PySem.F.slot_list_append PySem.F.type_list_append Zbc (pv 6) (Zaa (ZaK (pv 0) hr (Zaa (ZaH (pv 0) ZcY hr (Zaa Zac Zad)) (Zaa (ZaK (pv 0) hr (Zaa (pv 3) (Zaa (pv 5) Zad))) Zad))) Zad)))
      (Zaf (Zaj (i:=5) nd rfl (Or.inl rfl) (Zao h_sums_with hr (by rfl) (Zaa (pv 0) (Zaa (pv 4) (Zaa (pv 5) Zad))))))))
    (Zaf (Zam (pv 6)))))))),?_⟩
  have lr:=rx.1
  have qe:=λi j=>ZkQ qA i j
  obtain ⟨ra,xs,ga,hxs,al⟩:=rx.get (i:=sz) (by omega)
  have eR:A.getD sz []=A[sz]:=Zaw (Q5 (by omega))
  rw[<-eR] at al
  have lrow:=wd.get (i:=sz) (by omega)
  have lxs:xs.length=n:=by rw[al.1]; exact lrow
  refine ⟨_,rfl,_,rfl,tb,_,_,_,rfl,rfl,SqL.of hT,Zcr ga,_,rfl,_,rfl,ra,xs,rfl,SqL.of hxs,λrw_ nrw=>?_⟩
  rw[show Zfs xs none (some (sz:Int))=xs.take sz from ZcE xs sz]
  have Sr:=Zag nrw (.lst (xs.take sz))
  have qr:=Zae (H:=H) (a:=rw_) (o:=.lst (xs.take sz))
  generalize upd H rw_ (.lst (xs.take sz))=H1 at *
  refine ⟨_,rfl,_,rfl,_,rfl,tb,_,rfl,SqL.of (Sr _ _ hT),λsl nsl=>?_⟩
  have ecut:Zfs (rs.map V.ref) none (some (sz:Int))=(rs.take sz).map V.ref:=by rw[Us]; exact ZcE _ sz
  rw[ecut]
  have Ssl:=Zag nsl (.lst ((rs.take sz).map V.ref))
  have qsl:=Zae (H:=H1) (a:=sl) (o:=.lst ((rs.take sz).map V.ref))
  generalize upd H1 sl (.lst ((rs.take sz).map V.ref))=H2 at *
  have S02:=Sr.trans Ssl
  have lrt:(rs.take sz).length=sz:=by rw[Ql]; omega
  refine ⟨sl,rfl,⟨_,SqL.of qsl⟩,?_⟩
  refine Zbx (K:=K) (a:=sl) (xs:=(rs.take sz).map V.ref) (λi ys H3=>∃cs:List Addr,ys=cs.map V.ref/\Same H2 H3/\RowsX κ H3 cs ((A.take i).map (List.take sz))) (by rw[Q0]; omega) ⟨[],rfl,Same.refl _,by rw[List.take_zero]; exact .nil⟩ (λi ys H3 _ ⟨as,_,S,_⟩=>SqL.of (S _ _ qsl)) ?_ ?_
  · rintro i x ys H3 hx hl ⟨cs,rfl,S3,rc⟩
    obtain ⟨b,hb,rfl⟩:=ZaT hx
    have hi:i<sz:=by have:=(Qf.mp hb).1; omega
    rw[Wz,if_pos hi] at hb
    obtain ⟨f,hf⟩:=ZaL hb lr
    obtain ⟨zs,hz,alz⟩:=rx.2 i b f hb hf
    refine ⟨_,rfl,_,rfl,_,rfl,b,zs,rfl,SqL.of (S3 _ _ (S02 _ _ hz)),λl nl=>?_⟩
    rw[show Zfs zs none (some (sz:Int))=zs.take sz from ZcE zs sz]
    have Sl:=Zag nl (.lst (zs.take sz))
    refine ⟨cs++[l],by rw[Qr]; rfl,S3.trans Sl,?_⟩
    rw[W7,hf,Qr]
    exact (rc.same Sl).snoc Zae (Zgf (alz.mono λ_ _ n=>n.same (S02.trans (S3.trans Sl))) sz)
  rintro ys H3 hl ⟨is,rfl,S3,rc⟩ inr ninr
  rw[Q0,lrt] at rc
  have Si:=Zag ninr (.lst (is.map V.ref))
  have qi:=Zae (H:=H3) (a:=inr) (o:=.lst (is.map V.ref))
  generalize upd H3 inr (.lst (is.map V.ref))=H4 at *
  have S04:=S02.trans (S3.trans Si)
  have rI:=rc.same Si
  refine ⟨_,rfl,_,rfl,_,rfl,tb,_,rfl,SqL.of (S04 _ _ hT),λs2 ns2=>?_⟩
  rw[ecut]
  have S2:=Zag ns2 (.lst ((rs.take sz).map V.ref))
  have q2:=Zae (H:=H4) (a:=s2) (o:=.lst ((rs.take sz).map V.ref))
  generalize upd H4 s2 (.lst ((rs.take sz).map V.ref))=H5 at *
  have S05:=S04.trans S2
  have rT:RowsX κ H5 (rs.take sz) (A.take sz):=by
    have r5:=rx.same S05
    refine ⟨by rw[Ql,Ql,r5.1],λi a f ha hf=>?_⟩
    rw[Wz] at ha hf
    by_cases q:i<sz
    · rw[if_pos q] at ha hf; exact r5.2 i a f ha hf
    · rw[if_neg q] at ha; cases ha
  refine ⟨_,rfl,κ,s2,rs.take sz,A.take sz,n,sz,rfl,q2,rT,(λf hf=>wd f (Wb hf)),by rw[Ql]; omega,hs,λH6 col cs S6 ncol hcol acol=>?_⟩
  rw[ZoW (by omega) lA] at acol
  have S06:=S05.trans S6
  obtain ⟨C,dx,fs,ps,dvs,sp,c1,c2,c3,c4,rfl,c5⟩:=mn κ H6 sk (hk.same S06)
  refine ⟨_,rfl,sk,C,dx,fs,ps,_,sp,rfl,c1,c2,c3.mono (by decide),c4,c5 H6 1 1 _ _ (Same.refl _) ZcZ λv1 H7 S7 n1=>?_⟩
  have S07:=S06.trans S7
  obtain ⟨Cm,dxm,fsm,psm,dvm,spm,m1,m2,m3,m4,rfl,m5⟩:=mm κ H7 sk (hk.same S07)
  obtain ⟨C',dx',fs',ps',dvs',sp',d1,d2,d3,d4,rfl,d5⟩:=mn κ H7 sk (hk.same S07)
  obtain ⟨ve,hve,nve⟩:=ZcH al (i:=sz) (by omega)
  refine ⟨_,rfl,sk,Cm,dxm,fsm,psm,_,spm,rfl,m1,m2,m3.mono (by decide),m4,_,rfl,sk,C',dx',fs',ps',_,sp',rfl,d1,d2,d3.mono (by decide),d4,d5 H7 0 0 _ _ (Same.refl _) Zf1 λv0 H8 S8 n0=>?_⟩
  have S08:=S07.trans S8
  refine ⟨_,rfl,_,rfl,tb,_,_,_,rfl,rfl,SqL.of (S08 _ _ hT),Zcr ga,_,rfl,ra,_,_,ve,rfl,rfl,SqL.of (S08 _ _ hxs),Za5 hve,?_⟩
  refine m5 H8 v0 ve 0 _ _ S8 n0 (nve.same S08) (Zg1 (M:=1) QN.zero (by decide)) (Zg1 (qe sz sz) eeL) λv2 H9 S9 n2=>?_
  refine ⟨(by show 2<=sizeLine; decide),λfl nfl=>?_⟩
  have S69:=S7.trans (S8.trans S9)
  have S09:=S06.trans S69
  have Sf:=Zag nfl (.lst [v1,v2])
  have qf:=Zae (H:=H9) (a:=fl) (o:=.lst [v1,v2])
  have af:AllG (NR κ (upd H9 fl (.lst [v1,v2]))) [v1,v2] (coL (Rg.cn (ent A) sz) (0+2)):=by
    have a2:AllG (NR κ (upd H9 fl (.lst [v1,v2]))) ([v1]++[v2]) ([(1:κ.F)]++[0-ent A sz sz]):=(AllG.one (((n1.same S8).same S9).same Sf)).append (.one (n2.same Sf))
    exact a2
  generalize upd H9 fl (.lst [v1,v2])=Ha at *
  refine ⟨_,rfl,(sz:Int),rfl,by omega,by omega,?_⟩
  rw[Q7]
  have hR9:H9 rw_=some (.lst (xs.take sz)):=S69 _ _ (S6 _ _ (S2 _ _ (Si _ _ (S3 _ _ (Ssl _ _ qr)))))
  have hI9:H9 inr=some (.lst (is.map V.ref)):=S69 _ _ (S6 _ _ (S2 _ _ qi))
  have rI9:RowsX κ H9 is ((A.take sz).map (List.take sz)):=((rI.same S2).same S6).same S69
  have aR9:AllG (NR κ H9) (xs.take sz) ((A.getD sz []).take sz):=Zgf (al.mono λ_ _ n=>n.same S09) sz
  have ncf:col≠fl:=λz=>by rw[z] at hcol; rw[S69 _ _ hcol] at nfl; cases nfl
  refine ZaP (lo:=0) (n:=sz) (λt σ Hb=>∃(z7:Option V) (col:Addr) (cs ys:List V),σ=[some (.ref sk),some (.ref tb),some (.int (sz:Int)),some (.ref rw_),some (.ref inr),some (.ref col),some (.ref fl),z7]/\Same H9 Hb/\Hb fl=some (.lst ys)/\AllG (NR κ Hb) ys (coL (Rg.cn (ent A) sz) (t+2))/\Hb col=some (.lst cs)/\AllG (NR κ Hb) cs (cvL (ent A) sz t)/\col≠fl) ⟨_,col,cs,_,rfl,Sf,qf,af,Sf _ _ (S69 _ _ hcol),acol.mono (λ_ _ n=>(n.same S69).same Sf),ncf⟩ ?_ ?_
  · rintro t σ Hb ht ⟨z7,col,cs,ys,rfl,Sb,hfl,afl,hcl,acl,ne⟩
    have S0b:=S09.trans Sb
    have lfl:ys.length=t+2:=by rw[afl.1,Zdk]
    obtain ⟨Cm,dxm,fsm,psm,dvm,spm,m1,m2,m3,m4,rfl,m5⟩:=mm κ Hb sk (hk.same S0b)
    obtain ⟨C',dx',fs',ps',dvs',sp',d1,d2,d3,d4,rfl,d5⟩:=mn κ Hb sk (hk.same S0b)
    refine ⟨_,rfl,.inl ⟨rfl,_,SqL.of hfl⟩,_,rfl,sk,Cm,dxm,fsm,psm,_,spm,rfl,m1,m2,m3.mono (by decide),m4,_,rfl,sk,C',dx',fs',ps',_,sp',rfl,d1,d2,d3.mono (by decide),d4,d5 Hb 0 0 _ _ (Same.refl _) Zf1 λv0 Hc Sc n0=>?_⟩
    obtain ⟨Cd,dxd,fsd,psd,dvd,spd,k1,k2,k3,k4,rfl,k5⟩:=md κ Hc sk (hk.same (S0b.trans Sc))
    have S9c:=Sb.trans Sc
    have l1:((A.getD sz []).take sz).length=sz:=by rw[Ql]; omega
    refine ⟨_,rfl,sk,Cd,dxd,fsd,psd,_,spd,rfl,k1,k2,k3.mono (by decide),k4,_,rfl,_,rfl,?_⟩
    refine k5 Hc rw_ col _ cs ((A.getD sz []).take sz) (cvL (ent A) sz t) 1 1 (EE κ) (GG κ^t*EE κ) _ (Same.refl _) (S9c _ _ hR9) (Sc _ _ hcl) (aR9.mono λ_ _ n=>n.same S9c) (acl.mono λ_ _ n=>n.same Sc) (by rw[l1,ZhZ]) (by omega) (λx hx=>qA.getD sz x (Wb hx)) (λx hx=>?_) (by decide) (by decide) (by decide) (by decide) eeL (gg4 (λz=>by have:=n4 z; omega)) λHd vd Sd nvd=>?_
    · obtain ⟨i,_,rfl⟩:=W0.mp hx
      exact Zl7 qe (by omega) t i
    rw[ZkS wd (by omega) (by omega)] at nvd
    refine m5 Hd v0 vd 0 _ _ (Sc.trans Sd) (n0.same Sd) nvd (Zg1 (M:=1) QN.zero (by decide)) (Zg1 (ZmE qe (by omega) t) (gg5 (λz=>by have:=n4 z; omega))) λv9 He Se n9=>?_
    rw[<-ZmF] at n9
    have Sbe:=Sc.trans (Sd.trans Se)
    have hfe:=Sbe _ _ hfl
    refine ⟨fl,_,_,rfl,rfl,hfe,Q6 (show ys.length<1000 by omega) (by decide),?_⟩
    have Of:Off [fl] He (upd He fl (.lst (ys++[v9]))):=Zay (Same.refl He)
    have afl2:AllG (NR κ (upd He fl (.lst (ys++[v9])))) (ys++[v9]) (coL (Rg.cn (ent A) sz) (t+1+2)):=by
      rw[show t+1+2=(t+2)+1 by omega,Zix]
      exact (afl.mono λ_ _ n=>(n.same Sbe).off hfe Of).append (.one (n9.off hfe Of))
    have S9f:Same H9 (upd He fl (.lst (ys++[v9]))):=Off.same Of (Sb.trans Sbe) (λz hz=>by rw[Q3.mp hz]; exact nfl)
    have hf2:=Zae (H:=He) (a:=fl) (o:=.lst (ys++[v9]))
    have hcl2:upd He fl (.lst (ys++[v9])) col=some (.lst cs):=by rw[Zap ne]; exact Sbe _ _ hcl
    have acl2:AllG (NR κ (upd He fl (.lst (ys++[v9])))) cs (cvL (ent A) sz t):=acl.mono λ_ _ n=>(n.same Sbe).off hfe Of
    generalize upd He fl (.lst (ys++[v9]))=Hf at *
    refine ⟨_,rfl,_,rfl,_,rfl,κ,sk,inr,col,is,(A.take sz).map (List.take sz),cs,cvL (ent A) sz t,1,1,EE κ,GG κ^t*EE κ,rfl,hk.same (S09.trans S9f),S9f _ _ hI9,rI9.same S9f,(λf hf=>?_),by rw[Q0,Ql]; omega,by rw[ZhZ]; omega,hcl2,acl2,(λf hf x hx=>?_),(λx hx=>?_),by decide,by decide,by decide,by decide,eeL,gg4 (λz=>by have:=n4 z; omega),λHg D zs Sg nD hD aD=>?_⟩
    · obtain ⟨g,hg,rfl⟩:=W0.mp hf
      have:=wd g (Wb hg)
      rw[Ql,ZhZ]; omega
    · obtain ⟨g,hg,rfl⟩:=W0.mp hf
      exact qA g (Wb hg) x (Wb hx)
    · obtain ⟨i,_,rfl⟩:=W0.mp hx
      exact Zl7 qe (by omega) t i
    rw[ZnL wd (by omega) lA] at aD
    exact ⟨_,D,zs,_,rfl,S9f.trans Sg,Sg _ _ hf2,afl2.mono (λ_ _ n=>n.same Sg),hD,aD,λz=>by rw[z,hf2] at nD; cases nD⟩
  · rintro σ Hb ⟨z7,col,cs,ys,rfl,Sb,hfl,afl,-⟩
    exact ⟨_,rfl,k Hb fl ys (S09.trans Sb) hfl afl⟩
theorem sc_falling_numbers:FnScope ["kind", "table", "numbers", "size", "corner"] ["kind", "table"] (Zah Zbn):=⟨rfl,rfl,rfl,by decide +kernel,rfl,by decide +kernel,by decide +kernel⟩
theorem ZdG(h:Here K mg "falling_numbers" Zbn) (T:Nm mg) (mn:ZbO P w K mg base CF CR) (h_corner_numbers:Has P w K mg base "corner_numbers" 5 ["kind", "table", "size"] (Zfd CF CR)) (h_product_number:Has P w K mg base "product_number" 5 ["kind", "some", "others", "place"] (Zbr CF CR)):Has P w K mg base "falling_numbers" 6 ["kind", "table"] (Zd6 CF CR):=by
  refine h.has (λf fd F=>F.binds λ_ _ _ _ _ _ us hl=>by obtain ⟨_,_,rfl⟩:=Zed hl; exact rfl) λf fd F=>F.ok sc_falling_numbers (λvs H Q E h=>?_) (λcdv A outer s H vs Q E hr h=>?_)
  · obtain ⟨_,_,_,_,_,_,rfl,_⟩:=h
    rfl
  obtain ⟨κ,sk,tb,rs,A,n,rfl,hk,hT,rx,lA,wd,n5,n4,qA,k⟩:=h
  have nd:=sc_falling_numbers.nd
  refine ⟨_,(Zab (Zaj (i:=2) nd rfl (Or.inr rfl) (Zb9 (Zaa (ZaH (pv 0) ZcY hr (Zaa Zac Zad)) Zad)))
    (Zab (Za7 PassesOwn.never rfl (ZaJ (by rfl) T.range (Zaa (Zas Zan (by rfl) T.len boot_len (Zaa (pv 1) Zad)) Zad)) (Zat (i:=3) nd rfl (Or.inl rfl)) (Zab (Zaj (i:=4) nd rfl (Or.inr rfl) (Zao h_corner_numbers hr (by rfl) (Zaa (pv 0) (Zaa (pv 1) (Zaa (pv 3) Zad)))))
      (Zaf (Zaj (i:=2) nd rfl (Or.inr rfl) (ZbL ["place"] [(0, "kind"),(4, "corner"),(2, "numbers")] rfl (ZaJ (by rfl) T.range (Zaa (Zai ZaY (pv 3) Zac) Zad)) (by exact λ_ _ _ _=>(Zat (i:=0) (show (["place", "kind", "corner", "numbers"]:List Str).Nodup by decide +kernel) rfl (Or.inl rfl))) (by exact λ_ _ _ _=>(Zao h_product_number hr (by rfl) (Zaa (pv 1) (Zaa (pv 2) (Zaa (pv 3) (Zaa (pv 0) Zad)))))) ⟨⟨rfl,rfl,Or.inl rfl⟩,⟨⟨rfl,rfl,Or.inl rfl⟩,⟨⟨rfl,rfl,Or.inl rfl⟩,trivial⟩⟩⟩)))))
    (Zaf (Zam (pv 2))))),?_⟩
  have lr:=rx.1
  have qe:=λi j=>ZkQ qA i j
  obtain ⟨C,dx,fs,ps,dvs,sp,c1,c2,c3,c4,rfl,c5⟩:=mn κ H sk hk
  refine ⟨_,rfl,sk,C,dx,fs,ps,_,sp,rfl,c1,c2,c3.mono (by decide),c4,c5 H 1 1 _ _ (Same.refl _) ZcZ λv1 H1 S1 n1=>?_⟩
  refine ⟨(by show 1<=sizeLine; decide),λnl nnl=>?_⟩
  have Sn:=Zag nnl (.lst [v1])
  have qn:=Zae (H:=H1) (a:=nl) (o:=.lst [v1])
  have an:AllG (NR κ (upd H1 nl (.lst [v1]))) [v1] (coL (Rg.qz 0 (ent A)) (0+1)):=AllG.one (n1.same Sn)
  generalize upd H1 nl (.lst [v1])=H2 at *
  have S02:=S1.trans Sn
  refine ⟨_,rfl,tb,_,rfl,.inl (SqL.of (S02 _ _ hT)),(n:Int),?_,by omega,by omega,?_⟩
  · rw[Q0,lr,lA]
  rw[Q7]
  refine ZaP (lo:=0) (n:=n) (λt σ Hb=>∃(z3 z4:Option V) (nl:Addr) (ys:List V),σ=[some (.ref sk),some (.ref tb),some (.ref nl),z3,z4]/\Same H Hb/\Hb nl=some (.lst ys)/\AllG (NR κ Hb) ys (coL (Rg.qz t (ent A)) (t+1))) ⟨_,_,nl,_,rfl,S02,qn,an⟩ ?_ ?_
  · rintro t σ Hb ht ⟨z3,z4,nl,ys,rfl,Sb,hnl,anl⟩
    refine ⟨_,rfl,_,rfl,_,rfl,κ,sk,tb,rs,A,n,t,(by rw[Qq]; rfl),hk.same Sb,Sb _ _ hT,rx.same Sb,lA,wd,n5,n4,ht,qA,λHc D zs Sc hD aD=>?_⟩
    have S0c:=Sb.trans Sc
    refine ⟨_,rfl,_,_,rfl,rfl,((t+2:Nat):Int),?_,by omega,by omega,?_⟩
    · rw[Qq]; rfl
    rw[Q7]
    have e1:∀x∈coL (Rg.cn (ent A) t) (t+2),QN κ 1 (GG κ^5) x:=λx hx=>by
      obtain ⟨i,hi,rfl⟩:=ZkP hx
      exact ZoT qe (by omega) (λz=>by have:=n4 z; omega)
    have e2:∀x∈coL (Rg.qz t (ent A)) (t+1),QN κ 1 (8^t*GG κ^5) x:=λx hx=>by
      obtain ⟨i,hi,rfl⟩:=ZkP hx
      exact ZoU qe (by omega) (λz=>by have:=n4 z; omega)
    refine ZcO (lo:=0) (n:=t+2) (λq ws H2=>Same Hc H2/\AllG (NR κ H2) ws (coL (Rg.qz (t+1) (ent A)) q)) (by omega) ⟨Same.refl _,.nil⟩ ?_ ?_
    · rintro q ws Hd hq _ ⟨Sd,aw⟩
      refine ⟨_,rfl,_,rfl,_,rfl,_,rfl,κ,sk,D,nl,zs,ys,_,_,q,GG κ^5,8^t*GG κ^5,(by rw[Qq]; rfl),hk.same (S0c.trans Sd),Sd _ _ hD,aD.mono (λ_ _ n=>n.same Sd),Sd _ _ (Sc _ _ hnl),anl.mono (λ_ _ n=>(n.same Sc).same Sd),by rw[Zdk]; omega,by rw[Zdk]; omega,by rw[Zdk]; omega,e1,e2,gg5 (λ_=>Q1 5),qz5 (by omega) (λ_=>Q1 5),λHe v Se nv=>⟨Sd.trans Se,?_⟩⟩
      rw[ZoR hq] at nv
      rw[Zix]
      exact (aw.mono λ_ _ n=>n.same Se).append (.one nv)
    · rintro ws Hd _ ⟨Sd,aw⟩ nl2 nnl2
      have S2:=Zag nnl2 (.lst ws)
      exact ⟨_,_,nl2,ws,rfl,S0c.trans (Sd.trans S2),Zae,aw.mono λ_ _ n=>n.same S2⟩
  · rintro σ Hb ⟨z3,z4,nl,ys,rfl,Sb,hnl,anl⟩
    exact ⟨_,rfl,k Hb nl ys Sb hnl anl⟩
end
end My
namespace My
open PySem L2 PyProof.Rows Rg
theorem Zma{ys:List V}{m:Nat}{v:V}(hv:ys[m]?=some v)(l:ys.length=m+1):atI ys (-1)=some v:=by
  unfold atI
  rw[Zl2 (by omega)]
  show ys[ys.length-1]?=_
  rw[show ys.length-1=m by omega]; exact hv
section
variable{P:Program}{w:World}{K:PySem.W.Frag}{mg:Str->Option Value}{base:Heap}{CF CR cN cF:Addr}
theorem sc_without:FnScope ["kind", "table", "part", "last"] ["kind", "table"] (Zah ZeL):=⟨rfl,rfl,rfl,by decide +kernel,rfl,by decide +kernel,by decide +kernel⟩
theorem Zje(h:Here K mg "without" ZeL) (T:Nm mg) (mnS:Zet P w K mg base CF CR) (mt:ZhA P w K mg base CF CR "times" (λ_ x y=>x*y)) (h_need_square:HasX P w K mg base "need_square" 6 ["table"] (Za2 cF)) (h_freed:Has P w K mg base "freed" 6 ["kind", "table"] (ZdE CF CR)) (h_falling_numbers:Has P w K mg base "falling_numbers" 6 ["kind", "table"] (Zd6 CF CR)) (h_sign_of:Has P w K mg base "sign_of" 6 ["count"] ZcW):HasX P w K mg base "without" 7 ["kind", "table"] (Zd7 CF CR cF):=by
  refine h.hasX (λf fd F=>F.binds λ_ _ _ _ _ _ us hl=>by obtain ⟨_,_,rfl⟩:=Zed hl; exact rfl) λf fd F=>F.okx sc_without (λvs H Q E h=>?_) (λcdv A outer s H vs Q E hr h=>?_)
  · obtain ⟨_,_,_,_,_,_,rfl,_⟩:=h
    rfl
  obtain ⟨κ,sk,tb,rs,A,m,rfl,hk,ta,kF,kS⟩:=h
  have nd:=sc_without.nd
  refine ⟨_,(Zab (ZaO (ZdM h_need_square ZgJ hr (by rfl) (Zaa (pv 1) Zad)))
    (Zab (Zaj (i:=2) nd rfl (Or.inl rfl) (Zao h_freed hr (by rfl) (Zaa (pv 0) (Zaa (pv 1) Zad))))
    (Zab (Zaj (i:=3) nd rfl (Or.inl rfl) (Zak Zau (Zao h_falling_numbers hr (by rfl) (Zaa (pv 0) (Zaa (Zak Zal (pv 2) Zac (λ_ _=>rfl)) Zad))) (ZdJ Zb8 Zac) (λ_ _=>rfl)))
    (Zaf (Zam (ZaK (pv 0) hr (Zaa (pv 3) (Zaa (ZaH (pv 0) ZgJ hr (Zaa (Zao h_sign_of hr (by rfl) (Zaa (Zas Zan (by rfl) T.len boot_len (Zaa (pv 1) Zad)) Zad)) (Zaa (Zak Zal (pv 2) Zac (λ_ _=>rfl)) Zad))) Zad)))))))),?_⟩
  refine ⟨_,rfl,κ,tb,rs,A,m,rfl,ta,(λsq=>?_),kF⟩
  obtain ⟨m5,sz,k⟩:=kS sq
  have lr:=ta.r.1
  have n1:=ta.n1
  refine ⟨_,rfl,_,rfl,κ,sk,tb,rs,A,m,rfl,hk,ta.l,ta.r,ta.w,by omega,by omega,sz,λH1 tp D ds F b y c S1 htp hD rF wF lF qF bt eF ey=>?_⟩
  have lFm:F.length=m:=by omega
  have m4:κ = .q->m<=4:=λz=>by have:=(sz z).1; omega
  have dF:det m (ent F)=y*det m (ent A):=by
    rw[ey,sq]
    exact ZcV m (Q1 _) λi j hi hj=>by rw[if_pos hi]; exact eF i j (by omega) hj
  have qF1:AllR (QN κ 1 (EE κ)) F:=λf hf x hx=>by
    have q:=qF f hf x hx
    cases κ with
    | r p hp=>exact trivial
    | q=>obtain ⟨X,e,l⟩:=q; exact ⟨X,e,Qt l.lt⟩
  refine ⟨_,rfl,_,rfl,tp,_,0,_,rfl,rfl,SqT.of htp,rfl,κ,sk,D,ds,F,m,rfl,hk.same S1,hD,rF,lFm,wF,m5,m4,qF1,λH2 L ys S2 hL aL=>?_⟩
  have S02:=S1.trans S2
  obtain ⟨v,hv,nv⟩:=ZcH aL (i:=m) (by rw[Zdk]; omega)
  rw[Zgi _ (by omega)] at nv
  have lys:ys.length=m+1:=by rw[aL.1,Zdk]
  refine ⟨_,rfl,L,_,_,v,rfl,rfl,SqL.of hL,?_,?_⟩
  · exact Zma hv lys
  obtain ⟨Ct,dxt,fst,pst,dvt,spt,t1,t2,t3,t4,rfl,t5⟩:=mt κ H2 sk (hk.same S02)
  obtain ⟨Cn,dxn,fsn,psn,dvn,spn,e1,e2,e3,e4,rfl,e5⟩:=mnS κ H2 sk (hk.same S02)
  have lb:b.natAbs<=10^1000:=Q2 (Qt bt.l.lt) (by decide)
  refine ⟨_,rfl,sk,Ct,dxt,fst,pst,_,spt,rfl,t1,t2,t3.mono (by decide),t4,_,rfl,_,rfl,sk,Cn,dxn,fsn,psn,_,spn,rfl,e1,e2,e3.mono (by decide),e4,_,rfl,tb,_,rfl,.inl (SqL.of (S02 _ _ ta.l)),m,(by rw[Q0,lr,sq]; rfl),_,rfl,tp,_,1,_,rfl,rfl,SqT.of (S2 _ _ htp),rfl,e5 H2 _ b (sgn κ m) y _ _ (Same.refl _) (by split <;> decide) (ZkE _) bt.n bt.ne bt.p lb bt.r λv4 H5 S5 n4=>?_⟩
  have bx:B1 κ ((Rg.qz m (ent F)).c m):=Zg1 (ZnK (λi j=>ZkQ qF1 i j) m m5 m) (qz5 m5 (λz=>by have:=m4 z; omega))
  refine t5 H5 v v4 _ _ _ S5 (nv.same S5) n4 bx (Zd5 bt) λv6 H6 S6 n6=>?_
  refine k H6 v6 (S02.trans (S5.trans S6)) ?_
  have e:det m (ent A)=(Rg.qz m (ent F)).c m*(sgn κ m*Fd.inv y):=by
    rw[ZoV,dF]
    have mi:=Fd.mul_inv y bt.ne
    have s2:sgn κ m*sgn κ m=1:=by rw[<-ZoQ]; exact Rg.sgn_sq m
    generalize Fd.inv y=q at *
    generalize det m (ent A)=d at *
    generalize sgn κ m=s at *
    have:d=q*(y*d):=by grind
    grind
  rw[e]
  exact n6
end
end My
namespace L2
open PySem PySem.Spec PyProof.Rows
section
variable{X:Cx}
theorem ZkT(K:PySem.W.Frag)(h:X.K=K):SlR X (ZpR K):=by subst h; exact Zod
def ZoX(K:PySem.W.Frag):R2:=λx y H Q=>∃a b xs ys,x = .ref a/\y = .ref b/\SqT K H a xs/\SqT K H b ys/\xs.length+ys.length<=sizeLine ∧
  (xs=[]->Q (.ref b) H)/\(xs≠[]->ys=[]->Q (.ref a) H)/\(xs≠[]->ys≠[]->∀p,H p=none->Q (.ref p) (upd H p (.tup (xs++ys))))
theorem ZkU:OpR X (binaryOp .Add) (ZoX X.K):=by
  intro pins s σ H x y v u Q I rx ry h
  obtain ⟨a,b,xs,ys,rfl,rfl,ha,hb,hz,q0,q1,q2⟩:=h
  by_cases hx:xs=[]
  · cases rx
    cases ry
    obtain ⟨its,r1,p1,_⟩:=I.tuple ha
    obtain ⟨its2,r2,p2,_⟩:=I.tuple hb
    have e1:its=[]:=r1.nil_iff.mpr hx
    obtain ⟨⟨cls,dd,data,sl⟩,ho,hc,n,hd⟩:=id p1
    obtain ⟨⟨cls2,dd2,data2,sl2⟩,ho2,hc2,n2,hd2⟩:=id p2
    simp only at hc hd hc2 hd2
    subst hc hd hc2 hd2
    exact concat_meets ⟨_,ho,rfl⟩ ⟨_,ho2,rfl⟩ noFill_tuple_add seq_tuple_add PySem.F.slot_tuple_add PySem.F.entry_tuple_add (PySem.F.args_tuple_add_2 _ _)
      (tuple_addW0 a b its.toArray its2.toArray n n2 dd dd2 sl sl2 (by simp[e1])) ⟨ho,ho2,⟨.ref b,H,I,rfl,q0 hx⟩⟩
  · exact ZmY pins s σ H _ _ v u Q I rx ry ⟨a,b,xs,ys,rfl,rfl,ha,hb,hx,hz,q1 hx,q2 hx⟩
theorem Zmb(K:PySem.W.Frag)(h:X.K=K):OpR X (binaryOp .Add) (ZoX K):=by subst h; exact ZkU
end
end L2
namespace My
open PySem L2 PyProof.Rows Rg
section
variable{κ:KX}
def kc(c:List Nat):List Key:=c.map λx:Nat=>Sum.inl (x:Int)
theorem Zmc(c:List Nat):(kc c).map kV=c.map λx:Nat=>V.int (x:Int):=by
  unfold kc
  rw[List.map_map]
  rfl
def Inc(m:Nat)(c:List Nat):Prop:=c.Pairwise (· < ·)/\∀x∈c,x<m
def MnR(κ:KX)(H:Hp)(kvs:List (List Key×V))(a:Nat->Nat->κ.F)(k m:Nat):Prop :=
  (∀c,Inc m c->c.length=k->∃v,Zen kvs (kc c)=some v/\NR κ H v (det k λi j=>a i (c.getD j 0)))/\∀p∈kvs,∃c,Inc m c/\c.length=k/\p.1=kc c
theorem MnR.same{H H':Hp}{kvs:List (List Key×V)}{a:Nat->Nat->κ.F}{k m:Nat}(h:MnR κ H kvs a k m)(S:Same H H'):MnR κ H' kvs a k m :=
  ⟨λc hc lc=>let ⟨v,e,n⟩:=h.1 c hc lc; ⟨v,e,n.same S⟩,h.2⟩
noncomputable def ovR(row:List κ.F)(a:Nat->Nat->κ.F):Nat->Nat->κ.F
  | 0,j=>row.getD j 0
  | i+1,j=>a i j
theorem Ziz{m j:Nat}{c:List Nat}(h:Inc m c):Inc m (c.take j++c.drop (j+1)):=by
  refine ⟨?_,λx hx=>?_⟩
  · have e:(c.take j++c.drop (j+1)).Sublist c:=by
      have:=List.Sublist.append (List.Sublist.refl (c.take j)) (List.drop_sublist_drop_left c (U7 j))
      rwa [List.take_append_drop] at this
    exact h.1.sublist e
  · rcases Qu.mp hx with q | q
    · exact h.2 x (Wb q)
    · exact h.2 x (List.mem_of_mem_drop q)
theorem ZiA{j:Nat}{c:List Nat}(h:j<c.length):(c.take j++c.drop (j+1)).length=c.length-1:=by
  rw[Qc,Ql,Wp]; omega
theorem ZnM{j:Nat}{c:List Nat}(h:j<c.length)(t:Nat):(c.take j++c.drop (j+1)).getD t 0=c.getD (skip j t) 0:=by
  have l:(c.take j).length=j:=by rw[Ql]; omega
  rw[Q4,Q4]
  by_cases q:t<j
  · rw[ZhT q,W2 (by omega),Wz,if_pos q]
  · rw[ZkL (by omega),W3 (by omega),l,List.getElem?_drop,show j+1+(t-j)=t+1 by omega]
theorem ZnN{row:List κ.F}{a:Nat->Nat->κ.F}{c:List Nat}{k:Nat}(lc:c.length=k+1){f g:List κ.F}(lf:f.length=k+1)
    (hf:∀j,j<k+1->f.getD j 0=sgn κ j*row.getD (c.getD j 0) 0) (hg:∀j,j<k+1->g.getD j 0=det k λi t=>a i ((c.take j++c.drop (j+1)).getD t 0)) :
    Zis f g=det (k+1) λi j=>ovR row a i (c.getD j 0):=by
  have e:∀n,n<=k+1->Zhb f g n=Sg (λj=>sgn κ j*row.getD (c.getD j 0) 0*det k λi t=>a i (c.getD (skip j t) 0)) n:=λn=>by
    induction n with
    | zero=>intro _; rfl
    | succ n ih =>
      intro hn
      show Zhb f g n+f.getD n 0*g.getD n 0=Sg _ n+_
      rw[ih (by omega),hf n (by omega),hg n (by omega)]
      congr 2
      exact Zax λi t _ _=>by rw[ZnM (by omega)]
  unfold Zis
  rw[lf,e (k+1) (Q1 _)]
  rfl
end
inductive Zdm (CF CR:Addr) (vs:List V) (H:Hp) (Q:VK) (zE:XK):Prop
  | mk (κ:KX) (s sg cb d ra na:Addr) (xs ys:List V) (row:List κ.F) (c:List Nat) (kvs:List (List Key×V)) (a:Nat->Nat->κ.F) (k m M N:Nat) (_:vs=[.ref s,.ref sg,.ref cb,.ref d]) (_:KdX CF CR κ H s) (_:H sg=some (.tup [.ref ra,.ref na])) (_:H ra=some (.lst xs)) (_:AllG (NR κ H) xs row) (_:H na=some (.lst ys)) (_:AllG (NR κ H) ys (row.map λx=>0-x)) (_:H cb=some (.tup (c.map λx:Nat=>V.int (x:Int)))) (_:Inc m c) (_:c.length=k+1) (_:k<=6) (_:row.length=m) (_:m<=7) (_:Rd H d (.dT kvs)) (_:MnR κ H kvs a k m) (_:(∀x∈row,QN κ 1 M x)) (_:(∀c,Inc m c->c.length=k->QN κ 1 N (det k λi j=>a i (c.getD j 0)))) (_:M<=10^500) (_:N<=10^500) (_:∀H' v,Same H H'->NR κ H' v (det (k+1) λi j=>ovR row a i (c.getD j 0))->Q v H'):Zdm CF CR vs H Q zE
end My
namespace My
open PySem L2 PyProof.Rows Rg
theorem Zmd{κ:KX}(row:List κ.F)(j:Nat):(row.map λx=>0-x).getD j 0=0-row.getD j 0:=by
  rw[Q4,Qh,Q4]
  cases row[j]? with
  | none=>show (0:κ.F)=0-0; grind
  | some x=>rfl
section
variable{P:Program}{w:World}{K:PySem.W.Frag}{mg:Str->Option Value}{base:Heap}{CF CR cN cF:Addr}
theorem sc_expanded:FnScope ["kind", "signed", "columns", "minors", "factors", "others"] ["kind", "signed", "columns", "minors"] (Zah ZdR):=⟨rfl,rfl,rfl,by decide +kernel,rfl,by decide +kernel,by decide +kernel⟩
theorem Zh0(h:Here K mg "expanded" ZdR) (T:Nm mg) (Te:mg "enumerate" = none) (md:Zfa P w K mg base CF CR):Has P w K mg base "expanded" 4 ["kind", "signed", "columns", "minors"] (Zdm CF CR):=by
  refine h.has (λf fd F=>F.binds λ_ _ _ _ _ _ us hl=>by obtain ⟨_,_,_,_,rfl⟩:=Zom hl; exact rfl) λf fd F=>F.ok sc_expanded (λvs H Q E h=>?_) (λcdv A outer s H vs Q E hr h=>?_)
  · obtain ⟨_,_,_,_,_,_,_,_,_,_,_,_,_,_,_,_,_,rfl,_⟩:=h
    rfl
  obtain ⟨κ,sk,sg,cb,d,ra,na,xs,ys,row,c,kvs,a,k,m,M,N,rfl,hk,hsg,hra,ara,hna,ana,hcb,inc,lc,k6,lrow,m7,rd,mn,qr,qm,hM,hN,kk⟩:=h
  have nd:=sc_expanded.nd
  have hu:=Zll hr
  refine ⟨_,(Zab (ZbJ (i:=4) ["place", "column"] [(1, "signed")] nd rfl rfl rfl (ZoA (by rfl) Te (Zaa (pv 2) Zad)) (by exact λ_ _ _ _=>(ZfJ (n:=2) K rfl rfl (ZaX (Zat (i:=0) (show (["place", "column", "signed"]:List Str).Nodup by decide +kernel) rfl (Or.inl rfl)) (ZaX (Zat (i:=1) (show (["place", "column", "signed"]:List Str).Nodup by decide +kernel) rfl (Or.inl rfl)) Zc4)))) (by exact λ_ _ _ _=>(Zak (ZfH K rfl) (Zak (ZfI K rfl) (pv 2) (Zai ZaQ (pv 0) Zac) (λ_ _=>rfl)) (pv 1) (λ_ _=>rfl))) ⟨⟨rfl,rfl,Or.inl rfl⟩,trivial⟩)
    (Zab (ZbJ (i:=5) ["place"] [(3, "minors"),(2, "columns")] nd rfl rfl rfl (ZaJ (by rfl) T.range (Zaa (Zas Zan (by rfl) T.len boot_len (Zaa (pv 2) Zad)) Zad)) (by exact λ_ _ _ _=>(Zat (i:=0) (show (["place", "minors", "columns"]:List Str).Nodup by decide +kernel) rfl (Or.inl rfl))) (by exact λ_ _ _ _=>(Zj1 hu (pv 1) (Zai (Zmb K rfl) (ZbU (ZkT K rfl) (pv 2) Zc5 (Zcf (pv 0))) (ZbU (ZkT K rfl) (pv 2) (Zcf (Zai ZaY (pv 0) Zac)) Zc5)) (λ_ _=>rfl))) ⟨⟨rfl,rfl,Or.inl rfl⟩,⟨⟨rfl,rfl,Or.inl rfl⟩,trivial⟩⟩)
    (Zaf (Zam (ZaK (pv 0) hr (Zaa (pv 4) (Zaa (pv 5) Zad))))))),?_⟩
  have lcm:(c.map λx:Nat=>V.int (x:Int)).length=k+1:=by rw[Q0,lc]
  have lxs:=ara.1
  have lys:=ana.1
  rw[Q0] at lys
  have cat:∀j,j<k+1->(c.map λx:Nat=>V.int (x:Int))[j]?=some (.int ((c.getD j 0:Nat):Int))/\c.getD j 0<m:=λj hj=>by
    have e:c[j]?=some (c.getD j 0):=by rw[Q4,Q5 (by omega)]; rfl
    exact ⟨by rw[Qh,e]; rfl,inc.2 _ (Q9 e)⟩
  refine ⟨_,rfl,cb,rfl,⟨_,SqT.of hcb⟩,?_⟩
  refine ZlF (K:=K) (a:=cb) (xs:=c.map λx:Nat=>V.int (x:Int)) (λi zs H2=>Same H H2/\AllG (NR κ H2) zs ((List.range i).map λj=>sgn κ j*row.getD (c.getD j 0) 0)) (by rw[lcm]; omega) ⟨Same.refl _,.nil⟩ (λi zs H2 q=>SqT.of (q.1 _ _ hcb)) ?_ ?_
  · rintro i x T' zs H2 hx hl nT ⟨S2,e⟩
    have hi:i<k+1:=by have:=(Qf.mp hx).1; omega
    obtain ⟨e1,hm⟩:=cat i hi
    rw[e1] at hx
    cases hx
    have ST:=Zag nT (.tup [.int (i:Int),.int ((c.getD i 0:Nat):Int)])
    generalize upd H2 T' (.tup [.int (i:Int),.int ((c.getD i 0:Nat):Int)])=H3 at *
    have S3:=S2.trans ST
    have fin:∀v,NR κ H3 v (sgn κ i*row.getD (c.getD i 0) 0)->Same H H3/\AllG (NR κ H3) (zs++[v]) ((List.range (i+1)).map λj=>sgn κ j*row.getD (c.getD j 0) 0):=λv nv=>⟨S3,by
      rw[Ut,Qr]
      exact (e.mono λ_ _ n=>n.same ST).append (.one nv)⟩
    rw[Zgb] at fin
    by_cases ev:i%2=0
    · obtain ⟨v,hv,nv⟩:=ZcH ara (i:=c.getD i 0) (by omega)
      refine ⟨_,rfl,_,rfl,_,_,rfl,rfl,(by show (0:Int)<_; decide),sg,_,_,.ref ra,rfl,rfl,SqT.of (S3 _ _ hsg),?_,_,rfl,ra,_,_,v,rfl,rfl,SqL.of (S3 _ _ hra),Za5 hv,fin v ?_⟩
      · rw[show (i:Int)%2=((0:Nat):Int) by omega]; rfl
      · rw[if_pos ev,show (1:κ.F)*row.getD (c.getD i 0) 0=row.getD (c.getD i 0) 0 by grind]
        exact nv.same S3
    · obtain ⟨v,hv,nv⟩:=ZcH ana (i:=c.getD i 0) (by rw[Q0]; omega)
      refine ⟨_,rfl,_,rfl,_,_,rfl,rfl,(by show (0:Int)<_; decide),sg,_,_,.ref na,rfl,rfl,SqT.of (S3 _ _ hsg),?_,_,rfl,na,_,_,v,rfl,rfl,SqL.of (S3 _ _ hna),Za5 hv,fin v ?_⟩
      · rw[show (i:Int)%2=((1:Nat):Int) by omega]; rfl
      · rw[if_neg ev,show (0-1:κ.F)*row.getD (c.getD i 0) 0=0-row.getD (c.getD i 0) 0 by grind,<-Zmd]
        exact nv.same S3
  rintro zs H2 hl ⟨S2,e2⟩ fa nfa
  rw[lcm] at e2
  have Sf:=Zag nfa (.lst zs)
  have qf:=Zae (H:=H2) (a:=fa) (o:=.lst zs)
  generalize upd H2 fa (.lst zs)=H3 at *
  have S3:=S2.trans Sf
  have mnG:∀ {H4},Same H H4->Rd H4 d (.dT kvs):=fun {H4} S=>rd.elim (λz => .inl (S _ _ z)) (λ⟨o,z⟩ => .inr ⟨o,S _ _ z⟩)
  refine ⟨_,rfl,cb,_,rfl,.inr (SqT.of (S3 _ _ hcb)),((k+1:Nat):Int),(by rw[lcm]),by omega,by omega,?_⟩
  rw[Q7]
  refine ZcO (lo:=0) (n:=k+1) (λq ws H4=>Same H3 H4/\AllG (NR κ H4) ws ((List.range q).map λj=>det k λi t=>a i ((c.take j++c.drop (j+1)).getD t 0))) (by omega) ⟨Same.refl _,.nil⟩ ?_ ?_
  · rintro q ws H4 hq _ ⟨S4,e4⟩
    have fin:∀(H5:Hp) (b:Addr),Same H4 H5->H5 b=some (.tup ((c.take q++c.drop (q+1)).map λx:Nat=>V.int (x:Int)))->∃a' v,V.ref d = .ref a'/\DGet H5 a' (.ref b) (some v)/\Same H3 H5/\AllG (NR κ H5) (ws++[v]) ((List.range (q+1)).map λj=>det k λi t=>a i ((c.take j++c.drop (j+1)).getD t 0)):=λH5 b S5 hb=>by
      obtain ⟨v,ev,nv⟩:=mn.1 _ (Ziz (j:=q) inc) (by rw[ZiA (by omega)]; omega)
      have S05:=S3.trans (S4.trans S5)
      refine ⟨d,v,rfl,.inr ⟨kvs,kc (c.take q++c.drop (q+1)),b,mnG S05,rfl,by rw[Zmc]; exact hb,ev.symm⟩,S4.trans S5,?_⟩
      rw[Ut,Qr]
      exact (e4.mono λ_ _ n=>n.same S5).append (.one (nv.same S05))
    have hcb4:=(S3.trans S4) _ _ hcb
    refine ⟨_,rfl,_,rfl,_,rfl,_,rfl,cb,_,rfl,SqT.of hcb4,?_,λp1 np1=>?_⟩
    · rintro ⟨_,z⟩
      rw[Qq,HT.sIx_nat,lcm] at z
      omega
    rw[show Zfs (c.map λx:Nat=>V.int (x:Int)) none (some (0+(q:Int)))=(c.take q).map λx:Nat=>V.int (x:Int) by rw[Qq,Us]; exact ZcE _ q]
    have S1:=Zag np1 (.tup ((c.take q).map λx:Nat=>V.int (x:Int)))
    have q1:=Zae (H:=H4) (a:=p1) (o:=.tup ((c.take q).map λx:Nat=>V.int (x:Int)))
    generalize upd H4 p1 (.tup ((c.take q).map λx:Nat=>V.int (x:Int)))=H5 at *
    refine ⟨_,rfl,_,rfl,_,_,rfl,rfl,_,rfl,cb,_,rfl,SqT.of (S1 _ _ hcb4),?_,λp2 np2=>?_⟩
    · rintro ⟨z,_⟩
      rw[show (0:Int)+(q:Int)+1=((q+1:Nat):Int) by omega,HT.sIx_nat,lcm] at z
      omega
    rw[show Zfs (c.map λx:Nat=>V.int (x:Int)) (some (0+(q:Int)+1)) none=(c.drop (q+1)).map λx:Nat=>V.int (x:Int) by rw[show (0:Int)+(q:Int)+1=((q+1:Nat):Int) by omega,List.map_drop]; exact Zkn _ (q+1)]
    have S2':=Zag np2 (.tup ((c.drop (q+1)).map λx:Nat=>V.int (x:Int)))
    have q2:=Zae (H:=H5) (a:=p2) (o:=.tup ((c.drop (q+1)).map λx:Nat=>V.int (x:Int)))
    generalize upd H5 p2 (.tup ((c.drop (q+1)).map λx:Nat=>V.int (x:Int)))=H6 at *
    have S46:=S1.trans S2'
    refine ⟨p1,p2,_,_,rfl,rfl,SqT.of (S2' _ _ q1),SqT.of q2,?_,λz=>?_,λz1 z2=>?_,λz1 z2 p3 np3=>?_⟩
    · rw[Q0,Q0,Ql,Wp]
      have:(100:Nat)<=sizeLine:=by decide
      omega
    · refine fin H6 p2 S46 ?_
      rw[Qr,z,List.nil_append]
      exact q2
    · refine fin H6 p1 S46 ?_
      rw[Qr,z2,List.append_nil]
      exact S2' _ _ q1
    · refine fin _ p3 (S46.trans (Zag np3 _)) ?_
      rw[Qr]
      exact Zae
  rintro ws H4 _ ⟨S4,e4⟩ oa noa
  have So:=Zag noa (.lst ws)
  have qo:=Zae (H:=H4) (a:=oa) (o:=.lst ws)
  generalize upd H4 oa (.lst ws)=H5 at *
  have S35:=S4.trans So
  have S05:=S3.trans S35
  obtain ⟨Cd,dxd,fsd,psd,dvd,spd,k1,k2,k3,k4,rfl,k5⟩:=md κ H5 sk (hk.same S05)
  refine ⟨_,rfl,sk,Cd,dxd,fsd,psd,_,spd,rfl,k1,k2,k3.mono (by decide),k4,_,rfl,_,rfl,?_⟩
  refine k5 H5 fa oa zs ws _ _ 1 1 M N _ (Same.refl _) (S35 _ _ qf) qo (e2.mono λ_ _ n=>(n.same Sf).same S35) (e4.mono λ_ _ n=>n.same So) (by rw[Q0,Q0]) (by rw[Q0,W4]; omega) (λx hx=>?_) (λx hx=>?_) (by decide) (by decide) (by decide) (by decide) hM hN λH6 v S6 nv=>?_
  · obtain ⟨j,hj,rfl⟩:=W0.mp hx
    have hj:=U5.mp hj
    have q:QN κ 1 M (row.getD (c.getD j 0) 0):=by
      have hc:=(cat j hj).2
      refine qr _ ?_
      rw[Q4,Q5 (by omega)]
      exact Qp _
    rw[Zgb]
    split
    · rw[show (1:κ.F)*row.getD (c.getD j 0) 0=row.getD (c.getD j 0) 0 by grind]; exact q
    · rw[show (0-1:κ.F)*row.getD (c.getD j 0) 0=0-row.getD (c.getD j 0) 0 by grind]; exact q.neg1
  · obtain ⟨j,hj,rfl⟩:=W0.mp hx
    have hj:=U5.mp hj
    exact qm _ (Ziz (j:=j) inc) (by rw[ZiA (by omega)]; omega)
  · rw[ZnN (row:=row) (a:=a) (c:=c) lc (by rw[Q0,W4]) (λj hj=>by rw[Q4,Qh,Wj hj]; rfl) (λj hj=>by rw[Q4,Qh,Wj hj]; rfl)] at nv
    exact kk H6 v (S05.trans S6) nv
end
end My
namespace L2
open PySem PySem.Spec PyProof.Rows
section
variable{X:Cx}
theorem ZnO{e:Expr}{t t':TE}(h:PE X e t)(m:∀σ H Q,t' σ H Q->t σ H Q):PE X e t':=λpins s σ H Q I q=>h pins s σ H Q I (m σ H Q q)
def ZpG:R2:=λx y H Q=>∃a b xs ys,x = .ref a/\y = .ref b/\H a=some (.tup xs)/\H b=some (.tup ys)/\xs.length+ys.length<=sizeLine/\∀p H',(∀b o,H b=some o->H' b=some o)->H' p=some (.tup (xs++ys))->Q (.ref p) H'
theorem ZnP:OpR X (binaryOp .Add) ZpG:=λpins s σ H x y v u Q I rx ry h=>by
  obtain ⟨a,b,xs,ys,ex,ey,ha,hb,hz,q⟩:=h
  refine ZkU pins s σ H x y v u Q I rx ry ⟨a,b,xs,ys,ex,ey,SqT.of ha,SqT.of hb,hz,λz=>?_,λz z2=>?_,λz z2 p np=>?_⟩
  · exact q b H (λ_ _ e=>e) (by rw[z]; exact hb)
  · exact q a H (λ_ _ e=>e) (by rw[z2,List.append_nil]; exact ha)
  · exact q p _ (λb o e=>by rw[Zap (λz3=>by rw[z3,np] at e; cases e)]; exact e) Zae
end
end L2
namespace My
open PySem L2 PyProof.Rows Rg
def bdC(m:Nat):List Nat->Nat
  | []=>m
  | y::_=>y
theorem ZmG{m:Nat}{c:List Nat}(h:Inc m c):bdC m c<=m:=by
  cases c with
  | nil=>exact Q1 _
  | cons y c=>exact Qt (h.2 y (by simp))
theorem ZiB{m x:Nat}{c:List Nat}(h:Inc m c)(hx:x<bdC m c):Inc m (x::c):=by
  refine ⟨List.pairwise_cons.mpr ⟨λy hy=>?_,h.1⟩,λy hy=>?_⟩
  · cases c with
    | nil=>cases hy
    | cons z c =>
      rcases Q8.mp hy with e | e
      · rw[e]; exact hx
      · exact U9 hx ((List.pairwise_cons.mp h.1).1 y e)
  · rcases Q8.mp hy with e | e
    · rw[e]; exact Q6 hx (ZmG h)
    · exact h.2 y e
theorem Zme{m x:Nat}{c:List Nat}(h:Inc m (x::c)):Inc m c/\x<bdC m c:=by
  refine ⟨⟨(List.pairwise_cons.mp h.1).2,λy hy=>h.2 y (by simp[hy])⟩,?_⟩
  cases c with
  | nil=>exact h.2 x (by simp)
  | cons z c=>exact (List.pairwise_cons.mp h.1).1 z (by simp)
theorem ZkV:∀ {c d:List Nat},kc c=kc d->c=d
  | [],[],_=>rfl
  | [],_::_,h=>by cases h
  | _::_,[],h=>by cases h
  | x::c,y::d,h=>by
    have h1:(Sum.inl (x:Int):Key)=Sum.inl (y:Int):=(List.cons.inj h).1
    have h2:(x:Int)=y:=Sum.inl.inj h1
    rw[ZkV (c:=c) (d:=d) (List.cons.inj h).2,show x=y by omega]
theorem Zmf{kvs:List (List Key×V)}{k:List Key}{v:V}{p:List Key×V}(h:p∈Zgn kvs k v):p.1=k\/∃q∈kvs,q.1=p.1:=by
  unfold Zgn at h
  split at h
  · obtain ⟨q,hq,e⟩:=W0.mp h
    refine .inr ⟨q,hq,?_⟩
    rw[<-e]
    split <;> rfl
  · rcases Qu.mp h with h | h
    · exact .inr ⟨p,h,rfl⟩
    · rw[Q3.mp h]; exact .inl rfl
theorem ZnQ{kvs:List (List Key×V)}{k:List Key}{v:V}(h:Zen kvs k=some v):∃i:Nat,kvs[i]?=some (k,v):=by
  unfold Zen at h
  obtain ⟨p,hp,e⟩:=Option.map_eq_some_iff.mp h
  have hk1:=List.find?_some hp
  have hk:p.1=k:=of_decide_eq_true hk1
  obtain ⟨i,hi⟩:=List.getElem?_of_mem (List.mem_of_find?_eq_some hp)
  exact ⟨i,by rw[hi,<-hk,<-e]⟩
section
variable{κ:KX}
theorem NR.tups{H H':Hp}{v:V}{x:κ.F}(h:NR κ H v x)(t:∀a xs,H a=some (.tup xs)->H' a=some (.tup xs)):NR κ H' v x:=by
  cases κ with
  | q=>obtain ⟨a,e,h⟩:=h; exact ⟨a,e,t _ _ h⟩
  | r p hp=>exact h
structure WdR (κ:KX) (H:Hp) (kw:List (List Key×V)) (D:List Nat->κ.F) (S:List Nat->Prop) (k m L:Nat):Prop where
  val:∀c,S c->∃v,Zen kw (kc c)=some v/\NR κ H v (D c)
  keys:∀p∈kw,∃c,Inc m c/\c.length=k/\p.1=kc c
  len:kw.length<=L
theorem WdR.tups{H H':Hp}{kw:List (List Key×V)}{D:List Nat->κ.F}{S:List Nat->Prop}{k m L:Nat}(h:WdR κ H kw D S k m L)(t:∀a xs,H a=some (.tup xs)->H' a=some (.tup xs)):WdR κ H' kw D S k m L :=
  ⟨λc hc=>let ⟨v,e,n⟩:=h.val c hc; ⟨v,e,n.tups t⟩,h.keys,h.len⟩
theorem WdR.sub{H:Hp}{kw:List (List Key×V)}{D:List Nat->κ.F}{S S':List Nat->Prop}{k m L L':Nat}(h:WdR κ H kw D S k m L)(s:∀c,S' c->S c)(l:L<=L'):WdR κ H kw D S' k m L' :=
  ⟨λc hc=>h.val c (s c hc),h.keys,Q2 h.len l⟩
theorem WdR.put{H:Hp}{kw:List (List Key×V)}{D:List Nat->κ.F}{S:List Nat->Prop}{k m L:Nat}{c:List Nat}{v:V}(h:WdR κ H kw D S k m L)(hc:Inc m c)(lc:c.length=k)(n:NR κ H v (D c)):WdR κ H (Zgn kw (kc c) v) D (λd=>S d\/d=c) k m (L+1):=by
  refine ⟨λd hd=>?_,λp hp=>?_,Q2 (Zc7 _ _ _) (Nat.succ_le_succ h.len)⟩
  · rw[ZlA]
    by_cases e:d=c
    · rw[if_pos (by rw[e])]
      exact ⟨v,rfl,by rw[e]; exact n⟩
    · rw[if_neg λz=>e (ZkV z)]
      exact h.val d (hd.resolve_right e)
  · rcases Zmf hp with e | ⟨q,hq,e⟩
    · exact ⟨c,hc,lc,e⟩
    · rw[<-e]; exact h.keys q hq
inductive Zgj (CF CR:Addr) (vs:List V) (H:Hp) (Q:VK) (zE:XK):Prop
  | mk (κ:KX) (s ra d:Addr) (xs:List V) (row:List κ.F) (kvs:List (List Key×V)) (a:Nat->Nat->κ.F) (k m M N:Nat) (_:vs=[.ref s,.ref ra,.ref d]) (_:KdX CF CR κ H s) (_:H ra=some (.lst xs)) (_:AllG (NR κ H) xs row) (_:row.length=m) (_:m<=7) (_:k<=6) (_:H d=some (.dT kvs)) (_:kvs.length<=7^k) (_:MnR κ H kvs a k m) (_:(∀x∈row,QN κ 1 M x)) (_:(∀c,Inc m c->c.length=k->QN κ 1 N (det k λi j=>a i (c.getD j 0)))) (_:M<=10^500) (_:N<=10^500) (_:∀(H':Hp) (d':Addr) (kvs':List (List Key×V)),Off [d] H H'->H d'=none->H' d'=some (.dT kvs')->kvs'.length<=7^(k+1)->MnR κ H' kvs' (ovR row a) (k+1) m->Q (.ref d') H'):Zgj CF CR vs H Q zE
end
end My
namespace My
open PySem L2 PyProof.Rows Rg
def Zp0(i j:Nat):TE:=λσ H Q=>∃cb ra c xs,σ[i]?=some (some (.ref cb))/\σ[j]?=some (some (.ref ra))/\H cb=some (.tup ((c:List Nat).map λx:Nat=>V.int (x:Int)))/\H ra=some (.lst xs)/\Q (.int ((bdC xs.length c:Nat):Int)) H
theorem ZoY{K:PySem.W.Frag}{i j:Nat}{σ:L2.St}{H:Hp}{Q:VK}(h:Zp0 i j σ H Q):tIf (ZoB K (ZnW i)) (tOp (Zo5 K) (ZnW i) (tC (.int 0))) (tCB (λxs H Q=>∃p ys,xs=[.ref p]/\(SqL K H p ys\/SqT K H p ys)/\Q (.int ys.length) H) (Zn9 (ZnW j) ZpQ)) σ H Q:=by
  obtain ⟨cb,ra,c,xs,h1,h2,hc,hr,q⟩:=h
  refine ⟨_,h1,cb,_,rfl,SqT.of hc,?_⟩
  cases c with
  | nil =>
    refine (if_neg (by decide)).mpr ?_
    exact ⟨_,h2,ra,xs,rfl,.inl (SqL.of hr),q⟩
  | cons y c =>
    refine (if_pos rfl).mpr ?_
    exact ⟨_,h1,cb,_,0,_,rfl,rfl,SqT.of hc,(show atI _ ((0:Nat):Int)=_ from Za5 rfl),q⟩
theorem ZmH{κ:KX}{M:Nat}{x:κ.F}(h:QN κ 1 M x)(l:M<=10^500):B1 κ x:=h.b1 (by decide) (Q6 (show 1<2^1 by decide) (Qe (by decide) (by decide))) (Qk l (Q6 (show 10^500<2^2000 by decide) (Qe (by decide) (by decide))))
section
variable{P:Program}{w:World}{K:PySem.W.Frag}{mg:Str->Option Value}{base:Heap}{CF CR cN cF:Addr}
theorem sc_wider_minors:FnScope ["kind", "row", "minors", "signed", "wider", "columns", "bound", "column", "chosen"] ["kind", "row", "minors"] (Zah Zb2):=⟨rfl,rfl,rfl,by decide +kernel,rfl,by decide +kernel,by decide +kernel⟩
theorem Zfe(h:Here K mg "wider_minors" Zb2) (T:Nm mg) (mm:ZlO P w K mg base CF CR) (mn:ZbO P w K mg base CF CR) (h_expanded:Has P w K mg base "expanded" 4 ["kind", "signed", "columns", "minors"] (Zdm CF CR)):Has P w K mg base "wider_minors" 5 ["kind", "row", "minors"] (Zgj CF CR):=by
  refine h.has (λf fd F=>F.binds λ_ _ _ _ _ _ us hl=>by obtain ⟨_,_,_,rfl⟩:=Zei hl; exact rfl) λf fd F=>F.ok sc_wider_minors (λvs H Q E h=>?_) (λcdv A outer s H vs Q E hr h=>?_)
  · obtain ⟨_,_,_,_,_,_,_,_,_,_,_,_,rfl,_⟩:=h
    rfl
  obtain ⟨κ,sk,ra,d,xs,row,kvs,a,k,m,M,N,rfl,hk,hra,ara,lrow,m7,k6,hd,lkv,mn0,qr,qm,hM,hN,kk⟩:=h
  have nd:=sc_wider_minors.nd
  have hu:=Zll hr
  refine ⟨_,(Zab (Zaj (i:=3) nd rfl (Or.inl rfl) (ZaB (Zaa (pv 1) (Zaa (ZbL ["each"] [(0, "kind")] rfl (Zbi (pv 1)) (by exact λ_ _ _ _=>(Zat (i:=0) (show (["each", "kind"]:List Str).Nodup by decide +kernel) rfl (Or.inl rfl))) (by exact λ_ _ _ _=>(Zdv ⟨rfl,rfl,rfl,rfl,rfl⟩ (pv 1) hr (Zaa (ZjX ⟨rfl,rfl,rfl,rfl,rfl⟩ (pv 1) ZcY hr (Zaa Zac Zad)) (Zaa (pv 0) Zad)))) ⟨⟨rfl,rfl,Or.inl rfl⟩,trivial⟩) Zad))))
    (Zab (Zaj (i:=4) nd rfl (Or.inl rfl) ZlB)
    (Zab (Za7 PassesOwn.never rfl (Zoy (pv 2)) (Zat (i:=5) nd rfl (Or.inl rfl)) (Zab (Zaj (i:=6) nd rfl (Or.inl rfl) (ZnO (t':=Zp0 5 1) (Zh8 (ZoC (pv 5)) (Zak Zal (pv 5) Zac (λ_ _=>rfl)) (Zas Zan (by rfl) T.len boot_len (Zaa (pv 1) Zad))) (λ_ _ _ h=>ZoY h)))
      (Zaf (Za7 PassesOwn.never rfl (ZaJ (by rfl) T.range (Zaa (pv 6) Zad)) (Zat (i:=7) nd rfl (Or.inl rfl)) (Zab (Zaj (i:=8) nd rfl (Or.inl rfl) (Zai ZnP (ZaB (Zaa (pv 7) Zad)) (pv 5)))
        (Zaf (Znh hu (pv 4) (pv 8) (Zao h_expanded hr (by rfl) (Zaa (pv 0) (Zaa (pv 3) (Zaa (pv 8) (Zaa (pv 2) Zad))))) rfl)))))))
    (Zaf (Zam (pv 4)))))),?_⟩
  have lxs:=ara.1
  refine ⟨_,rfl,_,rfl,ra,rfl,⟨_,SqL.of hra⟩,?_⟩
  refine Zbx (K:=K) (a:=ra) (xs:=xs) (λi ys H2=>Same H H2/\AllG (NR κ H2) ys ((row.take i).map λx=>0-x)) (by omega) ⟨Same.refl H,.nil⟩ (λi ys H2 _ q=>SqL.of (q.1 _ _ hra)) ?_ ?_
  · rintro i x ys H2 hx hl ⟨S,e⟩
    obtain ⟨y,hy,ny⟩:=ara.get hx
    obtain ⟨C',dx',fs',ps',dvs',sp',d1,d2,d3,d4,rfl,d5⟩:=mm κ H2 sk (hk.same S)
    obtain ⟨C,dx,fs,ps,dvs,sp,c1,c2,c3,c4,rfl,c5⟩:=mn κ H2 sk (hk.same S)
    refine ⟨_,rfl,sk,C',dx',fs',ps',_,sp',rfl,d1,d2,d3.mono (by decide),d4,_,rfl,sk,C,dx,fs,ps,_,sp,rfl,c1,c2,c3.mono (by decide),c4,c5 H2 0 0 _ _ (Same.refl _) Zf1 λv H3 S3 nv=>?_⟩
    refine ⟨_,rfl,d5 H3 v x 0 y _ S3 nv (ny.same (S.trans S3)) Zkq (ZmH (qr y (Q9 hy)) hM) λt H4 S4 nt=>?_⟩
    refine ⟨S.trans (S3.trans S4),?_⟩
    rw[W7,hy,Qr]
    exact (e.mono λ_ _ n=>n.same (S3.trans S4)).append (.one nt)
  rintro ys H2 hl ⟨S2,e2⟩ na nna
  rw[lxs,U4] at e2
  have Sn:=Zag nna (.lst ys)
  have qn:=Zae (H:=H2) (a:=na) (o:=.lst ys)
  generalize upd H2 na (.lst ys)=H3 at *
  have S3:=S2.trans Sn
  refine ⟨(by show 2<=sizeLine; decide),λsg nsg=>?_⟩
  have Sg':=Zag nsg (.tup [.ref ra,.ref na])
  have qsg:=Zae (H:=H3) (a:=sg) (o:=.tup [.ref ra,.ref na])
  generalize upd H3 sg (.tup [.ref ra,.ref na])=H4 at *
  have S4:=S3.trans Sg'
  have qn4:=Sg' _ _ qn
  have e4:=e2.mono λ_ _ n=>(n.same Sn).same Sg'
  have hd4:=S4 _ _ hd
  have hra4:=S4 _ _ hra
  refine λp np=>?_
  have Sp':=Zag np (.dT [])
  have qp:=Zae (H:=H4) (a:=p) (o:=.dT [])
  refine ⟨_,rfl,d,kvs,rfl,Sp' _ _ hd4,λo=>?_⟩
  have pd:p≠d:=λz=>by rw[z,hd4] at np; cases np
  obtain ⟨Hf,eHf⟩:∃Hf,Hf=upd H4 d (.frz o (.dT kvs)):=⟨_,rfl⟩
  have Of:Off [d] H4 Hf:=eHf ▸ Zay (Same.refl _)
  have tf:∀b u,H4 b=some u->(∀z,u ≠ .dT z)->Hf b=some u:=λb u e n=>Of b u (λz=>by rw[Q3.mp z,hd4] at e; exact n _ (Option.some.inj e).symm) e
  have fd:Hf d=some (.frz o (.dT kvs)):=by rw[eHf]; exact Zae
  have fp:Hf p=none:=by rw[eHf,Zap pd]; exact np
  have tt:∀b zs,H4 b=some (.tup zs)->Hf b=some (.tup zs):=λb zs e=>tf b _ e λ_ z=>nomatch z
  have hkf:KdX CF CR κ Hf sk:=by
    have:=hk.same S4
    cases κ with
    | q=>obtain ⟨dx,h⟩:=this; exact ⟨dx,tf _ _ h λ_ z=>nomatch z⟩
    | r p hp=>obtain ⟨dx,h⟩:=this; exact ⟨dx,tf _ _ h λ_ z=>nomatch z⟩
  have hraf:=tf _ _ hra4 λ_ z=>nomatch z
  have araf:=ara.mono λ_ _ n=>(n.same S4).tups tt
  have hnaf:=tf _ _ qn4 λ_ z=>nomatch z
  have anaf:=e4.mono λ_ _ n=>n.tups tt
  have hsgf:=tf _ _ qsg λ_ z=>nomatch z
  have mnf:MnR κ Hf kvs a k m:=⟨λc hc lc=>let ⟨v,e,n⟩:=mn0.1 c hc lc; ⟨v,e,(n.same S4).tups tt⟩,mn0.2⟩
  have SfH:Same Hf (upd (upd H4 p (.dT [])) d (.frz o (.dT kvs))):=λb u e=>by
    rw[eHf] at e
    by_cases z:b=d
    · rw[z,Zae] at e ⊢; exact e
    · rw[Zap z] at e ⊢
      exact Sp' _ _ e
  have S7:(7:Nat)*7^k<=7*7^6:=Wr _ (Qe (by decide) k6)
  have sl:7*7^6<sizeLine:=by decide
  refine Znm (kvs:=kvs) (λi σ Hb=>∃(z5 z6 z7 z8:Option V) (kw:List (List Key×V)),σ=[some (.ref sk),some (.ref ra),some (.ref d),some (.ref sg),some (.ref p),z5,z6,z7,z8]/\Same Hf Hb/\Hb p=some (.dT kw)/\WdR κ Hb kw (λc=>det (k+1) λi j=>ovR row a i (c.getD j 0)) (λc=>∃i' x c' v,c=x::c'/\i'<i/\kvs[i']?=some (kc c',v)/\x<bdC m c') (k+1) m (7*i)) ⟨_,_,_,_,[],rfl,SfH,by rw[Zap pd]; exact qp,⟨(λc hc=>by obtain ⟨i',_,_,_,_,hi,_⟩:=hc; omega),(λ_ z=>nomatch z),Qd _⟩⟩ ?_ ?_ ?_
  · rintro i σ Hb-⟨z5,z6,z7,z8,kw,rfl,Sb,-⟩
    exact Sb _ _ fd
  · rintro i key val cb σ Hb hkv hcb ⟨z5,z6,z7,z8,kw,rfl,Sb,hp,wd⟩
    obtain ⟨c,ic,lc,rfl⟩:=mn0.2 _ (Q9 hkv)
    replace hcb:Hb cb=some (.tup (c.map λx:Nat=>V.int (x:Int))):=by rw[<-Zmc]; exact hcb
    have hi:i<kvs.length:=(Qf.mp hkv).1
    have bl:=ZmG ic
    refine ⟨cb,ra,c,xs,rfl,rfl,hcb,Sb _ _ hraf,?_⟩
    rw[show bdC xs.length c=bdC m c by rw[lxs,lrow]]
    refine ⟨_,rfl,((bdC m c:Nat):Int),rfl,by omega,by omega,?_⟩
    rw[Q7]
    refine ZaP (lo:=0) (n:=bdC m c) (λq σ Hb2=>∃(z7 z8:Option V) (kw:List (List Key×V)),σ=[some (.ref sk),some (.ref ra),some (.ref d),some (.ref sg),some (.ref p),some (.ref cb),some (.int ((bdC m c:Nat):Int)),z7,z8]/\Same Hf Hb2/\Hb2 cb=some (.tup (c.map λx:Nat=>V.int (x:Int)))/\Hb2 p=some (.dT kw)/\WdR κ Hb2 kw (λc=>det (k+1) λi j=>ovR row a i (c.getD j 0)) (λc2=>(∃i' x c' v,c2=x::c'/\i'<i/\kvs[i']?=some (kc c',v)/\x<bdC m c')\/∃x,x<q/\c2=x::c) (k+1) m (7*i+q)) ⟨_,_,kw,rfl,Sb,hcb,hp,wd.sub (λc2 h=>h.resolve_right λ⟨x,hx,_⟩=>by omega) (Q1 _)⟩ ?_ ?_
    · rintro q σ H5 hq ⟨z7,z8,kw5,rfl,S5,hcb5,hp5,wd5⟩
      refine ⟨_,rfl,(by show 1<=sizeLine; decide),λt1 nt1=>?_⟩
      have St1:=Zag nt1 (.tup [.int (0+(q:Int))])
      refine ⟨_,rfl,t1,cb,_,_,rfl,rfl,Zae,St1 _ _ hcb5,?_,λch H6 S6 hch=>?_⟩
      · rw[Q0,lc]
        have:(100:Nat)<=sizeLine:=by decide
        show 1+k<=_
        omega
      replace hch:H6 ch=some (.tup ((q::c).map λx:Nat=>V.int (x:Int))):=by rw[hch,Qq]; rfl
      have S56:Same H5 H6:=St1.trans S6
      generalize upd H5 t1 (.tup [.int (0+(q:Int))])=H55 at *
      have Sf6:=S5.trans S56
      refine ⟨_,rfl,_,rfl,_,rfl,_,rfl,κ,sk,sg,ch,d,ra,na,xs,ys,row,q::c,kvs,a,k,m,M,N,rfl,hkf.same Sf6,Sf6 _ _ hsgf,Sf6 _ _ hraf,araf.mono (λ_ _ n=>n.same Sf6),Sf6 _ _ hnaf,anaf.mono (λ_ _ n=>n.same Sf6),hch,ZiB ic hq,by rw[Wg,lc],k6,lrow,m7,.inr ⟨o,Sf6 _ _ fd⟩,mnf.same Sf6,qr,qm,hM,hN,λH7 v S7' nv=>?_⟩
      have S57:=S56.trans S7'
      have hp7:=S57 _ _ hp5
      have wl:=wd5.len
      refine ⟨_,rfl,_,rfl,p,_,rfl,DPut.t (k:=kc (q::c)) hp7 (by rw[Zmc]; exact S7' _ _ hch) (by omega),?_⟩
      have t7:∀b zs,H7 b=some (.tup zs)->upd H7 p (.dT (Zgn kw5 (kc (q::c)) v)) b=some (.tup zs):=λb zs e=>by
        rw[Zap (Zjl e hp7 (λz=>nomatch z))]; exact e
      refine ⟨_,_,_,rfl,Off.same (D:=[p]) (Zay (Same.refl H7)) (S5.trans S57) (λz hz=>by rw[Q3.mp hz]; exact fp),t7 _ _ (S57 _ _ hcb5),Zae,?_⟩
      refine WdR.sub (WdR.tups (WdR.put (wd5.tups λb zs e=>S57 _ _ e) (ZiB ic hq) (by rw[Wg,lc]) nv) t7) (λc2 h=>?_) (by omega)
      rcases h with h | ⟨x,hx,e⟩
      · exact .inl (.inl h)
      · by_cases z:x=q
        · rw[z] at e; exact .inr e
        · exact .inl (.inr ⟨x,by omega,e⟩)
    · rintro σ H5 ⟨z7,z8,kw5,rfl,S5,hcb5,hp5,wd5⟩
      refine ⟨_,_,_,_,kw5,rfl,S5,hp5,wd5.sub (λc2 h=>?_) (by omega)⟩
      obtain ⟨i',x,c',v,e,hi',hg,hx⟩:=h
      by_cases z:i'=i
      · rw[z,hkv] at hg
        have e2:=ZkV (congrArg Prod.fst (Option.some.inj hg))
        rw[<-e2] at e hx
        exact .inr ⟨x,hx,e⟩
      · exact .inl ⟨i',x,c',v,e,by omega,hg,hx⟩
  · rintro σ Hb ⟨z5,z6,z7,z8,kw,rfl,Sb,hp,wd⟩
    refine ⟨_,rfl,kk Hb p kw (λb u nb e=>?_) (S4.free np) hp ?_ ⟨λc ic lc=>?_,wd.keys⟩⟩
    · exact Sb _ _ (Of _ _ nb (S4 _ _ e))
    · refine Q2 wd.len ?_
      rw[Wc,U0]
      exact Ws _ lkv
    · cases c with
      | nil=>cases lc
      | cons x c =>
        obtain ⟨ic',hx⟩:=Zme ic
        obtain ⟨v,hv,_⟩:=mn0.1 c ic' (by rw[Wg] at lc; omega)
        obtain ⟨i',hi'⟩:=ZnQ hv
        exact wd.val _ ⟨i',x,c,v,rfl,(Qf.mp hi').1,hi',hx⟩
end
end My
namespace L2
open PySem PySem.Spec PyProof.Rows
theorem ZnR{K:PySem.W.Frag}{a:Addr}{xs:List V}{g:TG}{tb:TS}{D:Ends}{σ:St}{H:Hp}(Pv:Nat->St->Hp->Prop)(h0:Pv 0 σ H)(hl:∀i σ H,i<=xs.length->Pv i σ H->SqL K H a xs)
    (hs:∀i x σ H,xs.reverse[i]?=some x->Pv i σ H->g x σ H λσ2 H2=>tb { D with nx:=Pv (i+1),ct:=Pv (i+1),bk:=D.nx } σ2 H2) (hd:∀σ H,Pv xs.length σ H->D.nx σ H) :
    ∃W:Nat->Nat->St->Hp->Prop,(∃m,W 0 m σ H)/\∀i m σ H,W i m σ H →
      ((Itv K a xs.length).stop i H/\D.nx σ H)\/((Itv K a xs.length).go i H/\∃N:St->Hp->Prop,(∀σ' H',N σ' H'->∃m',m'<m/\W (i+1) m' σ' H')/\∀x H',(Itv K a xs.length).yld i H x H'->g x σ H' λσ2 H2=>tb { D with nx:=N,ct:=N,bk:=D.nx } σ2 H2):=by
  refine ⟨λi m σ H=>m=xs.length-i/\i<=xs.length/\Pv i σ H,⟨_,rfl,Qd _,h0⟩,?_⟩
  rintro i m σ H ⟨rfl,hi,p⟩
  have q:=hl i σ H hi p
  by_cases h:i<xs.length
  · refine .inr ⟨⟨h,xs,q,rfl⟩,Pv (i+1),λσ' H' p'=>⟨xs.length-(i+1),by omega,rfl,h,p'⟩,λx H' y=>?_⟩
    obtain ⟨e1,e2⟩:=y
    subst e1
    exact hs i x σ _ (by rw[List.getElem?_reverse h]; exact e2 xs q) p
  · have e:i=xs.length:=by omega
    subst e
    exact .inl ⟨rfl,hd σ H p⟩
end L2
namespace My
open PySem L2 PyProof.Rows Rg
section
variable{κ:KX}
theorem ZmI{h:Nat->κ.F}{M:Nat}:∀k,(∀i,i<k->QN κ 1 M (h i))->QN κ 1 (k*M) (Sg h k)
  | 0,_=>QN.zero
  | k+1,e=>by
    rw[Nat.succ_mul]
    exact QN.add (by decide) (ZmI k λi hi=>e i (by omega)) (e k (by omega))
theorem QN.mulM{M N:Nat}{x y:κ.F}(h:QN κ 1 M x)(g:QN κ 1 N y):QN κ 1 (M*N) (x*y):=h.mul g
theorem Zp1:QN κ 1 1 (1:κ.F):=by
  cases κ with
  | r p hp=>exact trivial
  | q=>exact ⟨1,by show (1:Rat)=Rat.divInt 1 1; decide +kernel,by decide⟩
theorem ZkW:∀n,QN κ 1 1 (sgn κ n)
  | 0=>Zp1
  | n+1=>(ZkW n).neg1
theorem Zh1{M:Nat}:∀(k:Nat) {a:Nat->Nat->κ.F},k<=7->(∀i j,QN κ 1 M (a i j))->QN κ 1 ((7*M)^k) (det k a)
  | 0,_,_,_=>Zp1
  | k+1,a,hk,h=>by
    refine QN.mono (ZmI (M:=1*M*(7*M)^k) (k+1) λj _=>((ZkW j).mulM (h 0 j)).mulM (Zh1 k (by omega) λi t=>h (i+1) (skip j t))) ?_
    rw[Wc,Ul,U0 ((7*M)^k) (7*M),W8]
    exact Ws _ hk
theorem ZkX{D:Int}{M:Nat}{A:List (List κ.F)}(h:AllR (QN κ D M) A)(i j:Nat):QN κ D M (ent A i j):=by
  unfold ent
  rw[Q4 (l:=A.getD i [])]
  cases e:(A.getD i [])[j]? with
  | none=>exact QN.zero
  | some x =>
    have hx:=Q9 e
    rw[Q4] at hx
    cases e2:A[i]? with
    | none=>rw[e2] at hx; cases hx
    | some f=>rw[e2] at hx; exact h f (Q9 e2) x hx
theorem Zh2{M n B:Nat}(h:(7*M)^n<=B)(hB:1<=B){k:Nat}(hk:k<=n):(7*M)^k<=B:=by
  by_cases z:M=0
  · subst z
    cases k with
    | zero=>exact hB
    | succ k=>rw[Wc]; omega
  · exact Q2 (Qe (by omega) hk) h
theorem MnR.congr{H:Hp}{kvs:List (List Key×V)}{a b:Nat->Nat->κ.F}{k m:Nat}(h:MnR κ H kvs a k m)(e:∀i j,i<k->a i j=b i j):MnR κ H kvs b k m :=
  ⟨λc hc lc=>by
    obtain ⟨v,hv,n⟩:=h.1 c hc lc
    refine ⟨v,hv,?_⟩
    rw[<-Zax (a:=λi j=>a i (c.getD j 0)) λi j hi _=>e i _ hi]
    exact n,h.2⟩
theorem ZkY(m:Nat):Inc m (List.range m):=⟨List.pairwise_lt_range,λx hx=>U5.mp hx⟩
theorem ZkZ(m:Nat)(a:Nat->Nat->κ.F):(det m λi j=>a i ((List.range m).getD j 0))=det m a :=
  Zax λi j _ hj=>by rw[Q4,Wj hj]; rfl
end
inductive ZcI (CF CR:Addr) (vs:List V) (H:Hp) (Q:VK) (zE:XK):Prop
  | mk (κ:KX) (s D:Addr) (ds:List Addr) (F:List (List κ.F)) (m M:Nat) (_:vs=[.ref s,.ref D]) (_:KdX CF CR κ H s) (_:H D=some (.lst (ds.map V.ref))) (_:RowsX κ H ds F) (_:Wid m F) (_:F.length<=7) (_:m<=7) (_:AllR (QN κ 1 M) F) (_:(7*M)^F.length<=10^500) (_:M<=10^500) (_:∀(H':Hp) (d:Addr) (kvs:List (List Key×V)),Same H H'->H' d=some (.dT kvs)->MnR κ H' kvs (ent F) F.length m->Q (.ref d) H'):ZcI CF CR vs H Q zE
inductive ZcJ (CF CR cF:Addr) (vs:List V) (H:Hp) (Q:VK) (E:XK):Prop
  | mk (κ:KX) (s tb:Addr) (rs:List Addr) (A:List (List κ.F)) (m:Nat) (_:vs=[.ref s,.ref tb]) (_:KdX CF CR κ H s) (_:TabR κ H tb rs A m) (_:(A.length≠m->E (.ref cF) none H)) (_:(A.length=m->m<=7/\(κ = .q->m<=5)/\SzD κ A/\∀H' v,Same H H'->NR κ H' v (det m (ent A))->Q v H')):ZcJ CF CR cF vs H Q E
end My
namespace My
open PySem L2 PyProof.Rows Rg
section
variable{P:Program}{w:World}{K:PySem.W.Frag}{mg:Str->Option Value}{base:Heap}{CF CR cN cF:Addr}
theorem sc_minors_of:FnScope ["kind", "rows", "minors", "row"] ["kind", "rows"] (Zah Zdc):=⟨rfl,rfl,rfl,by decide +kernel,rfl,by decide +kernel,by decide +kernel⟩
theorem Zg3(h:Here K mg "minors_of" Zdc) (Tv:mg "reversed" = none) (mn:ZbO P w K mg base CF CR) (h_wider_minors:Has P w K mg base "wider_minors" 5 ["kind", "row", "minors"] (Zgj CF CR)):Has P w K mg base "minors_of" 6 ["kind", "rows"] (ZcI CF CR):=by
  refine h.has (λf fd F=>F.binds λ_ _ _ _ _ _ us hl=>by obtain ⟨_,_,rfl⟩:=Zed hl; exact rfl) λf fd F=>F.ok sc_minors_of (λvs H Q E h=>?_) (λcdv A outer s H vs Q E hr h=>?_)
  · obtain ⟨_,_,_,_,_,_,_,rfl,_⟩:=h
    rfl
  obtain ⟨κ,sk,D,ds,F,m,M,rfl,hk,hD,rF,wF,n7,m7,qF,hN,hM,kk⟩:=h
  have nd:=sc_minors_of.nd
  have hu:=Zll hr
  refine ⟨_,(Zab (Zaj (i:=2) nd rfl (Or.inl rfl) (ZlC hu (ZaB Zad) (ZaH (pv 0) ZcY hr (Zaa Zac Zad))))
    (Zab (Za7 PassesOwn.never rfl (Zoq (by rfl) Tv (Zaa (pv 1) Zad)) (Zat (i:=3) nd rfl (Or.inl rfl)) (Zaf (Zaj (i:=2) nd rfl (Or.inl rfl) (Zao h_wider_minors hr (by rfl) (Zaa (pv 0) (Zaa (pv 3) (Zaa (pv 2) Zad)))))))
    (Zaf (Zam (pv 2))))),?_⟩
  have lds:=rF.1
  refine λp np=>⟨(by show 0<=sizeLine; decide),λt nt=>?_⟩
  have Sp0:=Zag np (.dT [])
  have qp:=Zae (H:=H) (a:=p) (o:=.dT [])
  generalize upd H p (.dT [])=H1 at *
  have St:=Zag nt (.tup [])
  have qt:=Zae (H:=H1) (a:=t) (o:=.tup [])
  generalize upd H1 t (.tup [])=H2 at *
  have S2:=Sp0.trans St
  obtain ⟨C,dx,fs,ps,dvs,sp,c1,c2,c3,c4,rfl,c5⟩:=mn κ H2 sk (hk.same S2)
  refine ⟨_,rfl,sk,C,dx,fs,ps,_,sp,rfl,c1,c2,c3.mono (by decide),c4,c5 H2 1 1 _ _ (Same.refl _) ZcZ λv H3 S3 nv=>?_⟩
  have qp3:=S3 _ _ (St _ _ qp)
  refine ⟨qp3,[],t,rfl,S3 _ _ qt,?_⟩
  have O3:Off [p] H3 (upd H3 p (.dT [([],v)])):=Zay (Same.refl H3)
  have q4:=Zae (H:=H3) (a:=p) (o:=.dT [([],v)])
  have S04:Same H (upd H3 p (.dT [([],v)])):=Off.same O3 (S2.trans S3) (λz hz=>by rw[Q3.mp hz]; exact np)
  have nv4:NR κ (upd H3 p (.dT [([],v)])) v 1:=nv.tups λb zs e=>by rw[Zap (Zjl e qp3 (λz=>nomatch z))]; exact e
  generalize upd H3 p (.dT [([],v)])=H4 at *
  refine ⟨_,rfl,D,_,rfl,SqL.of (S04 _ _ hD),?_⟩
  refine ZnR (K:=K) (a:=D) (xs:=ds.map V.ref) (λq σ H5=>∃(z3:Option V) (d:Addr) (kvs:List (List Key×V)),σ=[some (.ref sk),some (.ref D),some (.ref d),z3]/\Same H H5/\H d=none/\H5 d=some (.dT kvs)/\kvs.length<=7^q/\MnR κ H5 kvs (λi j=>ent F (F.length-q+i) j) q m) ⟨_,p,_,rfl,S04,np,q4,Q1 _,⟨λc _ lc=>?_,λq hq=>?_⟩⟩ ?_ ?_ ?_
  · rw[List.length_eq_zero_iff.mp lc]
    exact ⟨v,rfl,nv4⟩
  · rw[Q3.mp hq]
    exact ⟨[],⟨.nil,λ_ z=>nomatch z⟩,rfl,rfl⟩
  · rintro i σ H5-⟨z3,d,kvs,rfl,S5,-⟩
    exact SqL.of (S5 _ _ hD)
  · rintro q x σ H5 hx ⟨z3,d,kvs,rfl,S5,nd5,hd5,lk,mr⟩
    have hq:q<F.length:=by
      have:=(Qf.mp hx).1
      rw[List.length_reverse,Q0] at this
      omega
    rw[List.getElem?_reverse (by rw[Q0]; omega),Q0] at hx
    obtain ⟨ra,hra,rfl⟩:=ZaT hx
    obtain ⟨f,hf⟩:=ZaL hra lds
    obtain ⟨xs,hxs,al⟩:=rF.2 _ ra f hra hf
    have mf:=Q9 hf
    refine ⟨_,rfl,_,rfl,_,rfl,κ,sk,ra,d,xs,f,kvs,_,q,m,M,(7*M)^q,rfl,hk.same S5,S5 _ _ hxs,al.mono (λ_ _ n=>n.same S5),wF f mf,m7,by omega,hd5,lk,mr,qF f mf,(λc _ _=>Zh1 q (by omega) λi j=>ZkX qF _ _),hM,Zh2 hN (by decide) (by omega),λH6 d' kvs' O6 nd' hd' lk' mr'=>?_⟩
    refine ⟨_,d',kvs',rfl,Off.same O6 S5 (λz hz=>by rw[Q3.mp hz]; exact nd5),S5.free nd',hd',lk',mr'.congr λi j hi=>?_⟩
    cases i with
    | zero =>
      show f.getD j 0=ent F (F.length-(q+1)+0) j
      unfold ent
      rw[show F.getD (F.length-(q+1)+0) []=f by rw[Q4,show F.length-(q+1)+0=ds.length-1-q by omega,hf]; rfl]
    | succ i =>
      show ent F (F.length-q+i) j=ent F (F.length-(q+1)+(i+1)) j
      rw[show F.length-(q+1)+(i+1)=F.length-q+i by omega]
  · rintro σ H5 ⟨z3,d,kvs,rfl,S5,nd5,hd5,lk,mr⟩
    rw[Q0,lds] at mr
    exact ⟨_,rfl,kk H5 d kvs S5 hd5 (mr.congr λi j _=>by rw[U3,Nat.zero_add])⟩
theorem sc_by_minors:FnScope ["kind", "table", "part", "minors"] ["kind", "table"] (Zah Zdd):=⟨rfl,rfl,rfl,by decide +kernel,rfl,by decide +kernel,by decide +kernel⟩
theorem Zg4(h:Here K mg "by_minors" Zdd) (T:Nm mg) (Tt:mg "tuple" = none) (mnS:Zet P w K mg base CF CR) (mt:ZhA P w K mg base CF CR "times" (λ_ x y=>x*y)) (h_need_square:HasX P w K mg base "need_square" 6 ["table"] (Za2 cF)) (h_freed:Has P w K mg base "freed" 6 ["kind", "table"] (ZdE CF CR)) (h_minors_of:Has P w K mg base "minors_of" 6 ["kind", "rows"] (ZcI CF CR)):HasX P w K mg base "by_minors" 7 ["kind", "table"] (ZcJ CF CR cF):=by
  refine h.hasX (λf fd F=>F.binds λ_ _ _ _ _ _ us hl=>by obtain ⟨_,_,rfl⟩:=Zed hl; exact rfl) λf fd F=>F.okx sc_by_minors (λvs H Q E h=>?_) (λcdv A outer s H vs Q E hr h=>?_)
  · obtain ⟨_,_,_,_,_,_,rfl,_⟩:=h
    rfl
  obtain ⟨κ,sk,tb,rs,A,m,rfl,hk,ta,kF,kS⟩:=h
  have nd:=sc_by_minors.nd
  have hu:=Zll hr
  refine ⟨_,(Zab (ZaO (ZdM h_need_square ZgJ hr (by rfl) (Zaa (pv 1) Zad)))
    (Zab (Zaj (i:=2) nd rfl (Or.inl rfl) (Zao h_freed hr (by rfl) (Zaa (pv 0) (Zaa (pv 1) Zad))))
    (Zab (Zaj (i:=3) nd rfl (Or.inl rfl) (Zao h_minors_of hr (by rfl) (Zaa (pv 0) (Zaa (Zak Zal (pv 2) Zac (λ_ _=>rfl)) Zad))))
    (Zaf (Zam (ZaK (pv 0) hr (Zaa (Zj1 hu (pv 3) (Zj7 (by rfl) Tt (by rfl) T.range (by rfl) (Zaa (Zas Zan (by rfl) T.len boot_len (Zaa (pv 1) Zad)) Zad)) (λ_ _=>rfl)) (Zaa (ZaH (pv 0) ZgJ hr (Zaa Zac (Zaa (Zak Zal (pv 2) Zac (λ_ _=>rfl)) Zad))) Zad)))))))),?_⟩
  refine ⟨_,rfl,κ,tb,rs,A,m,rfl,ta,(λsq=>?_),kF⟩
  obtain ⟨m7,m5,sz,k⟩:=kS sq
  have lr:=ta.r.1
  have n1:=ta.n1
  refine ⟨_,rfl,_,rfl,κ,sk,tb,rs,A,m,rfl,hk,ta.l,ta.r,ta.w,by omega,by omega,sz,λH1 tp D ds F b y c S1 htp hD rF wF lF qF bt eF ey=>?_⟩
  have lFm:F.length=m:=by omega
  have dF:det m (ent F)=y*det m (ent A):=by
    rw[ey,sq]
    exact ZcV m (Q1 _) λi j hi hj=>by rw[if_pos hi]; exact eF i j (by omega) hj
  obtain ⟨M,qF1,hN,hM⟩:∃M,AllR (QN κ 1 M) F/\(7*M)^F.length<=10^500/\M<=10^500:=by
    cases κ with
    | r p hp=>exact ⟨0,λ_ _ _ _=>trivial,Zh2 (M:=0) (n:=7) (by decide) (by decide) (by omega),by decide⟩
    | q =>
      have:=m5 rfl
      exact ⟨2^300,λf hf x hx=>by obtain ⟨X,e,l⟩:=qF f hf x hx; exact ⟨X,e,Qt l.lt⟩,Zh2 (M:=2^300) (n:=5) (by decide) (by decide) (by omega),by decide⟩
  refine ⟨_,rfl,_,rfl,tp,_,0,_,rfl,rfl,SqT.of htp,rfl,κ,sk,D,ds,F,m,M,rfl,hk.same S1,hD,rF,wF,by omega,m7,qF1,hN,hM,λH2 d kvs S2 hd mr=>?_⟩
  have S02:=S1.trans S2
  rw[lFm] at mr
  obtain ⟨v,hv,nv⟩:=mr.1 (List.range m) (ZkY m) W4
  rw[ZkZ m (ent F)] at nv
  obtain ⟨Ct,dxt,fst,pst,dvt,spt,t1,t2,t3,t4,rfl,t5⟩:=mt κ H2 sk (hk.same S02)
  have lb:b.natAbs<=10^1000:=Q2 (Qt bt.l.lt) (by decide)
  refine ⟨_,rfl,sk,Ct,dxt,fst,pst,_,spt,rfl,t1,t2,t3.mono (by decide),t4,_,rfl,_,rfl,tb,_,rfl,.inl (SqL.of (S02 _ _ ta.l)),m,(by rw[Q0,lr,sq]),by omega,λu nu=>?_⟩
  have Su:=Zag nu (.tup ((List.range m).map λ(i:Nat)=>V.int (i:Int)))
  have qu:=Zae (H:=H2) (a:=u) (o:=.tup ((List.range m).map λ(i:Nat)=>V.int (i:Int)))
  generalize upd H2 u (.tup ((List.range m).map λ(i:Nat)=>V.int (i:Int)))=H3 at *
  have S03:=S02.trans Su
  refine ⟨d,v,rfl,.inr ⟨kvs,kc (List.range m),u,.inl (Su _ _ hd),rfl,by rw[Zmc]; exact qu,hv.symm⟩,?_⟩
  obtain ⟨Cn,dxn,fsn,psn,dvn,spn,e1,e2,e3,e4,rfl,e5⟩:=mnS κ H3 sk (hk.same S03)
  refine ⟨_,rfl,sk,Cn,dxn,fsn,psn,_,spn,rfl,e1,e2,e3.mono (by decide),e4,_,rfl,tp,_,1,_,rfl,rfl,SqT.of (Su _ _ (S2 _ _ htp)),rfl,e5 H3 1 b 1 y _ _ (Same.refl _) (by decide) ZcZ bt.n bt.ne bt.p lb bt.r λv4 H5 S5 n4=>?_⟩
  have bx:B1 κ (det m (ent F)):=ZmH (Zh1 m m7 λi j=>ZkX qF1 i j) (by rw[<-lFm]; exact hN)
  refine t5 H5 v v4 _ _ _ (Su.trans S5) (nv.same (Su.trans S5)) n4 bx (Zd5 (n:=0) bt) λv6 H6 S6 n6=>?_
  refine k H6 v6 (S03.trans (S5.trans S6)) ?_
  have e:det m (ent A)=det m (ent F)*(1*Fd.inv y):=by
    rw[dF]
    have mi:=Fd.mul_inv y bt.ne
    generalize Fd.inv y=q at *
    generalize det m (ent A)=d at *
    have:d=q*(y*d):=by grind
    grind
  rw[e]
  exact n6
end
end My
namespace My
open PySem L2 PyProof.Rows Rg
section
variable{P:Program}{w:World}{K:PySem.W.Frag}{mg:Str->Option Value}{base:Heap}
theorem sc_l_lowest:FnScope ["_law_top", "_law_bottom", "_law_by"] ["_law_top", "_law_bottom"] (Zah ZdS):=⟨rfl,rfl,rfl,by decide +kernel,rfl,by decide +kernel,by decide +kernel⟩
theorem Zk0(h:Here K mg "_law_lowest" ZdS) (h_l_divisor:Has P w K mg base "_law_divisor" 1 ["_law_one", "_law_other"] ZaU):Has P w K mg base "_law_lowest" 2 ["_law_top", "_law_bottom"] ZeY:=by
  refine h.has (λf fd F=>F.binds λ_ _ _ _ _ _ us hl=>by obtain ⟨_,_,rfl⟩:=Zed hl; exact rfl) λf fd F=>F.ok sc_l_lowest (λvs H Q E h=>?_) (λcdv A outer s H vs Q E hr h=>?_)
  · obtain ⟨_,_,rfl,_⟩:=h
    rfl
  obtain ⟨t,b,rfl,hb,fb,k⟩:=h
  have nd:=sc_l_lowest.nd
  refine ⟨_,(Zab (Zaj (i:=2) nd rfl (Or.inl rfl) (Zao h_l_divisor hr (by rfl) (Zaa (pv 0) (Zaa (pv 1) Zad))))
    (Zaf (Zam (ZaB (Zaa (Zai Zim (pv 0) (pv 2)) (Zaa (Zai Zim (pv 1) (pv 2)) Zad)))))),?_⟩
  refine ⟨_,rfl,_,rfl,t,b,rfl,?_⟩
  have hg:=M3.gcd_ne (a:=t) (b:=b) (by omega)
  have gl:Int.gcd t b<=b.natAbs:=Ww (by omega) (Wx.mpr (Qy t b))
  have hg1:(Int.gcd t b:Int)≠0/\Bits 8000 (Int.gcd t b:Int):=⟨by omega,fb.le (by rw[Wa]; exact gl)⟩
  obtain ⟨e1,e2⟩:=Zqt (t:=t) hb
  refine ⟨_,rfl,_,rfl,_,_,rfl,rfl,hg1,_,rfl,_,rfl,_,_,rfl,rfl,hg1,(by show 2<=sizeLine; decide),λr hr'=>?_⟩
  have:=k r hr'
  rw[<-e1,<-e2] at this
  exact this
end
section
variable{P:Program}{w:World}{K:PySem.W.Frag}{mg:Str->Option Value}{base:Heap}
theorem Zk1:FnScope ["_law_prime_here", "_law_one", "_law_other"] ["_law_prime_here", "_law_one", "_law_other"] (Zah ZfO):=⟨rfl,rfl,rfl,by decide +kernel,rfl,by decide +kernel,by decide +kernel⟩
theorem Zjf(h:Here K mg "_law_plus" ZfO) (h_l_lowest:Has P w K mg base "_law_lowest" 2 ["_law_top", "_law_bottom"] ZeY):Has P w K mg base "_law_plus" 3 ["_law_prime_here", "_law_one", "_law_other"] (Zbt λ_ x y=>x+y):=by
  refine h.has (λf fd F=>F.binds λ_ _ _ _ _ _ us hl=>by obtain ⟨_,_,_,rfl⟩:=Zei hl; exact rfl) λf fd F=>F.ok Zk1 (λvs H Q E h=>?_) (λcdv A outer s H vs Q E hr h=>?_)
  · obtain ⟨_,_,_,_,_,rfl,_⟩:=h
    rfl
  obtain ⟨κ,u,v,x,y,rfl,nx,ny,bx,by',k⟩:=h
  refine ⟨_,(Zab (ZaF (Zaq ZfA (pv 0) Zac (Zar _)) (Zaf (Zam (Zai ZaD (Zai ZaY (pv 1) (pv 2)) (pv 0)))) Zav)
    (Zaf (Zam (Zao h_l_lowest hr (by rfl) (Zaa (Zai ZaY (Zai ZaA (Zak Zal (pv 1) Zac (λ_ _=>rfl)) (Zak Zal (pv 2) Zac (λ_ _=>rfl))) (Zai ZaA (Zak Zal (pv 2) Zac (λ_ _=>rfl)) (Zak Zal (pv 1) Zac (λ_ _=>rfl)))) (Zaa (Zai ZaA (Zak Zal (pv 1) Zac (λ_ _=>rfl)) (Zak Zal (pv 2) Zac (λ_ _=>rfl))) Zad)))))),?_⟩
  refine ⟨_,rfl,_,_,rfl,rfl,_,rfl,?_⟩
  cases κ with
  | q =>
    obtain ⟨a,rfl,ha⟩:=nx
    obtain ⟨b,rfl,hb⟩:=ny
    refine Zbh (show ¬(0:Int)<0 by decide) ?_
    have px:=(Za4 x).pos
    have py:=(Za4 y).pos
    refine ⟨_,rfl,a,_,0,_,rfl,rfl,SqT.of ha,rfl,_,rfl,b,_,1,_,rfl,rfl,SqT.of hb,rfl,_,_,rfl,rfl,bx.1.mulG by'.2,_,rfl,b,_,0,_,rfl,rfl,SqT.of hb,rfl,_,rfl,a,_,1,_,rfl,rfl,SqT.of ha,rfl,_,_,rfl,rfl,by'.1.mulG bx.2,_,_,rfl,rfl,_,rfl,a,_,1,_,rfl,rfl,SqT.of ha,rfl,_,rfl,b,_,1,_,rfl,rfl,SqT.of hb,rfl,_,_,rfl,rfl,(bx.2.up (by decide)).mulG by'.2,_,_,rfl,Qm px py,(bx.2.times by'.2),λr hr'=>?_⟩
    have e:x+y=Rat.divInt (x.num*y.den+y.num*x.den) ((x.den:Int)*y.den):=by
      rw[<-Ug _ _ (by omega) (by omega),Qo,Qo]
    refine k _ _ (Zag hr' _) ⟨r,rfl,?_⟩
    rw[Zae]
    show _=some (HO.tup [.int (x+y).num,.int ((x+y).den:Int)])
    rw[e]
  | r p hp =>
    have nx:u = .int x.val:=nx
    have ny:v = .int y.val:=ny
    subst nx ny
    refine Zbg (show (0:Int)<(KX.r p hp).P from ZgV) ⟨_,rfl,_,rfl,_,_,rfl,rfl,_,rfl,_,_,rfl,rfl,(show (p:Int)≠0 by have:=hp.two; omega),k H _ (Same.refl H) ?_⟩
    show V.int (((x.val:Int)+y.val).fmod p)=V.int ((Fin.val (x+y):Nat):Int)
    have e:Fin.val (x+y)=(x.val+y.val)%p:=Fin.val_add x y
    rw[e,Wf,Int.natCast_add,Qx _ (by omega)]
end
section
variable{P:Program}{w:World}{K:PySem.W.Frag}{mg:Str->Option Value}{base:Heap}
theorem Zjg:FnScope ["_law_prime_here", "_law_one", "_law_other"] ["_law_prime_here", "_law_one", "_law_other"] (Zah ZeO):=⟨rfl,rfl,rfl,by decide +kernel,rfl,by decide +kernel,by decide +kernel⟩
theorem Zh3(h:Here K mg "_law_times" ZeO) (h_l_lowest:Has P w K mg base "_law_lowest" 2 ["_law_top", "_law_bottom"] ZeY):Has P w K mg base "_law_times" 3 ["_law_prime_here", "_law_one", "_law_other"] (Zbt λ_ x y=>x*y):=by
  refine h.has (λf fd F=>F.binds λ_ _ _ _ _ _ us hl=>by obtain ⟨_,_,_,rfl⟩:=Zei hl; exact rfl) λf fd F=>F.ok Zjg (λvs H Q E h=>?_) (λcdv A outer s H vs Q E hr h=>?_)
  · obtain ⟨_,_,_,_,_,rfl,_⟩:=h
    rfl
  obtain ⟨κ,u,v,x,y,rfl,nx,ny,bx,by',k⟩:=h
  refine ⟨_,(Zab (ZaF (Zaq ZfA (pv 0) Zac (Zar _)) (Zaf (Zam (Zai ZaD (Zai ZaA (pv 1) (pv 2)) (pv 0)))) Zav)
    (Zaf (Zam (Zao h_l_lowest hr (by rfl) (Zaa (Zai ZaA (Zak Zal (pv 1) Zac (λ_ _=>rfl)) (Zak Zal (pv 2) Zac (λ_ _=>rfl))) (Zaa (Zai ZaA (Zak Zal (pv 1) Zac (λ_ _=>rfl)) (Zak Zal (pv 2) Zac (λ_ _=>rfl))) Zad)))))),?_⟩
  refine ⟨_,rfl,_,_,rfl,rfl,_,rfl,?_⟩
  cases κ with
  | q =>
    obtain ⟨a,rfl,ha⟩:=nx
    obtain ⟨b,rfl,hb⟩:=ny
    refine Zbh (show ¬(0:Int)<0 by decide) ?_
    have px:=(Za4 x).pos
    have py:=(Za4 y).pos
    refine ⟨_,rfl,a,_,0,_,rfl,rfl,SqT.of ha,rfl,_,rfl,b,_,0,_,rfl,rfl,SqT.of hb,rfl,_,_,rfl,rfl,bx.1.mulT by'.1,_,rfl,a,_,1,_,rfl,rfl,SqT.of ha,rfl,_,rfl,b,_,1,_,rfl,rfl,SqT.of hb,rfl,_,_,rfl,rfl,(bx.2.up (by decide)).mulG by'.2,_,_,rfl,Qm px py,(bx.2.times by'.2),λr hr'=>?_⟩
    have e:x*y=Rat.divInt (x.num*y.num) ((x.den:Int)*y.den):=by
      rw[<-Wm,Qo,Qo]
    refine k _ _ (Zag hr' _) ⟨r,rfl,?_⟩
    rw[Zae]
    show _=some (HO.tup [.int (x*y).num,.int ((x*y).den:Int)])
    rw[e]
  | r p hp =>
    have nx:u = .int x.val:=nx
    have ny:v = .int y.val:=ny
    subst nx ny
    refine Zbg (show (0:Int)<(KX.r p hp).P from ZgV) ⟨_,rfl,_,rfl,_,_,rfl,rfl,ZbA (ZaV hp x) (ZaV hp y),_,rfl,_,_,rfl,rfl,(show (p:Int)≠0 by have:=hp.two; omega),k H _ (Same.refl H) ?_⟩
    show V.int (((x.val:Int)*y.val).fmod p)=V.int ((Fin.val (x*y):Nat):Int)
    have e:Fin.val (x*y)=(x.val*y.val)%p:=Fin.val_mul x y
    rw[e,Wf,Wl,Qx _ (by omega)]
end
section
variable{P:Program}{w:World}{K:PySem.W.Frag}{mg:Str->Option Value}{base:Heap}
theorem Zk2:FnScope ["_law_prime_here", "_law_number"] ["_law_prime_here", "_law_number"] (Zah ZfP):=⟨rfl,rfl,rfl,by decide +kernel,rfl,by decide +kernel,by decide +kernel⟩
theorem Zk3(h:Here K mg "_law_made" ZfP):Has P w K mg base "_law_made" 1 ["_law_prime_here", "_law_number"] ZbK:=by
  refine h.has (λf fd F=>F.binds λ_ _ _ _ _ _ us hl=>by obtain ⟨_,_,rfl⟩:=Zed hl; exact rfl) λf fd F=>F.ok Zk2 (λvs H Q E h=>?_) (λcdv A outer s H vs Q E hr h=>?_)
  · obtain ⟨_,_,_,rfl,_⟩:=h
    rfl
  obtain ⟨κ,t,x,rfl,nx,k⟩:=h
  refine ⟨_,(Zab (ZaF (Zaq ZfA (pv 0) Zac (Zar _)) (Zaf (Zam (Zai ZaD (pv 1) (pv 0)))) Zav)
    (Zaf (Zam (ZaB (Zaa (pv 1) (Zaa Zac Zad)))))),?_⟩
  refine ⟨_,rfl,_,_,rfl,rfl,_,rfl,?_⟩
  cases κ with
  | r p hp =>
    have h2:=hp.two
    refine Zbg (show (0:Int)<(KX.r p hp).P from ZgV) ⟨_,rfl,_,rfl,_,_,rfl,rfl,(show (p:Int)≠0 by omega),k H _ (Same.refl H) ?_⟩
    show V.int (t.fmod p)=V.int x.val
    have e:(Fin.val x:Int)=t%p:=nx.2
    rw[Qx _ (by omega),e]
  | q =>
    refine Zbh (show ¬(0:Int)<0 by decide) ⟨_,rfl,(by show 2<=sizeLine; decide),λr nr=>?_⟩
    refine k _ _ (Zag nr _) ⟨r,rfl,?_⟩
    have e1:Rat.num x=t:=nx.1
    have e2:Rat.den x=1:=nx.2
    rw[Zae,e1,e2]; rfl
end
section
variable{P:Program}{w:World}{K:PySem.W.Frag}{mg:Str->Option Value}{base:Heap}{CF CR CE cK cN cF cT cI cX cM cR:Addr}
theorem Zfn:FnScope ["_law_prime_here", "_law_found", "_law_due_here"] ["_law_prime_here", "_law_found", "_law_due_here"] (Zah Zcl):=⟨rfl,rfl,rfl,by decide +kernel,rfl,by decide +kernel,by decide +kernel⟩
theorem Zff(h:Here K mg "_law_number_is" Zcl) (T:Nm mg) (h_l_whole:Has P w K mg base "_law_whole" 1 ["_law_found"] Zdw):Has P w K mg base "_law_number_is" 2 ["_law_prime_here", "_law_found", "_law_due_here"] ZbN:=by
  refine h.has (λf fd F=>F.binds λ_ _ _ _ _ _ us hl=>by obtain ⟨_,_,_,rfl⟩:=Zei hl; exact rfl) λf fd F=>F.ok Zfn (λvs H Q E h=>?_) (λcdv A outer s H vs Q E hr h=>?_)
  · obtain ⟨_,_,_,_,rfl,_⟩:=h
    rfl
  obtain ⟨κ,u,v,x,rfl,nu,nv,k⟩:=h
  refine ⟨_,(Zab (ZaF (Zaq ZfA (pv 0) Zac (Zar _)) (Zaf (Zam (Zfp (Zao h_l_whole hr (by rfl) (Zaa (pv 1) Zad)) (Zgs (Zbz (ZjY hr) (pv 1) (pv 2) (Zar _)))))) Zav)
    (Zab (ZaF (Zjn (Zdr (Zdq (Zas ZgM (by rfl) T.isinstance boot_isinstance (Zaa (pv 1) (Zaa (ZjH (by rfl) T.tuple boot_tuple) Zad))))) (Zgr (Zaq Zgt (Zas Zan (by rfl) T.len boot_len (Zaa (pv 1) Zad)) Zac (Zar _)))).pt (Zaf (Zam Zgq)) Zav)
    (Zaf (Zam (Zfp (Zao h_l_whole hr (by rfl) (Zaa (Zak Zal (pv 1) Zac (λ_ _=>rfl)) Zad)) (Zfp (Zao h_l_whole hr (by rfl) (Zaa (Zak Zal (pv 1) Zac (λ_ _=>rfl)) Zad)) (Zgs (Zbz (ZjY hr) (pv 1) (pv 2) (Zar _))))))))),?_⟩
  have r1:=nu.rp.mono (show 1<=8 by decide)
  have r2:=nv.rp.mono (show 1<=8 by decide)
  refine ⟨_,rfl,_,_,rfl,rfl,_,rfl,?_⟩
  cases κ with
  | r p hp =>
    have nu:u = .int x.val:=nu
    subst nu
    exact Zbg (show (0:Int)<(KX.r p hp).P from ZgV) ⟨_,rfl,_,rfl,_,rfl,ZiN ⟨_,rfl,_,rfl,_,r1,r2,k⟩⟩
  | q =>
    obtain ⟨a,rfl,ha⟩:=nu
    refine Zbh (show ¬(0:Int)<0 by decide) ?_
    refine ⟨_,rfl,_,_,_,_,rfl,.of (.tup ha),.ty (ZfF K _),_,rfl,Zji ?_⟩
    refine ⟨_,rfl,a,_,rfl,.inr (SqT.of ha),rfl,_,rfl,ZeC (λz=>absurd rfl z) (λ_=>?_)⟩
    refine ⟨_,rfl,a,_,0,_,rfl,rfl,SqT.of ha,rfl,_,rfl,_,rfl,ZiN ⟨_,rfl,a,_,1,_,rfl,rfl,SqT.of ha,rfl,_,rfl,_,rfl,ZiN ⟨_,rfl,_,rfl,_,r1,r2,k⟩⟩⟩
end
inductive Zdn (vs:List V) (H:Hp) (Q:VK) (zE:XK):Prop
  | mk (c:Int) (_:vs=[.int c]) (_:∀(H':Hp) (p:Int),Same H H'->PK p->Q (.int p) H'):Zdn vs H Q zE
section
variable{P:Program}{w:World}{K:PySem.W.Frag}{mg:Str->Option Value}{base:Heap}
theorem sc_l_prime:FnScope ["_law_cell", "_law_number"] ["_law_cell"] (Zah ZeN):=⟨rfl,rfl,rfl,by decide +kernel,rfl,by decide +kernel,by decide +kernel⟩
theorem Zh4(h:Here K mg "_law_prime" ZeN) (h_l_is_prime:Has P w K mg base "_law_is_prime" 1 ["_law_number"] Zdx):Has P w K mg base "_law_prime" 2 ["_law_cell"] Zdn:=by
  refine h.has (λf fd F=>F.binds λ_ _ _ _ _ _ us hl=>by obtain ⟨_,rfl⟩:=Zlu hl; exact rfl) λf fd F=>F.ok sc_l_prime (λvs H Q E h=>?_) (λcdv A outer s H vs Q E hr h=>?_)
  · obtain ⟨_,rfl,_⟩:=h
    rfl
  obtain ⟨c,rfl,k⟩:=h
  have nd:=sc_l_prime.nd
  refine ⟨_,(Zab (ZaF (Zaq Za8 (Zai ZaQ (pv 0) Zac) Zac (Zar _)) (Zaf (Zam Zac)) Zav)
    (Zab (Zaj (i:=1) nd rfl (Or.inl rfl) (Zai ZaY Zac (Zai ZaD (Zai Zhe (pv 0) Zac) (Zak Zau (Zb9 (Zaa Zac (Zaa Zac (Zaa Zac Zad)))) (Zai ZaQ (pv 0) Zac) (λ_ _=>rfl)))))
    (Zab (ZcN PassesOwn.never (Zdr (Zdq (Zao h_l_is_prime hr (by rfl) (Zaa (pv 1) Zad)))) (Zaf (Zaj (i:=1) nd rfl (Or.inl rfl) (Zai ZaY (pv 1) Zac))))
    (Zaf (Zam (pv 1)))))),?_⟩
  refine ⟨_,rfl,_,_,rfl,rfl,(by show (0:Int)<_; decide),rfl,_,rfl,?_⟩
  refine Zbv (λ_=>k H 0 (Same.refl H) (.inl rfl)) (λ_=>?_)
  obtain ⟨m,am,m1,m2⟩:=Zpx c
  refine ⟨_,rfl,_,_,rfl,rfl,⟨by decide,by decide⟩,(by show 3<=sizeLine; decide),λq hq=>?_⟩
  refine ⟨_,rfl,_,_,rfl,rfl,(by show (0:Int)<_; decide),_,_,_,_,rfl,rfl,SqL.of Zae,am,_,_,rfl,rfl,(show m≠0 by omega),_,_,rfl,rfl,?_⟩
  have S:=Zag hq (.lst [.int 11,.int 11,.int 999982])
  generalize upd H q _=H1 at *
  have fm:(c/3).fmod m=c/3%m:=Qx _ (by omega)
  have f1:=U2 (c/3) (show m≠0 by omega)
  have f2:=Ue (c/3) (show 0<m by omega)
  refine ⟨λmm σ H'=>∃t:Int,mm=(999983-t).toNat/\σ=[some (.int c),some (.int t)]/\H'=H1/\2<=t/\t<=999983,⟨_,2+(c/3).fmod m,rfl,rfl,rfl,by omega,by omega⟩,?_⟩
  rintro mm σ H' ⟨t,rfl,rfl,rfl,h2,ht⟩
  refine ⟨_,rfl,t,rfl,by omega,λhp=>⟨_,rfl,?_⟩,λhp=>⟨_,rfl,?_⟩⟩
  · refine Zji ?_
    exact ⟨_,rfl,k _ t S (.inr ⟨hp,by omega⟩)⟩
  · refine ZiN ?_
    refine ⟨_,λ_ _ h=>h,?_⟩
    have hne:t≠999983:=λz=>hp (by rw[z]; exact M2.prm_big)
    refine ⟨_,rfl,_,_,rfl,rfl,?_⟩
    exact ⟨_,by omega,t+1,rfl,rfl,rfl,by omega,by omega⟩
end
inductive Zfg (CF CR:Addr) (vs:List V) (H:Hp) (Q:VK) (zE:XK):Prop
  | mk (p:Int) (_:vs=[.int p]) (_:PK p) (_:∀(H':Hp) (k:Addr),Same H H'->KdA CF CR p H' k->Q (.ref k) H'):Zfg CF CR vs H Q zE
section
variable{P:Program}{w:World}{K:PySem.W.Frag}{mg:Str->Option Value}{base:Heap}{CF CR cN:Addr}
theorem Zk4:FnScope ["_law_prime_here"] ["_law_prime_here"] (Zah ZfN):=⟨rfl,rfl,rfl,by decide +kernel,rfl,by decide +kernel,by decide +kernel⟩
theorem Zk5(h:Here K mg "_law_kind" ZfN) (kd:Kd K mg CF CR) (hI:HasI P w K mg base CR 2 ["self", "prime"] (ZfV CR)):Has P w K mg base "_law_kind" 4 ["_law_prime_here"] (Zfg CF CR):=by
  refine h.has (λf fd F=>F.binds λ_ _ _ _ _ _ us hl=>by obtain ⟨_,rfl⟩:=Zlu hl; exact rfl) λf fd F=>F.ok Zk4 (λvs H Q E h=>?_) (λcdv A outer s H vs Q E hr h=>?_)
  · obtain ⟨_,rfl,_⟩:=h
    rfl
  obtain ⟨p,rfl,hp,k⟩:=h
  refine ⟨_,(Zab (ZaF (Zaq Za8 (pv 0) Zac (Zar _)) (Zaf (Zam (ZjL kd.mkF (by rfl) kd.mgF))) Zav)
    (Zaf (Zam (Zlo hI hr (by rfl) kd.mgR (Zaa (pv 0) Zad))))),?_⟩
  refine ⟨_,rfl,rfl,_,rfl,?_⟩
  refine Zbv (λz=>?_) (λz=>?_)
  · intro f0 df0 nf0 ndf0 nef0
    refine k _ f0 (λb o e=>?_) (.inl ⟨z,df0,Zae⟩)
    rw[Zap (Zaz e nf0),Zap (Zaz e ndf0)]; exact e
  · rcases hp with rfl | ⟨pr1,lp1⟩
    · exact absurd rfl z
    refine ⟨_,rfl,λx1 dx1 nx1 ndx1 nex1=>⟨x1,dx1,p,rfl,Zae,pr1,lp1,rfl,?_⟩⟩
    refine k _ x1 (λb o e=>?_) (.inr ⟨pr1,lp1,dx1,Zae⟩)
    rw[Zap (Zaz e nx1),Zap (Zaz e nx1),Zap (Zaz e ndx1)]; exact e
end
end My
namespace My
open PySem L2 PyProof.Rows Rg
theorem Zeg{H:Hp}{a:Addr}{n d:Int}(fc:Fc n d)(h:H a=some (.tup [.int n,.int d]))(d0:d=1\/d=2\/d=3)(hn:n.natAbs<=3)(n0:n≠0):∃x:KX.q.F,NR .q H (.ref a) x/\x≠0/\(∃e:Int,(e=1\/e=2\/e=3)/\QM .q e 3 x):=by
  obtain ⟨x,e1,e2⟩:=ZgW fc
  refine ⟨x,⟨a,rfl,by rw[e1,e2]; exact h⟩,λz=>n0 ?_,⟨d,d0,n,?_,hn⟩⟩
  · rw[<-e1]
    have z:x=(0:Rat):=z
    rw[z]; rfl
  · rw[<-e1,<-e2]; exact (Qo x).symm
section
variable{P:Program}{w:World}{K:PySem.W.Frag}{mg:Str->Option Value}{base:Heap}
theorem sc_l_scale:FnScope ["_law_prime_here", "_law_cell", "_law_some"] ["_law_prime_here", "_law_cell"] (Zah ZeR):=⟨rfl,rfl,rfl,by decide +kernel,rfl,by decide +kernel,by decide +kernel⟩
theorem Zg5(h:Here K mg "_law_scale" ZeR):Has P w K mg base "_law_scale" 1 ["_law_prime_here", "_law_cell"] ZcG:=by
  refine h.has (λf fd F=>F.binds λ_ _ _ _ _ _ us hl=>by obtain ⟨_,_,rfl⟩:=Zed hl; exact rfl) λf fd F=>F.ok sc_l_scale (λvs H Q E h=>?_) (λcdv A outer s H vs Q E hr h=>?_)
  · obtain ⟨_,_,rfl,_⟩:=h
    rfl
  obtain ⟨κ,c,rfl,k⟩:=h
  have nd:=sc_l_scale.nd
  refine ⟨_,(Zab (ZaF (Zaq ZfA (pv 0) Zac (Zar _)) (Zaf (Zam (Zai ZaY Zac (Zai ZaD (Zai Zb7 (pv 1) Zac) (Zai Zc1 (pv 0) Zac))))) Zav)
    (Zab (Zaj (i:=2) nd rfl (Or.inl rfl) (Zb9 (Zaa (ZaB (Zaa (ZdJ Zb8 Zac) (Zaa Zac Zad))) (Zaa (ZaB (Zaa Zac (Zaa Zac Zad))) (Zaa (ZaB (Zaa Zac (Zaa Zac Zad))) (Zaa (ZaB (Zaa (ZdJ Zb8 Zac) (Zaa Zac Zad))) (Zaa (ZaB (Zaa (ZdJ Zb8 Zac) (Zaa Zac Zad))) (Zaa (ZaB (Zaa Zac (Zaa Zac Zad))) (Zaa (ZaB (Zaa Zac (Zaa Zac Zad))) (Zaa (ZaB (Zaa (ZdJ Zb8 Zac) (Zaa Zac Zad))) Zad))))))))))
    (Zaf (Zam (Zak Zau (pv 2) (Zai ZaQ (Zai ZaQ (Zai Zb7 (pv 1) Zac) Zac) Zac) (λ_ _=>rfl)))))),?_⟩
  refine ⟨_,rfl,_,_,rfl,rfl,_,rfl,?_⟩
  cases κ with
  | r p hp =>
    have h2:=hp.two
    refine Zbg (show (0:Int)<(KX.r p hp).P from ZgV) ⟨_,rfl,_,_,rfl,rfl,.inr ⟨by decide,by decide⟩,_,rfl,_,_,rfl,rfl,_,_,rfl,rfl,(show (p:Int)-1≠0 by omega),_,_,rfl,rfl,?_⟩
    obtain ⟨i,ei,li⟩:=ZhC (a:=c*30307) (n:=p-1) (by omega)
    have en:((p-1:Nat):Int)=(p:Int)-1:=by omega
    rw[en] at ei
    refine k H _ (⟨i+1,by omega⟩:Fin p) (Same.refl H) ?_ (λz=>?_) ⟨1,.inl rfl,trivial⟩
    · show V.int (1+(c*30307).fmod ((p:Int)-1))=V.int (((i+1:Nat):Nat):Int)
      rw[ei]
      exact congrArg V.int (by omega)
    · have:(⟨i+1,by omega⟩:Fin p)=K0 (.r p hp):=z
      have:=congrArg Fin.val this
      rw[ZdA] at this
      exact absurd this (Nat.succ_ne_zero i)
  | q =>
    refine Zbh (show ¬(0:Int)<0 by decide) ?_
    refine ⟨_,rfl,(by show 2<=sizeLine; decide),λa1 f1=>?_⟩
    have S1:=Zag f1 (.tup [.int (-1),.int 1])
    have q1:=Zae (H:=H) (a:=a1) (o:=.tup [.int (-1),.int 1])
    generalize upd H a1 (.tup [.int (-1),.int 1])=G1 at *
    refine ⟨(by show 2<=sizeLine; decide),λa2 f2=>?_⟩
    have S2:=Zag f2 (.tup [.int 2,.int 1])
    have q2:=Zae (H:=G1) (a:=a2) (o:=.tup [.int 2,.int 1])
    generalize upd G1 a2 (.tup [.int 2,.int 1])=G2 at *
    refine ⟨(by show 2<=sizeLine; decide),λa3 f3=>?_⟩
    have S3:=Zag f3 (.tup [.int 1,.int 2])
    have q3:=Zae (H:=G2) (a:=a3) (o:=.tup [.int 1,.int 2])
    generalize upd G2 a3 (.tup [.int 1,.int 2])=G3 at *
    refine ⟨_,rfl,(by show 2<=sizeLine; decide),λa4 f4=>?_⟩
    have S4:=Zag f4 (.tup [.int (-2),.int 1])
    have q4:=Zae (H:=G3) (a:=a4) (o:=.tup [.int (-2),.int 1])
    generalize upd G3 a4 (.tup [.int (-2),.int 1])=G4 at *
    refine ⟨_,rfl,(by show 2<=sizeLine; decide),λa5 f5=>?_⟩
    have S5:=Zag f5 (.tup [.int (-1),.int 2])
    have q5:=Zae (H:=G4) (a:=a5) (o:=.tup [.int (-1),.int 2])
    generalize upd G4 a5 (.tup [.int (-1),.int 2])=G5 at *
    refine ⟨(by show 2<=sizeLine; decide),λa6 f6=>?_⟩
    have S6:=Zag f6 (.tup [.int 3,.int 1])
    have q6:=Zae (H:=G5) (a:=a6) (o:=.tup [.int 3,.int 1])
    generalize upd G5 a6 (.tup [.int 3,.int 1])=G6 at *
    refine ⟨(by show 2<=sizeLine; decide),λa7 f7=>?_⟩
    have S7:=Zag f7 (.tup [.int 1,.int 3])
    have q7:=Zae (H:=G6) (a:=a7) (o:=.tup [.int 1,.int 3])
    generalize upd G6 a7 (.tup [.int 1,.int 3])=G7 at *
    refine ⟨_,rfl,(by show 2<=sizeLine; decide),λa8 f8=>?_⟩
    have S8:=Zag f8 (.tup [.int (-3),.int 1])
    have q8:=Zae (H:=G7) (a:=a8) (o:=.tup [.int (-3),.int 1])
    generalize upd G7 a8 (.tup [.int (-3),.int 1])=G8 at *
    refine ⟨(by show 8<=sizeLine; decide),λl nl=>?_⟩
    have Sl:=Zag nl (.lst [.ref a1,.ref a2,.ref a3,.ref a4,.ref a5,.ref a6,.ref a7,.ref a8])
    have ql:=Zae (H:=G8) (a:=l) (o:=.lst [.ref a1,.ref a2,.ref a3,.ref a4,.ref a5,.ref a6,.ref a7,.ref a8])
    generalize upd G8 l (.lst [.ref a1,.ref a2,.ref a3,.ref a4,.ref a5,.ref a6,.ref a7,.ref a8])=G9 at *
    have T8:=Sl
    have T7:=S8.trans T8
    have T6:=S7.trans T7
    have T5:=S6.trans T6
    have T4:=S5.trans T5
    have T3:=S4.trans T4
    have T2:=S3.trans T3
    have T1:=S2.trans T2
    have T0:=S1.trans T1
    have key:∃(v:V) (x:KX.q.F),atI [V.ref a1,.ref a2,.ref a3,.ref a4,.ref a5,.ref a6,.ref a7,.ref a8] (c*30307%65579%8)=some v/\NR .q G9 v x/\x≠0/\(∃e:Int,(e=1\/e=2\/e=3)/\QM .q e 3 x):=by
      rcases (by omega:c*30307%65579%8=0\/c*30307%65579%8=1\/c*30307%65579%8=2\/c*30307%65579%8=3\/c*30307%65579%8=4\/c*30307%65579%8=5\/c*30307%65579%8=6\/c*30307%65579%8=7) with e | e | e | e | e | e | e | e <;> rw[e]
      · obtain ⟨x,r⟩:=Zeg (H:=G9) ⟨by decide,by decide⟩ (T1 _ _ q1) (by decide) (by decide) (by decide); exact ⟨_,x,rfl,r⟩
      · obtain ⟨x,r⟩:=Zeg (H:=G9) ⟨by decide,by decide⟩ (T2 _ _ q2) (by decide) (by decide) (by decide); exact ⟨_,x,rfl,r⟩
      · obtain ⟨x,r⟩:=Zeg (H:=G9) ⟨by decide,by decide⟩ (T3 _ _ q3) (by decide) (by decide) (by decide); exact ⟨_,x,rfl,r⟩
      · obtain ⟨x,r⟩:=Zeg (H:=G9) ⟨by decide,by decide⟩ (T4 _ _ q4) (by decide) (by decide) (by decide); exact ⟨_,x,rfl,r⟩
      · obtain ⟨x,r⟩:=Zeg (H:=G9) ⟨by decide,by decide⟩ (T5 _ _ q5) (by decide) (by decide) (by decide); exact ⟨_,x,rfl,r⟩
      · obtain ⟨x,r⟩:=Zeg (H:=G9) ⟨by decide,by decide⟩ (T6 _ _ q6) (by decide) (by decide) (by decide); exact ⟨_,x,rfl,r⟩
      · obtain ⟨x,r⟩:=Zeg (H:=G9) ⟨by decide,by decide⟩ (T7 _ _ q7) (by decide) (by decide) (by decide); exact ⟨_,x,rfl,r⟩
      · obtain ⟨x,r⟩:=Zeg (H:=G9) ⟨by decide,by decide⟩ (T8 _ _ q8) (by decide) (by decide) (by decide); exact ⟨_,x,rfl,r⟩
    obtain ⟨v,x,ev,nx,x0,qx⟩:=key
    refine ⟨_,rfl,_,rfl,_,_,rfl,rfl,.inr ⟨by decide,by decide⟩,_,_,rfl,rfl,(by show (0:Int)<_; decide),_,_,rfl,rfl,(by show (0:Int)<_; decide),l,_,_,_,rfl,rfl,SqL.of ql,ev,?_⟩
    exact k G9 v x T0 nx x0 qx
theorem sc_l_turn:FnScope ["_law_prime_here", "_law_cell", "_law_rows", "_law_i", "_law_way", "_law_j"] ["_law_prime_here", "_law_cell", "_law_rows"] (Zah ZfQ):=⟨rfl,rfl,rfl,by decide +kernel,rfl,by decide +kernel,by decide +kernel⟩
theorem Zh5(h:Here K mg "_law_turn" ZfQ) (h_l_scale:Has P w K mg base "_law_scale" 1 ["_law_prime_here", "_law_cell"] ZcG):Has P w K mg base "_law_turn" 2 ["_law_prime_here", "_law_cell", "_law_rows"] Zdi:=by
  refine h.has (λf fd F=>F.binds λ_ _ _ _ _ _ us hl=>by obtain ⟨_,_,_,rfl⟩:=Zei hl; exact rfl) λf fd F=>F.ok sc_l_turn (λvs H Q E h=>?_) (λcdv A outer s H vs Q E hr h=>?_)
  · obtain ⟨_,_,_,rfl,_⟩:=h
    rfl
  obtain ⟨κ,c,n,rfl,n1,n7,k⟩:=h
  have nd:=sc_l_turn.nd
  refine ⟨_,(Zab (Zaj (i:=3) nd rfl (Or.inl rfl) (Zai ZaD (Zai ZaQ (Zai Zb7 (pv 1) Zac) Zac) (pv 2)))
    (Zab (Zaj (i:=4) nd rfl (Or.inl rfl) (Zai ZaQ (Zai ZaQ (Zai Zb7 (pv 1) Zac) Zac) Zac))
    (Zab (ZaF (Zjn (Zaq Za8 (pv 2) Zac (Zar _)) (Zgr (Zaq Za8 (pv 4) Zac (Zar _)))).pt (Zaf (Zam (ZaB (Zaa ZaW (Zaa (pv 3) (Zaa (Zao h_l_scale hr (by rfl) (Zaa (pv 0) (Zaa (pv 1) Zad))) Zad)))))) Zav)
    (Zab (Zaj (i:=5) nd rfl (Or.inl rfl) (Zai ZaD (Zai ZaY (Zai ZaY (pv 3) Zac) (Zai ZaD (Zai ZaQ (Zai Zb7 (pv 1) Zac) Zac) (Zai Zc1 (pv 2) Zac))) (pv 2)))
    (Zab (ZaF (Zaq Za8 (pv 4) Zac (Zar _)) (Zaf (Zam (ZaB (Zaa ZaW (Zaa (pv 3) (Zaa (pv 5) Zad)))))) Zav)
    (Zab (ZaF (Zaq ZfA (pv 0) Zac (Zar _)) (Zaf (Zam (ZaB (Zaa ZaW (Zaa (pv 3) (Zaa (pv 5) (Zaa (Zai ZaD (Zai Zb7 (pv 1) Zac) (pv 0)) Zad))))))) Zav)
    (Zaf (Zam (ZaB (Zaa ZaW (Zaa (pv 3) (Zaa (pv 5) (Zaa (ZaB (Zaa (Zai Zc1 (Zai ZaQ (Zai ZaQ (Zai Zb7 (pv 1) Zac) Zac) Zac) Zac) (Zaa Zac Zad))) Zad))))))))))))),?_⟩
  refine ⟨_,rfl,_,_,rfl,rfl,.inr ⟨by decide,by decide⟩,_,_,rfl,rfl,(by show (0:Int)<_; decide),_,rfl,_,_,rfl,rfl,(show (n:Int)≠0 by omega),?_⟩
  obtain ⟨i,ei,li⟩:=ZhC (a:=c*48271%65537) n1
  show Zb6 3 (V.int ((c*48271%65537).fmod (n:Int))) _ H _
  rw[ei]
  refine ⟨_,rfl,_,_,rfl,rfl,.inr ⟨by decide,by decide⟩,_,_,rfl,rfl,(by show (0:Int)<_; decide),_,_,rfl,rfl,(by show (0:Int)<_; decide),?_⟩
  by_cases h01:n=1\/c*40692%65543%4=0
  · by_cases h0:n=1
    case' pos=>refine ⟨_,rfl,rfl,_,rfl,Zkl (show (n:Int)=1 by omega) ?_⟩
    case' neg=>refine ⟨_,rfl,rfl,_,rfl,Zkm (show (n:Int)≠1 by omega) ⟨_,rfl,rfl,_,rfl,Zkl (show c*40692%65543%4=0 by omega) ?_⟩⟩
    all_goals
      refine ⟨_,rfl,_,rfl,_,rfl,κ,c,rfl,λH1 u x S1 nu x0 qx=>⟨(by show 3<=sizeLine; decide),λr nr=>?_⟩⟩
      exact k _ _ (.scale (i:Int) x) (S1.trans (Zag nr _)) ⟨r,u,rfl,Zae,nu.same (Zag nr _)⟩ ⟨⟨by omega,by omega⟩,x0⟩ qx
  have hn1:n≠1:=λz=>h01 (.inl z)
  have hw:c*40692%65543%4≠0:=λz=>h01 (.inr z)
  refine ⟨_,rfl,rfl,_,rfl,Zkm (show (n:Int)≠1 by omega) ⟨_,rfl,rfl,_,rfl,Zkm hw ?_⟩⟩
  refine ⟨_,rfl,_,_,rfl,rfl,_,rfl,_,_,rfl,rfl,.inr ⟨by decide,by decide⟩,_,_,rfl,rfl,(by show (0:Int)<_; decide),_,rfl,_,_,rfl,rfl,_,_,rfl,rfl,(show (n:Int)-1≠0 by omega),_,_,rfl,rfl,_,rfl,_,_,rfl,rfl,(show (n:Int)≠0 by omega),?_⟩
  obtain ⟨g,eg,lg⟩:=ZhC (a:=c*69621%65539) (n:=n-1) (by omega)
  have en:((n-1:Nat):Int)=(n:Int)-1:=by omega
  rw[en] at eg
  obtain ⟨j,ej,lj⟩:=ZhC (a:=(i:Int)+1+g) n1
  show Zb6 5 (V.int (((i:Int)+1+(c*69621%65539).fmod ((n:Int)-1)).fmod (n:Int))) _ H _
  rw[eg,ej]
  have ij:(i:Int)≠(j:Int):=by
    rw[<-ej,Qx _ (by omega)]
    intro z
    have q:=Int.emod_add_mul_ediv ((i:Int)+1+g) n
    rw[<-z] at q
    generalize ((i:Int)+1+g)/n=d at *
    have d0:d=0\/1<=d\/d <= -1:=by omega
    rcases d0 with rfl | d0 | d0
    · omega
    · have:(n:Int)*1<=n*d:=Ub d0 (by omega)
      omega
    · have:(n:Int)*d<=n*(-1):=Ub d0 (by omega)
      omega
  refine ⟨_,rfl,rfl,_,rfl,?_⟩
  refine Zbv (λ_=>?_) (λ_=>?_)
  · refine ⟨_,rfl,_,rfl,(by show 3<=sizeLine; decide),λr nr=>?_⟩
    exact k _ _ (.swap (i:Int) (j:Int)) (Zag nr _) ⟨r,rfl,Zae⟩ ⟨⟨by omega,by omega⟩,⟨by omega,by omega⟩,ij⟩ trivial
  refine ⟨_,rfl,_,_,rfl,rfl,_,rfl,?_⟩
  cases κ with
  | r p hp =>
    obtain ⟨x,hx⟩:=Zms hp (c*30341)
    refine Zbg (show (0:Int)<(KX.r p hp).P from ZgV) ⟨_,rfl,_,rfl,_,rfl,_,_,rfl,rfl,.inr ⟨by decide,by decide⟩,_,rfl,_,_,rfl,rfl,(show (p:Int)≠0 by have:=hp.two; omega),(by show 4<=sizeLine; decide),λr nr=>?_⟩
    refine k _ _ (.add (i:Int) (j:Int) x) (Zag nr _) ⟨r,_,rfl,Zae,?_⟩ ⟨⟨by omega,by omega⟩,⟨by omega,by omega⟩,ij⟩ trivial
    show V.int ((c*30341).fmod p)=V.int x.val
    rw[hx]
  | q =>
    refine Zbh (show ¬(0:Int)<0 by decide) ?_
    obtain ⟨x,e1,e2⟩:=ZgW (n:=c*30341%65587%5-2) (d:=1) ⟨by decide,by rw[Int.gcd_one]⟩
    refine ⟨_,rfl,_,rfl,_,rfl,_,_,rfl,rfl,.inr ⟨by decide,by decide⟩,_,_,rfl,rfl,(by show (0:Int)<_; decide),_,_,rfl,rfl,(by show (0:Int)<_; decide),_,_,rfl,rfl,(by show 2<=sizeLine; decide),λz nz=>?_⟩
    have Sz1:=Zag nz (.tup [.int (c*30341%65587%5-2),.int 1])
    have qz:=Zae (H:=H) (a:=z) (o:=.tup [.int (c*30341%65587%5-2),.int 1])
    generalize upd H z (.tup [.int (c*30341%65587%5-2),.int 1])=H2 at *
    refine ⟨(by show 4<=sizeLine; decide),λr nr=>?_⟩
    have Sr:=Zag nr (.tup [.str "add", .int (i:Int),.int (j:Int),.ref z])
    refine k _ _ (.add (i:Int) (j:Int) x) (Sz1.trans Sr) ⟨r,.ref z,rfl,Zae,z,rfl,?_⟩ ⟨⟨by omega,by omega⟩,⟨by omega,by omega⟩,ij⟩ ⟨c*30341%65587%5-2,?_,by omega⟩
    · rw[e1,e2]; exact Sr _ _ qz
    · rw[<-e1,<-e2]; exact (Qo x).symm
end
end My
namespace My
open PySem L2 PyProof.Rows Rg
inductive Zgk (vs:List V) (H:Hp) (Q:VK) (zE:XK):Prop
  | mk (κ:KX) (u tv:V) (d:κ.F) (t:Tn κ) (_:vs=[.int κ.P,u,tv]) (_:NR κ H u d) (_:TR κ H tv t) (_:T3 t) (_:B1 κ d) (_:∀H' v,Same H H'->NR κ H' v (Zf9 t*d)->Q v H'):Zgk vs H Q zE
theorem ZnS{κ:KX}:B1 κ ((0:κ.F)-1):=by
  have q:QS κ 1 1 ((0:κ.F)-1):=ZkA Ze9 (Bits.of (by decide))
  exact q.b1 (by decide) (Bits.of (Q6 (show 1<2^1 by decide) (Qe (by decide) (by decide)))) (by decide)
theorem ZpH{κ:KX}{i:Int}{c:κ.F}(h:T3 (.scale i c:Tn κ)):B1 κ c:=by
  obtain ⟨d,hd,q⟩:=h
  exact (q.qs (a:=2) (by decide)).b1 (by omega) (Bits.of (Q6 (show d.natAbs<2^2 by omega) (Qe (by decide) (by decide)))) (by decide)
end My
namespace My
open PySem L2 PyProof.Rows Rg
section
variable{P:Program}{w:World}{K:PySem.W.Frag}{mg:Str->Option Value}{base:Heap}
theorem Zmg:FnScope ["_law_prime_here", "_law_due_here", "_law_turn_here"] ["_law_prime_here", "_law_due_here", "_law_turn_here"] (Zah Zhr):=⟨rfl,rfl,rfl,by decide +kernel,rfl,by decide +kernel,by decide +kernel⟩
theorem Zmh(h:Here K mg "_law_due" Zhr) (h_l_times:Has P w K mg base "_law_times" 3 ["_law_prime_here", "_law_one", "_law_other"] (Zbt λ_ x y=>x*y)) (h_l_made:Has P w K mg base "_law_made" 3 ["_law_prime_here", "_law_number"] ZbK):Has P w K mg base "_law_due" 4 ["_law_prime_here", "_law_due_here", "_law_turn_here"] Zgk:=by
  refine h.has (λf fd F=>F.binds λ_ _ _ _ _ _ us hl=>by obtain ⟨_,_,_,rfl⟩:=Zei hl; exact rfl) λf fd F=>F.ok Zmg (λvs H Q E h=>?_) (λcdv A outer s H vs Q E hr h=>?_)
  · obtain ⟨_,_,_,_,_,rfl,_⟩:=h
    rfl
  obtain ⟨κ,u,tv,d,t,rfl,nu,tr,t3,bd,k⟩:=h
  refine ⟨_,(Zab (ZaF (Zaq Za8 (Zak Zal (pv 2) Zac (λ_ _=>rfl)) ZaW (Zar _)) (Zaf (Zam (Zao h_l_times hr (by rfl) (Zaa (pv 0) (Zaa (Zao h_l_made hr (by rfl) (Zaa (pv 0) (Zaa (ZdJ Zb8 Zac) Zad))) (Zaa (pv 1) Zad)))))) Zav)
    (Zab (ZaF (Zaq Za8 (Zak Zal (pv 2) Zac (λ_ _=>rfl)) ZaW (Zar _)) (Zaf (Zam (Zao h_l_times hr (by rfl) (Zaa (pv 0) (Zaa (Zak Zal (pv 2) Zac (λ_ _=>rfl)) (Zaa (pv 1) Zad)))))) Zav)
    (Zaf (Zam (pv 1))))),?_⟩
  cases t with
  | swap i j =>
    obtain ⟨a,rfl,h1⟩:=tr
    refine ⟨_,rfl,a,_,0,_,rfl,rfl,SqT.of h1,rfl,rfl,_,rfl,ZiN ?_⟩
    refine ⟨_,rfl,_,rfl,_,rfl,κ,-1,0-1,rfl,Ze9,λH1 v1 S1 n1=>?_⟩
    exact ⟨_,rfl,κ,v1,u,_,d,rfl,n1,nu.same S1,ZnS,bd,λH2 v2 S2 n2=>k H2 v2 (S1.trans S2) n2⟩
  | scale i c =>
    obtain ⟨a,w1,rfl,h1,nc⟩:=tr
    refine ⟨_,rfl,a,_,0,_,rfl,rfl,SqT.of h1,rfl,rfl,_,rfl,Zji ?_⟩
    refine ⟨_,rfl,a,_,0,_,rfl,rfl,SqT.of h1,rfl,rfl,_,rfl,ZiN ?_⟩
    exact ⟨_,rfl,_,rfl,a,_,2,_,rfl,rfl,SqT.of h1,rfl,_,rfl,κ,w1,u,c,d,rfl,nc,nu,ZpH t3,bd,λH2 v2 S2 n2=>k H2 v2 S2 n2⟩
  | add i j c =>
    obtain ⟨a,w1,rfl,h1,nc⟩:=tr
    refine ⟨_,rfl,a,_,0,_,rfl,rfl,SqT.of h1,rfl,rfl,_,rfl,Zji ?_⟩
    refine ⟨_,rfl,a,_,0,_,rfl,rfl,SqT.of h1,rfl,rfl,_,rfl,Zji ?_⟩
    refine ⟨_,rfl,k H u (Same.refl H) ?_⟩
    have e:Zf9 (.add i j c:Tn κ)*d=d:=by show 1*d=d; grind
    rw[e]; exact nu
end
end My
namespace My
open PySem L2 PyProof.Rows Rg
section
variable{κ:KX}
def SzU(κ:KX)(p:Nat)(d:κ.F):Prop:=∃D:Int,0<D/\D<=60^4*3^p/\QM κ D ((10^20*60)^4*3^p) d
theorem ZpI:QM κ 1 1 ((0:κ.F)-1):=by
  cases κ with
  | r p hp=>exact trivial
  | q=>exact ⟨-1,by show (0:Rat)-1=Rat.divInt (-1) 1; decide +kernel,by decide⟩
theorem ZpJ:QM κ 1 1 (1:κ.F):=by
  cases κ with
  | r p hp=>exact trivial
  | q=>exact ⟨1,by show (1:Rat)=Rat.divInt 1 1; decide +kernel,by decide⟩
theorem SzU.step{p:Nat}{t:Tn κ}{d:κ.F}(h:SzU κ p d)(ht:T3 t):SzU κ (p+1) (Zf9 t*d):=by
  obtain ⟨D,h0,l,q⟩:=h
  have e3:(60:Int)^4*3^(p+1)=60^4*3^p*3:=by rw[Int.pow_succ 3 p,Qi]
  have n3:(10^20*60)^4*3^(p+1)=(10^20*60)^4*3^p*3:=by rw[Wc 3 p,W8]
  unfold SzU
  rw[e3,n3]
  generalize (10^20*60)^4*3^p=M at *
  generalize (60:Int)^4*3^p=N at *
  cases t with
  | swap i j =>
    refine ⟨D,h0,by omega,?_⟩
    have:=(ZpI (κ:=κ)).mul q
    rw[Ud] at this
    exact this.mono (by omega)
  | scale i c =>
    obtain ⟨x,hx,qc⟩:=ht
    have:=qc.mul q
    refine ⟨x*D,?_,?_,this.mono (by omega)⟩
    · rcases hx with rfl | rfl | rfl <;> omega
    · rcases hx with rfl | rfl | rfl <;> omega
  | add i j c =>
    refine ⟨D,h0,by omega,?_⟩
    have e:Zf9 (.add i j c:Tn κ)*d=d:=by show 1*d=d; grind
    rw[e]
    exact q.mono (by omega)
theorem SzU.b1{p:Nat}{d:κ.F}(h:SzU κ p d)(hp:p<=64):B1 κ d:=by
  obtain ⟨D,h0,l,q⟩:=h
  have e:(60^4*3^p:Int)=((60^4*3^p:Nat):Int):=by rw[Wl,Int.natCast_pow,Int.natCast_pow]; rfl
  rw[e] at l
  have p3:=ZoL hp
  have l2:D.natAbs<=60^4*3^64:=by
    have:60^4*3^p<=60^4*3^64:=Wr _ p3
    omega
  have bD:Bits 200 D:=Bits.of (Qk l2 (by decide))
  refine (q.qs (a:=1000) (Qk (Wr _ p3) (by decide))).b1 h0 (bD.up (by decide)) (by decide)
theorem ZdH(i:Nat):(0:Int)<60^i:=Int.pow_pos (by decide)
theorem Zk6{i:Nat}{d x:κ.F}(h:QM κ (60^i) ((10^20*60)^i) d)(g:QM κ 60 (10^20*60) x):QM κ (60^(i+1)) ((10^20*60)^(i+1)) (d*x):=by
  rw[Int.pow_succ,Wc]
  exact h.mul g
theorem Zk7{i:Nat}{d:κ.F}(h:QM κ (60^i) ((10^20*60)^i) d)(h4:κ = .q->i<=4):SzU κ 0 d:=by
  unfold SzU
  rw[Int.pow_zero,Wo,Nat.pow_zero,Nat.mul_one]
  cases κ with
  | r p hp=>exact ⟨1,by decide,by decide,trivial⟩
  | q =>
    have h4:=h4 rfl
    match i,h4,h with
    | 0,_,h=>exact ⟨_,ZdH _,by decide,h.mono (by decide)⟩
    | 1,_,h=>exact ⟨_,ZdH _,by decide,h.mono (by decide)⟩
    | 2,_,h=>exact ⟨_,ZdH _,by decide,h.mono (by decide)⟩
    | 3,_,h=>exact ⟨_,ZdH _,by decide,h.mono (by decide)⟩
    | 4,_,h=>exact ⟨_,ZdH _,by decide,h.mono (by decide)⟩
theorem ZpK{x:κ.F}(h:QM κ 60 (10^20*60) x):B1 κ x:=by
  have b:Bits 100 (60:Int):=Bits.of (by decide)
  exact (h.qs (a:=100) (by decide)).b1 (by decide) (b.up (by decide)) (by decide)
theorem ZoZ{Pr:κ.F->Prop}{R:List (List κ.F)}{n i:Nat}(h:AllR Pr R)(hn:R.length=n)(wd:Wid n R)(hi:i<n):Pr (ent R i i):=by
  have w:=wd.get (i:=i) (by omega)
  refine h.getD i _ ?_
  show (R.getD i []).getD i 0∈_
  rw[Q4 (l:=R.getD i []),Q5 (by omega)]
  exact Qp _
theorem SzM.szd{N p:Nat}{R:List (List κ.F)}(h:SzM κ N p R)(hp:p<=64)(hN:N<=10^50)(h4:κ = .q->R.length<=4):SzD κ R:=λe=>by
  obtain ⟨D,hD,bD,al,lM⟩:=h.bits hp hN
  exact ⟨h4 e,D,_,hD,bD.up (by decide),lM,al⟩
end
end My
namespace My
open PySem L2 PyProof.Rows Rg
section
variable{κ:KX}
noncomputable def mlF(n:Nat)(a b:Nat->Nat->κ.F):Nat->Nat->κ.F:=λi j=>Sg (λl=>a i l*b l j) n
def MP(n:Nat)(a:Nat->Nat->κ.F):Prop:=∀b,det n (mlF n a b)=det n a*det n b
theorem ZmJ{n k:Nat}{a b m:Nat->Nat->κ.F}(low:∀l,l<k->a k l=0)(hm:∀l,k<=l->l<n->∀j,m l j=b l j):∀c,k+1+c<=n->det n (ZaC m k λj=>Sg (λl=>a k l*b l j) (k+1+c))=a k k*det n m
  | 0,h=>by
    rw[<-ZdD (a k k) (show k<n by omega)]
    refine Zax λi j _ _=>?_
    unfold ZaC
    split
    · show Sg _ k+a k k*b k j=a k k*m k j
      have z:Sg (λl=>a k l*b l j) k=0:=by
        rw[Sg_congr (g:=λ_=>0) λl hl=>by rw[low l hl]; grind,Sg_zero]
      rw[z,hm k (Q1 k) (by omega)]
      grind
    · rfl
  | c+1,h=>by
    have ih:=ZmJ low hm c (by omega)
    have ad:=Zes (n:=n) (a:=ZaC m k λj=>Sg (λl=>a k l*b l j) (k+1+c)) (r:=k) (s:=k+1+c) (a k (k+1+c)) (by omega) (by omega) (by omega)
    rw[<-ih,<-ad]
    refine Zax λi j _ _=>?_
    unfold ZaC
    by_cases e:i=k
    · rw[if_pos e,if_pos e]
      show _=(if k=k then Sg (λl=>a k l*b l j) (k+1+c) else m k j)+a k (k+1+c)*(if k+1+c=k then Sg (λl=>a k l*b l j) (k+1+c) else m (k+1+c) j)
      rw[if_pos rfl,if_neg (show ¬k+1+c=k by omega),hm (k+1+c) (by omega) (by omega)]
      rfl
    · rw[if_neg e,if_neg e,if_neg e]
theorem Zk8{n:Nat}{a b:Nat->Nat->κ.F}(low:∀i j,j<i->i<n->a i j=0):∀k,k<=n->det n (λi j=>if i<k then mlF n a b i j else b i j)=Zb4 a k*det n b
  | 0,_=>by
    rw[Zax (b:=b) λi j _ _=>by rw[if_neg (Nat.not_lt_zero i)]]
    show _=1*_
    generalize det n b=x
    grind
  | k+1,h=>by
    have ih:=Zk8 (b:=b) low k (by omega)
    have r:=ZmJ (n:=n) (k:=k) (a:=a) (b:=b) (m:=λi j=>if i<k then mlF n a b i j else b i j) (λl hl=>low k l hl (by omega)) (λl hl _ j=>by rw[if_neg (by omega)]) (n-(k+1)) (by omega)
    rw[show k+1+(n-(k+1))=n by omega] at r
    have e:det n (λi j=>if i<k+1 then mlF n a b i j else b i j)=det n (ZaC (λi j=>if i<k then mlF n a b i j else b i j) k λj=>Sg (λl=>a k l*b l j) n):=Zax λi j _ _=>by
      unfold ZaC
      by_cases e1:i=k
      · rw[if_pos (show i<k+1 by omega),if_pos e1,e1]; rfl
      · rw[if_neg e1]
        by_cases e2:i<k
        · rw[if_pos (show i<k+1 by omega)]; exact (if_pos e2).symm
        · rw[if_neg (show ¬i<k+1 by omega)]; exact (if_neg e2).symm
    rw[e,r,ih]
    show _=Zb4 a k*a k k*_
    generalize Zb4 a k=x
    generalize det n b=y
    grind
theorem Zo0{n:Nat}{a:Nat->Nat->κ.F}(low:∀i j,j<i->i<n->a i j=0):MP n a:=λb=>by
  have h:=Zk8 (b:=b) low n (Q1 n)
  rw[Ze6 low,<-h]
  exact Zax λi j hi _=>by rw[if_pos hi]
theorem Zgl(n r:Nat)(a b:Nat->Nat->κ.F)(f:Nat->κ.F):mlF n (ZaC a r f) b=ZaC (mlF n a b) r λj=>Sg (λl=>f l*b l j) n:=by
  funext i j
  unfold mlF ZaC
  by_cases e:i=r
  · rw[if_pos e]
    exact Sg_congr λl _=>by rw[if_pos e]
  · rw[if_neg e]
    exact Sg_congr λl _=>by rw[if_neg e]
theorem ZnT{n:Nat}{t:Tn κ}{R:List (List κ.F)}(hn:R.length=n)(wd:Wid n R)(ok:t.ok n)(h:MP n (ent R)):MP n (ent (doT t R)):=λb=>by
  have f:det n (mlF n (ent (doT t R)) b)=Zf9 t*det n (mlF n (ent R) b):=by
    cases t with
    | swap i j =>
      obtain ⟨⟨i0,i1⟩,⟨j0,j1⟩,ne⟩:=ok
      have e:ent (doT (.swap i j) R)=ZaC (ZaC (ent R) i.toNat (ent R j.toNat)) j.toNat (ent R i.toNat):=by
        funext x y
        rw[Zeq (by omega) (by omega)]
        rfl
      rw[e,Zgl,Zgl]
      have:=Zkz (n:=n) (a:=mlF n (ent R) b) (r:=i.toNat) (s:=j.toNat) (by omega) (by omega) (by omega)
      show det n (ZaC (ZaC (mlF n (ent R) b) i.toNat (mlF n (ent R) b j.toNat)) j.toNat (mlF n (ent R) b i.toNat))=(0-1)*det n (mlF n (ent R) b)
      rw[this]
      generalize det n (mlF n (ent R) b)=x
      grind
    | scale i c =>
      obtain ⟨⟨i0,i1⟩,c0⟩:=ok
      have e:ent (doT (.scale i c) R)=ZaC (ent R) i.toNat λy=>c*ent R i.toNat y:=by
        funext x y
        rw[Zcc (by omega)]
        unfold ZaC
        split
        · rename_i q; rw[q]
        · rfl
      show _=c*det n (mlF n (ent R) b)
      rw[e,Zgl,<-show det n (ZaC (mlF n (ent R) b) i.toNat λj=>c*mlF n (ent R) b i.toNat j)=c*det n (mlF n (ent R) b) from ZdD c (by omega)]
      refine Zax λx y _ _=>?_
      unfold ZaC
      split
      · show Sg (λl=>c*ent R i.toNat l*b l y) n=c*Sg (λl=>ent R i.toNat l*b l y) n
        rw[ZbX]
        exact Sg_congr λl _=>by grind
      · rfl
    | add i j c =>
      obtain ⟨⟨i0,i1⟩,⟨j0,j1⟩,ne⟩:=ok
      have e:ent (doT (.add i j c) R)=ZaC (ent R) i.toNat λy=>ent R i.toNat y+c*ent R j.toNat y:=by
        funext x y
        rw[Zf5 wd (by omega) (by omega)]
        unfold ZaC
        split
        · rename_i q; rw[q]
        · rfl
      have ad:=Zes (n:=n) (a:=mlF n (ent R) b) (r:=i.toNat) (s:=j.toNat) c (by omega) (by omega) (by omega)
      have e1:Zf9 (.add i j c:Tn κ)*det n (mlF n (ent R) b)=det n (mlF n (ent R) b):=by
        show 1*_=_
        generalize det n (mlF n (ent R) b)=x
        grind
      rw[e1,e,Zgl,<-ad]
      refine Zax λx y _ _=>?_
      unfold ZaC
      split
      · show Sg (λl=>(ent R i.toNat l+c*ent R j.toNat l)*b l y) n=Sg (λl=>ent R i.toNat l*b l y) n+c*Sg (λl=>ent R j.toNat l*b l y) n
        rw[ZbX,ZdC]
        exact Sg_congr λl _=>by grind
      · rfl
  rw[f,h b,Zga hn wd ok]
  generalize det n (ent R)=x
  generalize det n b=y
  generalize Zf9 t=z
  grind
theorem Zo1{h:Nat->κ.F}{D:Int}(hD:0<D){M:Nat}:∀k,(∀i,i<k->QM κ D M (h i))->QM κ D (k*M) (Sg h k)
  | 0,_=>QM.zero
  | k+1,e=>by
    rw[Nat.succ_mul]
    exact QM.add hD (Zo1 hD k λi hi=>e i (by omega)) (e k (by omega))
theorem ZmK{D:Int}{M:Nat}{A:List (List κ.F)}(h:AllR (QM κ D M) A)(i j:Nat):QM κ D M (ent A i j):=by
  unfold ent
  by_cases q:j<(A.getD i []).length
  · refine h.getD i _ ?_
    rw[Q4 (l:=A.getD i []),Q5 q]
    exact Qp _
  · have:(A.getD i []).getD j 0=(0:κ.F):=by rw[Q4,Ur (by omega)]; rfl
    rw[this]
    exact QM.zero
theorem ZiC{D:Int}{M:Nat}{x:κ.F}(h:QM κ D M x)(hD:0<D)(bD:Bits 400 D)(lM:M<2^1000):B1 κ x:=(h.qs (a:=1000) lM).b1 hD (bD.up (by decide)) (by decide)
end
theorem Zk9{x j:Int}(h:Bits 1048576 x)(hj:0<=j/\j<128):Bits 2097152 (x*16807+j*j):=by
  have b1:Bits (1048576+15) (x*16807):=h.times (Bits.of (by decide))
  have j2:j*j<=127*127:=Int.mul_le_mul (by omega) (by omega) hj.1 (by decide)
  have j3:0<=j*j:=Uk hj.1 hj.1
  have b2:Bits (1048576+15) (j*j):=Bits.of (Q6 (show _<2^16 by show _<65536; omega) (Qe (by decide) (by decide)))
  exact (b1.plus b2).up (by decide)
theorem ZnU{i:Nat}{x:V}{σ:L2.St}{H:Hp}{t u:TS}{D:Ends}{rt:VK}{bk ct:L2.St->Hp->Prop}(h:ZnX t u D (σ.set i (some x)) H):Zb6 i x σ H (Ends.nx ⟨ZnX t u D,rt,bk,ct⟩):=h
theorem Zla{t u:TS}{D:Ends}{σ:L2.St}{H:Hp}(N:L2.St->Hp->Prop)(h1:∀N':L2.St->Hp->Prop,(∀σ H,N σ H->N' σ H)->t { D with nx:=N' } σ H)(h2:∀σ H,N σ H->u D σ H):ZnX t u D σ H:=h1 _ h2
inductive ZcK (vs:List V) (H:Hp) (Q:VK) (zE:XK):Prop
  | mk (κ:KX) (c:Int) (_:vs=[.int κ.P,.int c]) (_:Bits 2097152 c) (_:∀H' v (x:κ.F),Same H H'->NR κ H' v x->QM κ 60 360 x->Q v H'):ZcK vs H Q zE
inductive ZcL (vs:List V) (H:Hp) (Q:VK) (zE:XK):Prop
  | mk (κ:KX) (c:Addr) (cs:List Int) (n far:Nat) (_:vs=[.int κ.P,.ref c,.int (n:Int),.int (far:Int)]) (_:Ce H c cs) (_:1<=n) (_:n<=7) (_:far<=30) (_:∀(H':Hp) (t:Addr) (rs:List Addr) (R:List (List κ.F)),Same H H'->H' t=some (.lst (rs.map V.ref))->RowsX κ H' rs R->R.length=n->Wid n R->(∀i j,j<i->i<n->ent R i j=0)->AllR (QM κ 60 360) R->Q (.ref t) H'):ZcL vs H Q zE
inductive Zco (vs:List V) (H:Hp) (Q:VK) (zE:XK):Prop
  | mk (κ:KX) (t:Addr) (rs:List Addr) (R:List (List κ.F)) (tv:V) (tt:Tn κ) (_:vs=[.int κ.P,.ref t,tv]) (_:H t=some (.lst (rs.map V.ref))) (_:RowsX κ H rs R) (_:R.length<=1000) (_:(∀f∈R,f.length<=1000)) (_:TR κ H tv tt) (_:tt.ok R.length) (_:tt.pre R) (_:∀H' D ds,Same H H'->H' D=some (.lst (ds.map V.ref))->H D=none->(∀z∈ds,z∈rs\/H z=none)->RowsX κ H' ds (doT tt R)->Q (.ref D) H'):Zco vs H Q zE
inductive ZcM (vs:List V) (H:Hp) (Q:VK) (zE:XK):Prop
  | mk (κ:KX) (t:Addr) (rs:List Addr) (R:List (List κ.F)) (n:Nat) (_:vs=[.int κ.P,.ref t]) (_:H t=some (.lst (rs.map V.ref))) (_:RowsX κ H rs R) (_:R.length=n) (_:Wid n R) (_:n<=7) (_:(κ = .q->n<=4)) (_:AllR (QM κ 60 360) R) (_:∀H' v,Same H H'->NR κ H' v (Zb4 (ent R) n)->SzU κ 0 (Zb4 (ent R) n)->Q v H'):ZcM vs H Q zE
structure Pz (κ:KX) (D:Int) (M:Nat):Prop where
  d:0<D
  b:Bits 120 D
  m:M<2^290
inductive Zb5 (vs:List V) (H:Hp) (Q:VK) (zE:XK):Prop
  | mk (κ:KX) (a b:Addr) (rs ss:List Addr) (R S:List (List κ.F)) (n:Nat) (D E:Int) (M N:Nat) (_:vs=[.int κ.P,.ref a,.ref b]) (_:H a=some (.lst (rs.map V.ref))) (_:RowsX κ H rs R) (_:H b=some (.lst (ss.map V.ref))) (_:RowsX κ H ss S) (_:R.length=n) (_:Wid n R) (_:S.length=n) (_:Wid n S) (_:1<=n) (_:n<=7) (_:AllR (QM κ D M) R) (_:AllR (QM κ E N) S) (_:Pz κ D M) (_:Pz κ E N) (_:∀(H':Hp) (t:Addr) (ds:List Addr) (T:List (List κ.F)),Same H H'->H' t=some (.lst (ds.map V.ref))->RowsX κ H' ds T->T.length=n->Wid n T->(∀i j,i<n->j<n->ent T i j=mlF n (ent R) (ent S) i j)->AllR (QM κ (D*E) (n*(M*N))) T->H t=none->(∀z∈ds,H z=none)->Q (.ref t) H'):Zb5 vs H Q zE
inductive Zdo (CF CR:Addr) (vs:List V) (H:Hp) (Q:VK) (zE:XK):Prop
  | mk (κ:KX) (s ta:Addr) (u:V) (d:κ.F) (rs:List Addr) (A:List (List κ.F)) (n:Nat) (wy:Int) (_:vs=[.ref s,.int κ.P,.ref ta,u,.int wy]) (_:KdX CF CR κ H s) (_:H ta=some (.lst (rs.map V.ref))) (_:RowsX κ H rs A) (_:A.length=n) (_:Wid n A) (_:1<=n) (_:n<=7) (_:SzD κ A) (_:NR κ H u d) (_:d=det n (ent A)) (_:∀H',Same H H'->Q (.bl true) H'):Zdo CF CR vs H Q zE
end My
namespace My
open PySem L2 PyProof.Rows Rg
section
variable{P:Program}{w:World}{K:PySem.W.Frag}{mg:Str->Option Value}{base:Heap}
theorem sc_l_behind:FnScope ["_law_prime_here", "_law_table", "_law_turn_here", "_law_found", "_law_i"] ["_law_prime_here", "_law_table", "_law_turn_here"] (Zah ZdT):=⟨rfl,rfl,rfl,by decide +kernel,rfl,by decide +kernel,by decide +kernel⟩
theorem Zgm(h:Here K mg "_law_behind" ZdT) (T:Nm mg) (Tz:mg "zip" = none) (h_l_times:Has P w K mg base "_law_times" 3 ["_law_prime_here", "_law_one", "_law_other"] (Zbt λ_ x y=>x*y)) (h_l_plus:Has P w K mg base "_law_plus" 3 ["_law_prime_here", "_law_one", "_law_other"] (Zbt λ_ x y=>x+y)):Has P w K mg base "_law_behind" 4 ["_law_prime_here", "_law_table", "_law_turn_here"] Zco:=by
  refine h.has (λf fd F=>F.binds λ_ _ _ _ _ _ us hl=>by obtain ⟨_,_,_,rfl⟩:=Zei hl; exact rfl) λf fd F=>F.ok sc_l_behind (λvs H Q E h=>?_) (λcdv A outer s H vs Q E hr h=>?_)
  · obtain ⟨_,_,_,_,_,_,rfl,_⟩:=h
    rfl
  obtain ⟨κ,t,rs,R,tv,tt,rfl,hT,rx,lR,l1000,ht,ok,pre,k⟩:=h
  have nd:=sc_l_behind.nd
  refine ⟨_,(Zab (Zaj (i:=3) nd rfl (Or.inl rfl) (Zca Zct (by rfl) T.list boot_list (Zaa (pv 1) Zad)))
    (Zab (Zaj (i:=4) nd rfl (Or.inl rfl) (Zak Zal (pv 2) Zac (λ_ _=>rfl)))
    (Zab (ZaF (Zaq Za8 (Zak Zal (pv 2) Zac (λ_ _=>rfl)) ZaW (Zar _)) (Zab (Zcq (Zak Zau (pv 1) (Zak Zal (pv 2) Zac (λ_ _=>rfl)) (λ_ _=>rfl)) (Zcp (pv 3) (pv 4) Zba))
      (Zaf (Zcq (Zak Zau (pv 1) (pv 4) (λ_ _=>rfl)) (Zcp (pv 3) (Zak Zal (pv 2) Zac (λ_ _=>rfl)) Zba)))) Zav)
    (Zab (ZaF (Zaq Za8 (Zak Zal (pv 2) Zac (λ_ _=>rfl)) ZaW (Zar _)) (Zaf (Zcq (ZbL ["_law_x"] [(0, "_law_prime_here"),(2, "_law_turn_here")] rfl (Zbi (Zak Zau (pv 1) (pv 4) (λ_ _=>rfl))) (by exact λ_ _ _ _=>(Zat (i:=0) (show (["_law_x", "_law_prime_here", "_law_turn_here"]:List Str).Nodup by decide +kernel) rfl (Or.inl rfl))) (by exact λ_ _ _ _=>(Zao h_l_times hr (by rfl) (Zaa (pv 1) (Zaa (Zak (ZfI K rfl) (pv 2) Zac (λ_ _=>rfl)) (Zaa (pv 0) Zad))))) ⟨⟨rfl,rfl,Or.inl rfl⟩,⟨⟨rfl,rfl,Or.inl rfl⟩,trivial⟩⟩) (Zcp (pv 3) (pv 4) Zba))) Zav)
    (Zab (ZaF (Zaq Za8 (Zak Zal (pv 2) Zac (λ_ _=>rfl)) ZaW (Zar _)) (Zaf (Zcq (ZbL ["_law_x", "_law_y"] [(0, "_law_prime_here"),(2, "_law_turn_here")] rfl (Zfv (by rfl) Tz (Zaa (Zak Zau (pv 1) (pv 4) (λ_ _=>rfl)) (Zaa (Zak Zau (pv 1) (Zak Zal (pv 2) Zac (λ_ _=>rfl)) (λ_ _=>rfl)) Zad))) (by exact λ_ _ _ _=>(ZfJ (n:=2) K rfl rfl (ZaX (Zat (i:=0) (show (["_law_x", "_law_y", "_law_prime_here", "_law_turn_here"]:List Str).Nodup by decide +kernel) rfl (Or.inl rfl)) (ZaX (Zat (i:=1) (show (["_law_x", "_law_y", "_law_prime_here", "_law_turn_here"]:List Str).Nodup by decide +kernel) rfl (Or.inl rfl)) Zc4)))) (by exact λ_ _ _ _=>(Zao h_l_plus hr (by rfl) (Zaa (pv 2) (Zaa (pv 0) (Zaa (Zao h_l_times hr (by rfl) (Zaa (pv 2) (Zaa (Zak (ZfI K rfl) (pv 3) Zac (λ_ _=>rfl)) (Zaa (pv 1) Zad)))) Zad))))) ⟨⟨rfl,rfl,Or.inl rfl⟩,⟨⟨rfl,rfl,Or.inl rfl⟩,trivial⟩⟩) (Zcp (pv 3) (pv 4) Zba))) Zav)
    (Zaf (Zam (pv 3)))))))),?_⟩
  have la:=rx.1
  have lm:(rs.map V.ref).length=R.length:=by rw[Q0]; exact la
  refine ⟨_,rfl,t,_,rfl,.inl (SqL.of hT),λD nD=>?_⟩
  have SD:=Zag nD (.lst (rs.map V.ref))
  have qD:=Zae (H:=H) (a:=D) (o:=.lst (rs.map V.ref))
  have nDr:=rx.notin nD
  generalize upd H D (.lst (rs.map V.ref))=H0 at *
  have rx0:=rx.same SD
  have hT0:=SD _ _ hT
  have ht0:=ht.same SD
  have nDt:D≠t:=λz=>by rw[z,hT] at nD; cases nD
  cases tt with
  | swap i j =>
    obtain ⟨a,rfl,ha⟩:=ht0
    obtain ⟨⟨i0,i1⟩,⟨j0,j1⟩,ne⟩:=ok
    obtain ⟨b,xs,hb,hx,al⟩:=rx0.get (i:=i.toNat) (by omega)
    obtain ⟨c,ys,hc,hy,bl⟩:=rx0.get (i:=j.toNat) (by omega)
    have nDa:a≠D:=λz=>by rw[z,qD] at ha; cases ha
    refine ⟨_,rfl,a,_,1,_,rfl,rfl,SqT.of ha,rfl,?_⟩
    refine ⟨_,rfl,a,_,0,_,rfl,rfl,SqT.of ha,rfl,rfl,_,rfl,Zbg rfl ?_⟩
    refine ⟨_,rfl,_,rfl,a,_,2,_,rfl,rfl,SqT.of ha,rfl,t,_,_,_,rfl,rfl,SqL.of hT0,Zb3 j0 hc,?_⟩
    refine ⟨_,rfl,_,rfl,D,_,_,_,rfl,rfl,qD,Zbp i0 (by rw[lm]; exact i1),?_⟩
    rw[Za1]
    have ha1:upd H0 D (.lst ((rs.set i.toNat c).map V.ref)) a=some (.tup [.str "swap", .int i,.int j]):=by rw[Zap nDa]; exact ha
    have hT1:upd H0 D (.lst ((rs.set i.toNat c).map V.ref)) t=some (.lst (rs.map V.ref)):=by rw[Zap (Ne.symm nDt)]; exact hT0
    refine ⟨_,rfl,_,rfl,t,_,_,_,rfl,rfl,SqL.of hT1,Zb3 i0 hb,?_⟩
    refine ⟨_,rfl,_,rfl,a,_,2,_,rfl,rfl,SqT.of ha1,rfl,D,_,_,_,rfl,rfl,Zae,Zbp j0 (by rw[Q0,We,la]; exact j1),?_⟩
    rw[Za1]
    have O:Off [D] H0 (upd (upd H0 D (.lst ((rs.set i.toNat c).map V.ref))) D (.lst (((rs.set i.toNat c).set j.toNat b).map V.ref))):=λx o n q=>by
      have nx:x≠D:=λz=>n (by rw[z]; exact Q3.mpr rfl)
      rw[Zap nx,Zap nx]; exact q
    have S2:=Off.same O SD (λr hr=>by rw[Q3.mp hr]; exact nD)
    have rx2:=rx0.off nDr qD O
    have ha2:=O _ _ (λm=>nDa (Q3.mp m)) ha
    have qD2:=Zae (H:=upd H0 D (.lst ((rs.set i.toNat c).map V.ref))) (a:=D) (o:=.lst (((rs.set i.toNat c).set j.toNat b).map V.ref))
    generalize upd (upd H0 D (.lst ((rs.set i.toNat c).map V.ref))) D (.lst (((rs.set i.toNat c).set j.toNat b).map V.ref))=H2 at *
    obtain ⟨xs',hx',al'⟩:=rx2.2 i.toNat b _ hb (Q5 (by omega))
    obtain ⟨ys',hy',bl'⟩:=rx2.2 j.toNat c _ hc (Q5 (by omega))
    refine ⟨_,rfl,a,_,0,_,rfl,rfl,SqT.of ha2,rfl,rfl,_,rfl,Zbh s12 ?_⟩
    refine ⟨_,rfl,a,_,0,_,rfl,rfl,SqT.of ha2,rfl,rfl,_,rfl,Zbh s13 ⟨_,rfl,k H2 D _ S2 qD2 nD (λz hz => .inl ?_) ?_⟩⟩
    · rcases W6 hz with q | q
      · rcases W6 q with q2 | q2
        · exact q2
        · rw[q2]; exact Q9 hc
      · rw[q]; exact Q9 hb
    show RowsX κ _ _ ((R.set i.toNat (R.getD j.toNat [])).set j.toNat (R.getD i.toNat []))
    rw[Zaw (Q5 (show j.toNat<R.length by omega)),Zaw (Q5 (show i.toNat<R.length by omega))]
    exact (rx2.set _ hy' bl').set _ hx' al'
  | scale i c =>
    obtain ⟨a,u,rfl,ha,nu⟩:=ht0
    obtain ⟨⟨i0,i1⟩,_⟩:=ok
    obtain ⟨b,xs,hb,hx,al⟩:=rx0.get (i:=i.toNat) (by omega)
    have eg:=Zaw (Q5 (show i.toNat<R.length by omega))
    obtain ⟨bc,bx⟩:=pre
    rw[eg] at bx
    refine ⟨_,rfl,a,_,1,_,rfl,rfl,SqT.of ha,rfl,?_⟩
    refine ⟨_,rfl,a,_,0,_,rfl,rfl,SqT.of ha,rfl,rfl,_,rfl,Zbh s21 ?_⟩
    refine ⟨_,rfl,a,_,0,_,rfl,rfl,SqT.of ha,rfl,rfl,_,rfl,Zbg rfl ?_⟩
    refine ⟨_,rfl,_,rfl,t,_,_,_,rfl,rfl,SqL.of hT0,Zb3 i0 hb,b,rfl,⟨_,SqL.of hx⟩,?_⟩
    have l:=al.1
    have lf:=l1000 _ (Qp (show i.toNat<R.length by omega))
    refine Zbx (K:=K) (a:=b) (xs:=xs) (λn ys H2=>Same H0 H2/\AllG (NR κ H2) ys ((R[i.toNat].take n).map (c * ·))) (by omega) ⟨Same.refl _,.nil⟩ (λn ys H2 _ q=>SqL.of (q.1 _ _ hx)) ?_ ?_
    · rintro n x ys H2 hx' hl ⟨S,e⟩
      obtain ⟨y,hy,ny⟩:=al.get hx'
      refine ⟨_,rfl,_,rfl,a,_,2,_,rfl,rfl,SqT.of (S _ _ ha),rfl,_,rfl,κ,_,_,c,y,rfl,nu.same S,ny.same S,bc,bx y (Q9 hy),λH3 v S3 nv=>⟨S.trans S3,?_⟩⟩
      rw[W7,hy,Qr]
      exact (e.mono λ_ _ n=>n.same S3).append (.one nv)
    · rintro ys H2 hl ⟨S,e⟩ E0' hE
      rw[l,U4] at e
      have SE:=Zag hE (.lst ys)
      have qE:=Zae (H:=H2) (a:=E0') (o:=.lst ys)
      generalize upd H2 E0' (.lst ys)=H3 at *
      have S3:=S.trans SE
      refine ⟨_,rfl,_,rfl,D,_,_,_,rfl,rfl,S3 _ _ qD,Zbp i0 (by rw[lm]; exact i1),?_⟩
      rw[Za1]
      have O:Off [D] H3 (upd H3 D (.lst ((rs.set i.toNat E0').map V.ref))):=Zay (Same.refl H3)
      have nED:E0'≠D:=λz=>by rw[z,S _ _ qD] at hE; cases hE
      have nDa:a≠D:=λz=>by rw[z,qD] at ha; cases ha
      have S4:=Off.same O (SD.trans S3) (λr hr=>by rw[Q3.mp hr]; exact nD)
      have rx4:=(rx0.same S3).off nDr (S3 _ _ qD) O
      have ha4:=O _ _ (λm=>nDa (Q3.mp m)) (S3 _ _ ha)
      have qE4:=O _ _ (λm=>nED (Q3.mp m)) qE
      have e4:AllG (NR κ (upd H3 D (.lst ((rs.set i.toNat E0').map V.ref)))) ys (R[i.toNat].map (c * ·)):=e.mono λ_ _ n=>(n.same SE).off (S3 _ _ qD) O
      have qD4:=Zae (H:=H3) (a:=D) (o:=.lst ((rs.set i.toNat E0').map V.ref))
      generalize upd H3 D (.lst ((rs.set i.toNat E0').map V.ref))=H4 at *
      refine ⟨_,rfl,a,_,0,_,rfl,rfl,SqT.of ha4,rfl,rfl,_,rfl,Zbh s23 ⟨_,rfl,k H4 D _ S4 qD4 nD (λz hz=>?_) ?_⟩⟩
      · rcases W6 hz with q | q
        · exact .inl q
        · rw[q]; exact .inr ((SD.trans S).free hE)
      show RowsX κ _ _ (R.set i.toNat ((R.getD i.toNat []).map (c * ·)))
      rw[eg]
      exact rx4.set _ qE4 e4
  | add i j c =>
    obtain ⟨a,u,rfl,ha,nu⟩:=ht0
    obtain ⟨⟨i0,i1⟩,⟨j0,j1⟩,_⟩:=ok
    obtain ⟨b,xs,hb,hx,al⟩:=rx0.get (i:=i.toNat) (by omega)
    obtain ⟨e,zs,he,hz,el⟩:=rx0.get (i:=j.toNat) (by omega)
    have eg:=Zaw (Q5 (show i.toNat<R.length by omega))
    have eh:=Zaw (Q5 (show j.toNat<R.length by omega))
    obtain ⟨bc,bx,by'⟩:=pre
    rw[eg] at bx
    rw[eh] at by'
    refine ⟨_,rfl,a,_,1,_,rfl,rfl,SqT.of ha,rfl,?_⟩
    refine ⟨_,rfl,a,_,0,_,rfl,rfl,SqT.of ha,rfl,rfl,_,rfl,Zbh s31 ?_⟩
    refine ⟨_,rfl,a,_,0,_,rfl,rfl,SqT.of ha,rfl,rfl,_,rfl,Zbh s32 ?_⟩
    refine ⟨_,rfl,a,_,0,_,rfl,rfl,SqT.of ha,rfl,rfl,_,rfl,Zbg rfl ?_⟩
    refine ⟨_,rfl,_,rfl,t,_,_,_,rfl,rfl,SqL.of hT0,Zb3 i0 hb,_,rfl,_,rfl,a,_,2,_,rfl,rfl,SqT.of ha,rfl,t,_,_,_,rfl,rfl,SqL.of hT0,Zb3 j0 he,b,e,rfl,⟨_,SqL.of hx⟩,⟨_,SqL.of hz⟩,?_⟩
    have l1:=al.1
    have l2:=el.1
    have lf:=l1000 _ (Qp (show i.toNat<R.length by omega))
    refine ZeG (K:=K) (a:=b) (b:=e) (xs:=xs) (ys:=zs) (λn ys H2=>Same H0 H2/\AllG (NR κ H2) ys (List.zipWith (· + ·) (R[i.toNat].take n) ((R[j.toNat].map (c * ·)).take n))) (by omega) ⟨Same.refl _,.nil⟩ (λn ys H2 q=>⟨SqL.of (q.1 _ _ hx),SqL.of (q.1 _ _ hz)⟩) ?_ ?_
    · rintro n x y T0 ws H2 hx' hy' hl nT ⟨S,al'⟩
      obtain ⟨p,q,hp,hq,np,nq⟩:=al.zip el hx' hy'
      have ST:=Zag nT (.tup [x,y])
      generalize upd H2 T0 (.tup [x,y])=H3 at *
      have S3:=S.trans ST
      obtain ⟨bq,bcq⟩:=by' q (Q9 hq)
      refine ⟨_,rfl,_,rfl,_,rfl,_,rfl,a,_,3,_,rfl,rfl,SqT.of (S3 _ _ ha),rfl,_,rfl,κ,_,_,c,q,rfl,nu.same S3,nq.same S3,bc,bq,λH4 v S4 nv=>?_⟩
      refine ⟨κ,_,_,p,c*q,rfl,(np.same S3).same S4,nv,bx p (Q9 hp),bcq,λH5 v2 S5 nv2=>⟨S3.trans (S4.trans S5),?_⟩⟩
      have hq':(R[j.toNat].map (c * ·))[n]?=some (c*q):=by rw[Qh,hq]; rfl
      rw[W7,hp,W7,hq']
      have lp:=(Qf.mp hp).1
      have lq:=(Qf.mp hq').1
      rw[show (some p).toList=[p] from rfl,show (some (c*q)).toList=[c*q] from rfl,List.zipWith_append (by rw[Ql,Ql]; omega)]
      exact (al'.mono λ_ _ n=>n.same (ST.trans (S4.trans S5))).append (.one nv2)
    · rintro ws H2 hl ⟨S,al'⟩ E0' hE
      have ez:List.zipWith (· + ·) (R[i.toNat].take (min xs.length zs.length)) ((R[j.toNat].map (c * ·)).take (min xs.length zs.length))=List.zipWith (· + ·) R[i.toNat] (R[j.toNat].map (c * ·)):=by
        rw[<-List.take_zipWith,Wt]
        rw[List.length_zipWith,Q0]
        omega
      rw[ez] at al'
      have SE:=Zag hE (.lst ws)
      have qE:=Zae (H:=H2) (a:=E0') (o:=.lst ws)
      generalize upd H2 E0' (.lst ws)=H3 at *
      have S3:=S.trans SE
      refine ⟨_,rfl,_,rfl,D,_,_,_,rfl,rfl,S3 _ _ qD,Zbp i0 (by rw[lm]; exact i1),?_⟩
      rw[Za1]
      have O:Off [D] H3 (upd H3 D (.lst ((rs.set i.toNat E0').map V.ref))):=Zay (Same.refl H3)
      have nED:E0'≠D:=λz=>by rw[z,S _ _ qD] at hE; cases hE
      have S4:=Off.same O (SD.trans S3) (λr hr=>by rw[Q3.mp hr]; exact nD)
      have rx4:=(rx0.same S3).off nDr (S3 _ _ qD) O
      have qE4:=O _ _ (λm=>nED (Q3.mp m)) qE
      have e4:AllG (NR κ (upd H3 D (.lst ((rs.set i.toNat E0').map V.ref)))) ws (List.zipWith (· + ·) R[i.toNat] (R[j.toNat].map (c * ·))):=al'.mono λ_ _ n=>(n.same SE).off (S3 _ _ qD) O
      have qD4:=Zae (H:=H3) (a:=D) (o:=.lst ((rs.set i.toNat E0').map V.ref))
      generalize upd H3 D (.lst ((rs.set i.toNat E0').map V.ref))=H4 at *
      refine ⟨_,rfl,k H4 D _ S4 qD4 nD (λz hz=>?_) ?_⟩
      · rcases W6 hz with q | q
        · exact .inl q
        · rw[q]; exact .inr ((SD.trans S).free hE)
      show RowsX κ _ _ (R.set i.toNat (List.zipWith (· + ·) (R.getD i.toNat []) ((R.getD j.toNat []).map (c * ·))))
      rw[eg,eh]
      exact rx4.set _ qE4 e4
end
end My
namespace My
open PySem L2 PyProof.Rows Rg
section
variable{P:Program}{w:World}{K:PySem.W.Frag}{mg:Str->Option Value}{base:Heap}
theorem Zjh:FnScope ["_law_prime_here", "_law_cell"] ["_law_prime_here", "_law_cell"] (Zah ZeP):=⟨rfl,rfl,rfl,by decide +kernel,rfl,by decide +kernel,by decide +kernel⟩
theorem Zg6(h:Here K mg "_law_drawn" ZeP) (h_l_lowest:Has P w K mg base "_law_lowest" 2 ["_law_top", "_law_bottom"] ZeY):Has P w K mg base "_law_drawn" 3 ["_law_prime_here", "_law_cell"] ZcK:=by
  refine h.has (λf fd F=>F.binds λ_ _ _ _ _ _ us hl=>by obtain ⟨_,_,rfl⟩:=Zed hl; exact rfl) λf fd F=>F.ok Zjh (λvs H Q E h=>?_) (λcdv A outer s H vs Q E hr h=>?_)
  · obtain ⟨_,_,rfl,_⟩:=h
    rfl
  obtain ⟨κ,c,rfl,hb,k⟩:=h
  refine ⟨_,(Zab (ZaF (Zaq ZfA (pv 0) Zac (Zar _)) (Zaf (Zam (Zai ZaD (pv 1) (pv 0)))) Zav)
    (Zaf (Zam (Zao h_l_lowest hr (by rfl) (Zaa (Zai Zc1 (Zai ZaQ (pv 1) Zac) Zac) (Zaa (Zai ZaY Zac (Zai ZaQ (Zai Zb7 (Zai ZaA (pv 1) (pv 1)) Zac) Zac)) Zad)))))),?_⟩
  refine ⟨_,rfl,_,_,rfl,rfl,_,rfl,?_⟩
  cases κ with
  | r p hp =>
    obtain ⟨x,hx⟩:=Zms hp c
    refine Zbg (show (0:Int)<(KX.r p hp).P from ZgV) ⟨_,rfl,_,rfl,_,_,rfl,rfl,(show (p:Int)≠0 by have:=hp.two; omega),k H _ x (Same.refl H) ?_ trivial⟩
    show V.int (c.fmod p)=V.int x.val
    rw[hx]
  | q =>
    refine Zbh (show ¬(0:Int)<0 by decide) ?_
    have b1:1<=1+c*c*48271%6/\1+c*c*48271%6<=6:=by
      generalize c*c*48271=e
      omega
    have fit:Bits 8000 (1+c*c*48271%6):=Bits.of (Q6 (show _<2^3 by show _<8; omega) (Qe (by decide) (by decide)))
    exact ⟨_,rfl,_,_,rfl,rfl,(by show (0:Int)<_; decide),_,_,rfl,rfl,_,rfl,_,rfl,_,_,rfl,rfl,hb.mul hb,_,_,rfl,rfl,.inr ⟨by decide,by decide⟩,_,_,rfl,rfl,(by show (0:Int)<_; decide),_,_,rfl,rfl,_,_,rfl,(by show 0<1+c*c*48271%6; omega),fit,λr nr=>k _ _ (Rat.divInt (c%13-6) (1+c*c*48271%6)) (Zag nr _) ⟨r,rfl,Zae⟩ (Zqx (N:=6) b1.1 b1.2 (by omega))⟩
end
structure UpR (κ:KX) (n i:Nat) (g:List κ.F):Prop where
  len:g.length=n
  pre:∀j<i,g.getD j 0=0
  sz:∀x∈g,QM κ 60 (360) x
theorem UpR.set{κ:KX}{n i j:Nat}{g:List κ.F}{x:κ.F}(h:UpR κ n i g)(hj:i<=j)(jn:j<n)(q:QM κ 60 (360) x):UpR κ n i (g.set j x):=by
  have l:=h.len
  refine ⟨by rw[We]; exact l,λj' hj'=>by rw[ZkB (by omega),if_neg (by omega)]; exact h.pre j' hj',λy hy=>?_⟩
  rcases W6 hy with z | z
  · exact h.sz y z
  · rw[z]; exact q
section
variable{P:Program}{w:World}{K:PySem.W.Frag}{mg:Str->Option Value}{base:Heap}
theorem sc_l_begun:FnScope ["_law_prime_here", "_law_cells", "_law_rows", "_law_far", "_law_cell", "_law_at", "_law_found", "_law_i", "_law_row", "_law_j", "_law_k"] ["_law_prime_here", "_law_cells", "_law_rows", "_law_far"] (Zah ZeQ):=⟨rfl,rfl,rfl,by decide +kernel,rfl,by decide +kernel,by decide +kernel⟩
theorem Zg7(h:Here K mg "_law_begun" ZeQ) (T:Nm mg) (h_l_drawn:Has P w K mg base "_law_drawn" 3 ["_law_prime_here", "_law_cell"] ZcK) (h_l_made:Has P w K mg base "_law_made" 3 ["_law_prime_here", "_law_number"] ZbK):Has P w K mg base "_law_begun" 4 ["_law_prime_here", "_law_cells", "_law_rows", "_law_far"] ZcL:=by
  refine h.has (λf fd F=>F.binds λ_ _ _ _ _ _ us hl=>by obtain ⟨_,_,_,_,rfl⟩:=Zom hl; exact rfl) λf fd F=>F.ok sc_l_begun (λvs H Q E h=>?_) (λcdv A outer s H vs Q E hr h=>?_)
  · obtain ⟨_,_,_,_,_,rfl,_⟩:=h
    rfl
  obtain ⟨κ,c,cs,n,far,rfl,ce,n1,n7,f30,k⟩:=h
  have nd:=sc_l_begun.nd
  refine ⟨_,(Zab (Zaj (i:=4) nd rfl (Or.inl rfl) (Zak Zau (pv 1) (Zai ZaD (Zai ZaY (Zai Zhe (Zas Zan (by rfl) T.len boot_len (Zaa (pv 1) Zad)) Zac) (pv 3)) (Zas Zan (by rfl) T.len boot_len (Zaa (pv 1) Zad))) (λ_ _=>rfl)))
    (Zab (Zaj (i:=5) nd rfl (Or.inl rfl) (ZdJ Zb8 Zac))
    (Zab (ZaF (Zaq Za8 (Zai ZaQ (Zai ZaQ (Zai Zb7 (pv 4) Zac) Zac) Zac) Zac (Zar _)) (Zaf (Zaj (i:=5) nd rfl (Or.inl rfl) (Zai ZaD (Zai ZaQ (Zai Zb7 (pv 4) Zac) Zac) (pv 2)))) Zav)
    (Zab (Zaj (i:=6) nd rfl (Or.inl rfl) (Zb9 Zad))
    (Zab (Za7 PassesOwn.never rfl (ZaJ (by rfl) T.range (Zaa (pv 2) Zad)) (Zat (i:=7) nd rfl (Or.inl rfl)) (Zab (ZbJ (i:=8) ["_law_j"] [(0, "_law_prime_here")] nd rfl rfl rfl (ZaJ (by rfl) T.range (Zaa (pv 2) Zad)) (by exact λ_ _ _ _=>(Zat (i:=0) (show (["_law_j", "_law_prime_here"]:List Str).Nodup by decide +kernel) rfl (Or.inl rfl))) (by exact λ_ _ _ _=>(Zao h_l_made hr (by rfl) (Zaa (pv 1) (Zaa Zac Zad)))) ⟨⟨rfl,rfl,Or.inl rfl⟩,trivial⟩)
      (Zab (Za7 PassesOwn.never rfl (Zev (by rfl) T.range (Zaa (pv 7) (Zaa (pv 2) Zad))) (Zat (i:=9) nd rfl (Or.inl rfl)) (Zab (Zaj (i:=10) nd rfl (Or.inl rfl) (Zai ZaY (Zai ZaY (Zai ZaY Zac (pv 3)) (Zai ZaA (pv 7) (pv 2))) (pv 9)))
        (Zaf (Zcq (Zao h_l_drawn hr (by rfl) (Zaa (pv 0) (Zaa (Zai ZaY (Zai Zb7 (Zak Zau (pv 1) (Zai ZaD (pv 10) (Zas Zan (by rfl) T.len boot_len (Zaa (pv 1) Zad))) (λ_ _=>rfl)) Zac) (Zai ZaA (pv 10) (pv 10))) Zad))) (Zcp (pv 8) (pv 9) Zba)))))
      (Zab (ZaF (Zjn (Zaq (Zmr hr) (Zak Zau (pv 8) (pv 7) (λ_ _=>rfl)) (Zao h_l_made hr (by rfl) (Zaa (pv 0) (Zaa Zac Zad))) (Zar _)) (Zgr (Zaq Za8 (pv 7) (pv 5) (Zar _)))).pt (Zaf (Zcq (Zao h_l_made hr (by rfl) (Zaa (pv 0) (Zaa (Zca Zgu (by rfl) T.int boot_int (Zaa (Zbz Zgt (pv 7) (pv 5) (Zar _)) Zad)) Zad))) (Zcp (pv 8) (pv 7) Zba))) Zav)
      (Zaf (ZaO (ZfD PySem.F.plainAttrs_list PySem.F.slot_list_append PySem.F.type_list_append Zbc (pv 6) (Zaa (pv 8) Zad))))))))
    (Zaf (Zam (pv 6)))))))),?_⟩
  have ch1:=ce.h1
  have ch2:=ce.h2
  have d2:((cs.length:Int))/2=((cs.length/2:Nat):Int):=by omega
  obtain ⟨wf,ewf,lwf⟩:=ZhC (a:=(cs.length:Int)/2+(far:Int)) (n:=cs.length) ch1
  refine ⟨_,rfl,_,rfl,c,_,rfl,.inl (SqL.of ce.l),_,_,rfl,rfl,⟨by decide,by decide⟩,_,rfl,_,_,rfl,rfl,_,rfl,c,_,rfl,.inl (SqL.of ce.l),_,_,rfl,rfl,(by rw[Q0]; show (cs.length:Int)≠0; omega),c,_,_,_,rfl,rfl,SqL.of ce.l,(by rw[Q0,ewf]; exact ZgT lwf),?_⟩
  generalize cs[wf]=cell
  refine ⟨_,rfl,?_⟩
  refine ZnU (Zla (λσ H1=>H1=H/\∃aa:Int,σ=[some (.int κ.P),some (.ref c),some (.int (n:Int)),some (.int (far:Int)),some (.int cell),some (.int aa),none,none,none,none,none]) (λN' kj=>?_) ?_)
  · refine ⟨_,rfl,_,_,rfl,rfl,.inr ⟨by decide,by decide⟩,_,_,rfl,rfl,(by show (0:Int)<_; decide),_,_,rfl,rfl,(by show (0:Int)<_; decide),rfl,_,rfl,?_⟩
    refine Zbv (λ_=>?_) (λ_=>kj _ _ ⟨rfl,-1,rfl⟩)
    exact ⟨_,rfl,_,_,rfl,rfl,.inr ⟨by decide,by decide⟩,_,_,rfl,rfl,(by show (0:Int)<_; decide),_,rfl,_,_,rfl,rfl,(show (n:Int)≠0 by omega),kj _ _ ⟨rfl,_,rfl⟩⟩
  rintro σ H1 ⟨rfl,aa,rfl⟩
  refine ⟨(by show 0<=sizeLine; decide),λtb ntb=>?_⟩
  have Stb:=Zag ntb (.lst [])
  have qtb:=Zae (H:=H1) (a:=tb) (o:=.lst [])
  generalize upd H1 tb (.lst [])=H2 at *
  refine ⟨_,rfl,(n:Int),rfl,by omega,by omega,?_⟩
  rw[Q7]
  refine ZaP (lo:=0) (n:=n) (λi σ H3=>∃(z5 z6 z7 z8:Option V) (rs:List Addr) (R:List (List κ.F)),σ=[some (.int κ.P),some (.ref c),some (.int (n:Int)),some (.int (far:Int)),some (.int cell),some (.int aa),some (.ref tb),z5,z6,z7,z8]/\Same H1 H3/\H3 tb=some (.lst (rs.map V.ref))/\RowsX κ H3 rs R/\R.length=i/\(∀k<i,UpR κ n k (R.getD k []))/\tb∉rs) ⟨_,_,_,_,[],[],rfl,Stb,qtb,.nil,rfl,(λk h=>by omega),λz=>nomatch z⟩ ?_ ?_
  · rintro i σ H3 hi ⟨z5,z6,z7,z8,rs,R,rfl,S3,hT,rx,lR,ro,nt⟩
    refine ⟨_,rfl,(n:Int),rfl,by omega,by omega,?_⟩
    rw[Q7]
    refine ZcO (lo:=0) (n:=n) (λq ys H4=>Same H3 H4/\AllG (NR κ H4) ys (List.replicate q 0)) (by omega) ⟨Same.refl _,.nil⟩ ?_ ?_
    · rintro q ys H4 _ _ ⟨S4,e4⟩
      refine ⟨_,rfl,κ,0,0,rfl,Zf1,λH5 v0 S5 n0=>⟨S4.trans S5,?_⟩⟩
      rw[List.replicate_succ']
      exact (e4.mono λ_ _ n=>n.same S5).append (.one n0)
    rintro ys H4 _ ⟨S4,e4⟩ rw_ nrw4
    have nrw:H3 rw_=none:=S4.free nrw4
    have nwr:=rx.notin nrw
    have nwt:rw_≠tb:=λz=>by rw[z,hT] at nrw; cases nrw
    have Sw:=Zag nrw4 (.lst ys)
    have qw:=Zae (H:=H4) (a:=rw_) (o:=.lst ys)
    have e5:=e4.mono λ_ _ n=>n.same Sw
    have S5:=S4.trans Sw
    generalize upd H4 rw_ (.lst ys)=H5 at *
    have up0:UpR κ n i (List.replicate n (0:κ.F)):=⟨U8,λj _=>ZkC n j,λx hx=>by rw[List.eq_of_mem_replicate hx]; exact QM.zero⟩
    refine ⟨_,rfl,_,rfl,_,_,rfl,⟨by omega,by omega,by omega,by omega⟩,?_⟩
    refine ZaP (lo:=0+(i:Int)) (n:=((n:Int)-(0+(i:Int))).toNat) (λp σ H6=>∃(z7 z8:Option V) (zs:List V) (g:List κ.F),σ=[some (.int κ.P),some (.ref c),some (.int (n:Int)),some (.int (far:Int)),some (.int cell),some (.int aa),some (.ref tb),some (.int (0+(i:Int))),some (.ref rw_),z7,z8]/\Same H3 H6/\H6 rw_=some (.lst zs)/\AllG (NR κ H6) zs g/\UpR κ n i g) ⟨_,_,ys,_,rfl,S5,qw,e5,up0⟩ ?_ ?_
    · rintro p σ H6 hp ⟨z7',z8',zs,g,rfl,S6,q6,e6,up⟩
      have ce6:=(ce.same S3).same S6
      have lg:=up.len
      have lz:=e6.1
      have mul7:i*n<=49:=Q2 (W9 (show i<=7 by omega) n7) (by decide)
      refine ⟨_,rfl,_,_,rfl,rfl,_,rfl,_,rfl,_,_,rfl,rfl,.of_right (intBits_le_64 (by omega) (by omega)),_,_,rfl,rfl,_,rfl,_,_,rfl,rfl,?_⟩
      have ek:(1:Int)+(far:Int)+(0+(i:Int))*(n:Int)+(0+(i:Int)+(p:Int))=((1+far+i*n+(i+p):Nat):Int):=by
        have e1:((i*n:Nat):Int)=(i:Int)*(n:Int):=Wl i n
        rw[Qq,<-e1]
        omega
      show Zb6 10 (V.int ((1:Int)+(far:Int)+(0+(i:Int))*(n:Int)+(0+(i:Int)+(p:Int)))) _ H6 _
      rw[ek]
      generalize hkk:1+far+i*n+(i+p)=kk
      have k64:kk<100:=by omega
      obtain ⟨wv,ew,lw⟩:=ZhC (a:=(kk:Int)) (n:=cs.length) ch1
      refine ⟨_,rfl,_,rfl,_,rfl,_,rfl,c,_,rfl,.inl (SqL.of ce6.l),_,_,rfl,rfl,(by rw[Q0]; show (cs.length:Int)≠0; omega),c,_,_,_,rfl,rfl,SqL.of ce6.l,(by rw[Q0,ew]; exact ZgT lw),_,_,rfl,rfl,.inr ⟨by decide,by decide⟩,_,rfl,_,rfl,_,_,rfl,rfl,.of_right (intBits_le_64 (by omega) (by omega)),_,_,rfl,rfl,κ,_,rfl,Zk9 (ce.b _ (Qp lw)) ⟨by omega,by omega⟩,λH9 v x S9 nv qx=>?_⟩
      refine ⟨_,rfl,_,rfl,rw_,zs,_,_,rfl,rfl,S9 _ _ q6,Zbp (by omega) (by omega),?_⟩
      rw[show (0+(i:Int)+(p:Int)).toNat=i+p by omega]
      have Oa:Off [rw_] H9 (upd H9 rw_ (.lst (zs.set (i+p) v))):=Zay (Same.refl H9)
      exact ⟨_,_,_,g.set (i+p) x,rfl,Off.same Oa (S6.trans S9) (λz hz=>by rw[Q3.mp hz]; exact nrw),Zae,(e6.mono λ_ _ n=>(n.same S9).off (S9 _ _ q6) Oa).set _ (nv.off (S9 _ _ q6) Oa),up.set (by omega) (by omega) qx⟩
    · rintro σ H6 ⟨z7',z8',zs,g,rfl,S6,q6,e6,up⟩
      have d6:Same H3 H6/\∃(zs:List V) (g:List κ.F),H6 rw_=some (.lst zs)/\AllG (NR κ H6) zs g/\UpR κ n i g:=⟨S6,zs,g,q6,e6,up⟩
      clear S6 q6 e6 up
      revert H6
      refine' Zmt (C:=λH6=>Same H3 H6/\∃(zs:List V) (g:List κ.F),H6 rw_=some (.lst zs)/\AllG (NR κ H6) zs g/\UpR κ n i g) (C':=λH6=>Same H3 H6/\∃(zs:List V) (g:List κ.F),H6 rw_=some (.lst zs)/\AllG (NR κ H6) zs g/\UpR κ n i g) (λk1 H6 d6=>?first3) ?second3
      case first3 =>
        obtain ⟨S6,zs,g,q6,e6,up⟩:=d6
        have lg:=up.len
        have lz:=e6.1
        obtain ⟨v,hv,nv⟩:=e6.get' (i:=i) (by omega)
        have asg:∀(H9:Hp),Same H6 H9->∀(v:V) (x:κ.F),NR κ H9 v x->QM κ 60 (360) x->Same H3 (upd H9 rw_ (.lst (zs.set i v)))/\∃(zs':List V) (g':List κ.F),upd H9 rw_ (.lst (zs.set i v)) rw_=some (.lst zs')/\AllG (NR κ (upd H9 rw_ (.lst (zs.set i v)))) zs' g'/\UpR κ n i g':=λH9 S9 v x nv qx=>by
          have Oa:Off [rw_] H9 (upd H9 rw_ (.lst (zs.set i v))):=Zay (Same.refl H9)
          exact ⟨Off.same Oa (S6.trans S9) (λz hz=>by rw[Q3.mp hz]; exact nrw),_,g.set i x,Zae,(e6.mono λ_ _ n=>(n.same S9).off (S9 _ _ q6) Oa).set _ (nv.off (S9 _ _ q6) Oa),up.set (Q1 _) hi qx⟩
        obtain ⟨x,nx,qx⟩:∃x:κ.F,NumV κ (if (!decide (V.int (0+(i:Int))=V.int aa))=true then 1 else 0) x/\QM κ 60 (360) x:=by
          split
          · exact ⟨1,ZcZ,qm_one.mono (by decide)⟩
          · exact ⟨0,Zf1,QM.zero⟩
        refine ⟨_,rfl,_,rfl,rw_,_,_,_,rfl,rfl,SqL.of q6,(by rw[Qq]; exact Za5 hv),_,rfl,κ,0,0,rfl,Zf1,λH7 v0 S7 n0=>?_⟩
        obtain ⟨bb,hb,eb⟩:=ZoH (nv.same S7) n0
        refine ⟨bb,hb,_,rfl,?_⟩
        have S37:=S6.trans S7
        have keep:Same H3 H7/\∃(zs:List V) (g:List κ.F),H7 rw_=some (.lst zs)/\AllG (NR κ H7) zs g/\UpR κ n i g:=⟨S37,zs,g,S7 _ _ q6,e6.mono λ_ _ n=>n.same S7,up⟩
        cases bb with
        | false =>
          refine ⟨_,rfl,_,rfl,rfl,_,rfl,?_⟩
          refine' Zbv (λ_=>?yes) (λ_=>?no)
          case no=>exact k1 H7 keep
          case yes =>
            refine ⟨_,rfl,_,rfl,_,rfl,rfl,.inr ⟨_,rfl,κ,_,x,rfl,nx,λH9 v9 S9 n9=>?_⟩⟩
            refine ⟨_,rfl,_,rfl,rw_,zs,_,_,rfl,rfl,(S7.trans S9) _ _ q6,Zbp (by omega) (by omega),?_⟩
            rw[show (0+(i:Int)).toNat=i by omega]
            exact k1 _ (asg H9 (S7.trans S9) v9 x n9 qx)
        | true =>
          refine ZiN ?_
          refine ⟨_,rfl,_,rfl,_,rfl,rfl,.inr ⟨_,rfl,κ,_,x,rfl,nx,λH9 v9 S9 n9=>?_⟩⟩
          refine ⟨_,rfl,_,rfl,rw_,zs,_,_,rfl,rfl,(S7.trans S9) _ _ q6,Zbp (by omega) (by omega),?_⟩
          rw[show (0+(i:Int)).toNat=i by omega]
          exact k1 _ (asg H9 (S7.trans S9) v9 x n9 qx)
      case second3 =>
        rintro H5' ⟨S5',ys',g',qw',e5',up'⟩
        have hT5:=S5' _ _ hT
        refine ⟨_,rfl,.inl ⟨rfl,_,SqL.of hT5⟩,_,rfl,tb,_,_,rfl,rfl,hT5,Q6 (show (rs.map V.ref).length<1000 by rw[Q0,rx.1]; omega) (by decide),?_⟩
        have O6:Off [tb] H5' (upd H5' tb (.lst (rs.map V.ref++[.ref rw_]))):=Zay (Same.refl H5')
        refine ⟨_,_,_,_,rs++[rw_],R++[g'],rfl,Off.same O6 (S3.trans S5') (λz hz=>by rw[Q3.mp hz]; exact ntb),by rw[Zae,Qr]; rfl,((rx.same S5').off nt hT5 O6).snoc (O6 _ _ (λz=>nwt (Q3.mp z)) qw') (e5'.mono λ_ _ n=>n.off hT5 O6),by simp[lR],λk hk=>?_,λz=>?_⟩
        · by_cases e:k=i
          · subst e
            rw[Q4,W3 (by omega),lR,U3]
            exact up'
          · rw[Q4,W2 (by omega),<-Q4]
            exact ro k (by omega)
        · rcases Qu.mp z with q | q
          · exact nt q
          · exact nwt (Q3.mp q).symm
  · rintro σ H3 ⟨z5,z6,z7,z8,rs,R,rfl,S3,hT,rx,lR,ro,nt⟩
    have gd:∀f∈R,∃i<n,f=R.getD i []:=λf hf=>by
      obtain ⟨i,hi,e⟩:=Wy hf
      exact ⟨i,by omega,by rw[Zaw (Q5 hi)]; exact e.symm⟩
    refine ⟨_,rfl,k H3 tb rs R S3 hT rx lR (λf hf=>?_) (λi j hj hi=>(ro i hi).pre j hj) (λf hf x hx=>?_)⟩
    · obtain ⟨i,hi,rfl⟩:=gd f hf
      exact (ro i hi).len
    · obtain ⟨i,hi,rfl⟩:=gd f hf
      exact (ro i hi).sz x hx
end
end My
namespace My
open PySem L2 PyProof.Rows Rg
section
variable{P:Program}{w:World}{K:PySem.W.Frag}{mg:Str->Option Value}{base:Heap}
theorem sc_l_first:FnScope ["_law_prime_here", "_law_table", "_law_due_here", "_law_i"] ["_law_prime_here", "_law_table"] (Zah ZeS):=⟨rfl,rfl,rfl,by decide +kernel,rfl,by decide +kernel,by decide +kernel⟩
theorem Zg8(h:Here K mg "_law_first" ZeS) (T:Nm mg) (h_l_times:Has P w K mg base "_law_times" 3 ["_law_prime_here", "_law_one", "_law_other"] (Zbt λ_ x y=>x*y)) (h_l_made:Has P w K mg base "_law_made" 3 ["_law_prime_here", "_law_number"] ZbK):Has P w K mg base "_law_first" 4 ["_law_prime_here", "_law_table"] ZcM:=by
  refine h.has (λf fd F=>F.binds λ_ _ _ _ _ _ us hl=>by obtain ⟨_,_,rfl⟩:=Zed hl; exact rfl) λf fd F=>F.ok sc_l_first (λvs H Q E h=>?_) (λcdv A outer s H vs Q E hr h=>?_)
  · obtain ⟨_,_,_,_,_,rfl,_⟩:=h
    rfl
  obtain ⟨κ,tb0,rs0,R,n,rfl,hT0,rx0,lR,wd,n7,q4,qs,k⟩:=h
  have nd:=sc_l_first.nd
  refine ⟨_,(Zab (Zaj (i:=2) nd rfl (Or.inl rfl) (Zao h_l_made hr (by rfl) (Zaa (pv 0) (Zaa Zac Zad))))
    (Zab (Za7 PassesOwn.never rfl (ZaJ (by rfl) T.range (Zaa (Zas Zan (by rfl) T.len boot_len (Zaa (pv 1) Zad)) Zad)) (Zat (i:=3) nd rfl (Or.inl rfl)) (Zaf (Zaj (i:=2) nd rfl (Or.inl rfl) (Zao h_l_times hr (by rfl) (Zaa (pv 0) (Zaa (pv 2) (Zaa (Zak Zau (Zak Zau (pv 1) (pv 3) (λ_ _=>rfl)) (pv 3) (λ_ _=>rfl)) Zad)))))))
    (Zaf (Zam (pv 2))))),?_⟩
  have lr:=rx0.1
  refine ⟨_,rfl,κ,1,1,rfl,ZcZ,λH5 u0 S5 nu0=>?_⟩
  refine ⟨_,rfl,tb0,_,rfl,.inl (SqL.of (S5 _ _ hT0)),(n:Int),(by rw[Q0,lr,lR]),by omega,by omega,?_⟩
  rw[Q7]
  refine ZaP (lo:=0) (n:=n) (λi σ Ha=>∃(z3:Option V) (u:V) (d:κ.F),σ=[some (.int κ.P),some (.ref tb0),some u,z3]/\Same H Ha/\NR κ Ha u d/\d=Zb4 (ent R) i/\QM κ (60^i) ((10^20*60)^i) d) ⟨_,u0,1,rfl,S5,nu0,rfl,ZpJ⟩ ?_ ?_
  · rintro i σ Ha hi ⟨z7,u,d,rfl,Sa,nu,ed,qd⟩
    obtain ⟨ra,xs,ga,hxs,al⟩:=(rx0.same Sa).get (i:=i) (by omega)
    obtain ⟨v,hv,nv⟩:=al.at (i:=i) (b:=ent R i i) (by
      have w:=wd.get (i:=i) (by omega)
      show R[i][i]?=some ((R.getD i []).getD i 0)
      have eR:R.getD i []=R[i]:=Zaw (Q5 (by omega))
      rw[eR] at w ⊢
      rw[Q4,Q5 (by omega)]
      rfl)
    have qe:=(ZoZ qs lR wd hi).mono (show 360<=10^20*60 by decide)
    refine ⟨_,rfl,_,rfl,_,rfl,_,rfl,tb0,_,_,_,rfl,rfl,SqL.of (Sa _ _ hT0),(by rw[Qq]; exact Zcr ga),_,rfl,ra,_,_,_,rfl,rfl,SqL.of hxs,(by rw[Qq]; exact Za5 hv),κ,u,v,d,ent R i i,rfl,nu,nv,(Zk7 qd (λe=>by have:=q4 e; omega)).b1 (by decide),ZpK qe,λHb t Sb nt=>?_⟩
    exact ⟨_,t,_,rfl,Sa.trans Sb,nt,by rw[ed]; rfl,Zk6 qd qe⟩
  · rintro σ Ha ⟨z7,u,d,rfl,Sa,nu,ed,qd⟩
    subst ed
    exact ⟨_,rfl,k Ha u Sa nu (Zk7 qd q4)⟩
end
end My
namespace My
open PySem L2 PyProof.Rows Rg
section
variable{P:Program}{w:World}{K:PySem.W.Frag}{mg:Str->Option Value}{base:Heap}
theorem sc_l_product:FnScope ["_law_prime_here", "_law_one", "_law_other", "_law_found", "_law_row", "_law_line", "_law_j", "_law_here", "_law_x", "_law_more"] ["_law_prime_here", "_law_one", "_law_other"] (Zah Zdf):=⟨rfl,rfl,rfl,by decide +kernel,rfl,by decide +kernel,by decide +kernel⟩
theorem Zfo(h:Here K mg "_law_product" Zdf) (T:Nm mg) (Tz:mg "zip" = none) (h_l_times:Has P w K mg base "_law_times" 3 ["_law_prime_here", "_law_one", "_law_other"] (Zbt λ_ x y=>x*y)) (h_l_plus:Has P w K mg base "_law_plus" 3 ["_law_prime_here", "_law_one", "_law_other"] (Zbt λ_ x y=>x+y)) (h_l_made:Has P w K mg base "_law_made" 3 ["_law_prime_here", "_law_number"] ZbK):Has P w K mg base "_law_product" 4 ["_law_prime_here", "_law_one", "_law_other"] Zb5:=by
  refine h.has (λf fd F=>F.binds λ_ _ _ _ _ _ us hl=>by obtain ⟨_,_,_,rfl⟩:=Zei hl; exact rfl) λf fd F=>F.ok sc_l_product (λvs H Q E h=>?_) (λcdv A outer s H vs Q E hr h=>?_)
  · obtain ⟨_,_,_,_,_,_,_,_,_,_,_,_,rfl,_⟩:=h
    rfl
  obtain ⟨κ,a,b,rs,ss,R,S,n,D,Ed,M,N,rfl,hA,rR,hB,rS,lR,wR,lS,wS,n1,n7,qR,qS,pD,pE,k⟩:=h
  have nd:=sc_l_product.nd
  refine ⟨_,(Zab (Zaj (i:=3) nd rfl (Or.inl rfl) (Zb9 Zad))
    (Zab (Za7 PassesOwn.never rfl (Zbi (pv 1)) (Zat (i:=4) nd rfl (Or.inl rfl)) (Zab (Zaj (i:=5) nd rfl (Or.inl rfl) (Zb9 Zad))
      (Zab (Za7 PassesOwn.never rfl (ZaJ (by rfl) T.range (Zaa (Zas Zan (by rfl) T.len boot_len (Zaa (Zak Zau (pv 2) Zac (λ_ _=>rfl)) Zad)) Zad)) (Zat (i:=6) nd rfl (Or.inl rfl)) (Zab (Zaj (i:=7) nd rfl (Or.inl rfl) (Zao h_l_made hr (by rfl) (Zaa (pv 0) (Zaa Zac Zad))))
        (Zab (Za7 PassesOwn.never rfl (Zfv (by rfl) Tz (Zaa (pv 4) (Zaa (pv 2) Zad))) (Zh9 rfl (ZaX (Zat (i:=8) nd rfl (Or.inl rfl)) (ZaX (Zat (i:=9) nd rfl (Or.inl rfl)) Zc4))) (Zaf (Zaj (i:=7) nd rfl (Or.inl rfl) (Zao h_l_plus hr (by rfl) (Zaa (pv 0) (Zaa (pv 7) (Zaa (Zao h_l_times hr (by rfl) (Zaa (pv 0) (Zaa (pv 8) (Zaa (Zak Zau (pv 9) (pv 6) (λ_ _=>rfl)) Zad)))) Zad)))))))
        (Zaf (ZaO (ZfD PySem.F.plainAttrs_list PySem.F.slot_list_append PySem.F.type_list_append Zbc (pv 5) (Zaa (pv 7) Zad)))))))
      (Zaf (ZaO (ZfD PySem.F.plainAttrs_list PySem.F.slot_list_append PySem.F.type_list_append Zbc (pv 3) (Zaa (pv 5) Zad)))))))
    (Zaf (Zam (pv 3))))),?_⟩
  have lr:=rR.1
  have ls:=rS.1
  have hDE:0<D*Ed:=Qm pD.d pE.d
  have bDE:Bits 400 (D*Ed):=(pD.b.times pE.b).up (by decide)
  have lMN:∀k,k<=7->k*(M*N)<2^1000:=λk hk=>by
    have a1:M*N<=2^290*2^290:=W9 (Qt pD.m) (Qt pE.m)
    exact Qk (W9 hk a1) (by decide)
  have e1:∀i j,QM κ D M (ent R i j):=λi j=>ZmK qR i j
  have e2:∀i j,QM κ Ed N (ent S i j):=λi j=>ZmK qS i j
  have pt:∀i j t,QM κ (D*Ed) (t*(M*N)) (Sg (λl=>ent R i l*ent S l j) t):=λi j t=>Zo1 hDE t λl _=>(e1 i l).mul (e2 l j)
  refine ⟨(by show 0<=sizeLine; decide),λfo nfo=>?_⟩
  have Sf:=Zag nfo (.lst [])
  have qf:=Zae (H:=H) (a:=fo) (o:=.lst [])
  generalize upd H fo (.lst [])=H1 at *
  refine ⟨_,rfl,a,rfl,⟨_,SqL.of (Sf _ _ hA)⟩,?_⟩
  refine Zfz (K:=K) (a:=a) (xs:=rs.map V.ref) (λi σ H2=>∃(z4 z5 z6 z7 z8 z9:Option V) (ds:List Addr) (X:List (List κ.F)),σ=[some (.int κ.P),some (.ref a),some (.ref b),some (.ref fo),z4,z5,z6,z7,z8,z9]/\Same H H2/\H2 fo=some (.lst (ds.map V.ref))/\RowsX κ H2 ds X/\X.length=i/\(∀t,t<i->X.getD t []=(List.range n).map λj=>mlF n (ent R) (ent S) t j)/\fo∉ds/\∀z∈ds,H z=none) ⟨_,_,_,_,_,_,[],[],rfl,Sf,qf,.nil,rfl,(λt ht=>absurd ht (Nat.not_lt_zero t)),(λz=>nomatch z),λz hz=>nomatch hz⟩ ?_ ?_ ?_
  · rintro i σ H2-⟨z4,z5,z6,z7,z8,z9,ds,X,rfl,S2,-⟩
    exact SqL.of (S2 _ _ hA)
  · rintro i x σ H2 hx ⟨z4,z5,z6,z7,z8,z9,ds,X,rfl,S2,hF,rX,lX,eX,nf,fd⟩
    obtain ⟨ra,hra,rfl⟩:=ZaT hx
    have hi:i<n:=by have:=(Qf.mp hra).1; omega
    obtain ⟨f,hf⟩:=ZaL hra lr
    obtain ⟨xs,hxs,ax⟩:=rR.2 i ra f hra hf
    have ef:∀l,f.getD l 0=ent R i l:=λl=>by
      unfold ent
      rw[Zaw hf]
    have lf:f.length=n:=wR f (Q9 hf)
    refine ⟨(by show 0<=sizeLine; decide),λla nla=>?_⟩
    have Sl:=Zag nla (.lst [])
    have ql:=Zae (H:=H2) (a:=la) (o:=.lst [])
    have nlf:la≠fo:=λz=>by rw[z,hF] at nla; cases nla
    have nld:la∉ds:=rX.notin nla
    generalize upd H2 la (.lst [])=H3 at *
    obtain ⟨s0,hs0⟩:∃s0,ss[0]?=some s0:=⟨_,Q5 (by omega)⟩
    obtain ⟨f0,hf0⟩:=ZaL hs0 ls
    obtain ⟨x0,hx0,ax0⟩:=rS.2 0 s0 f0 hs0 hf0
    have l0:x0.length=n:=by rw[ax0.1]; exact wS f0 (Q9 hf0)
    have S03:=S2.trans Sl
    refine ⟨_,rfl,b,_,0,_,rfl,rfl,SqL.of (S03 _ _ hB),Zcr (i:=0) hs0,s0,_,rfl,.inl (SqL.of (S03 _ _ hx0)),(n:Int),(by rw[l0]),by omega,by omega,?_⟩
    rw[Q7]
    refine ZaP (lo:=0) (n:=n) (λj σ H4=>∃(z6 z7 z8 z9:Option V) (ys:List V),σ=[some (.int κ.P),some (.ref a),some (.ref b),some (.ref fo),some (.ref ra),some (.ref la),z6,z7,z8,z9]/\Off [la] H3 H4/\H4 la=some (.lst ys)/\AllG (NR κ H4) ys ((List.range j).map λj=>mlF n (ent R) (ent S) i j)) ⟨_,_,_,_,[],rfl,λ_ _ _ q=>q,ql,.nil⟩ ?_ ?_
    · rintro j σ H4 hj ⟨z6,z7,z8,z9,ys,rfl,O4,hla,ay⟩
      have S4:Same H H4:=Off.same O4 S03 λz hz=>by rw[Q3.mp hz]; exact S2.free nla
      refine ⟨_,rfl,κ,0,0,rfl,Zf1,λH5 v0 S5 n0=>?_⟩
      have S05:=S4.trans S5
      refine ⟨_,rfl,_,rfl,ra,b,rfl,⟨_,SqL.of (S05 _ _ hxs)⟩,⟨_,SqL.of (S05 _ _ hB)⟩,?_⟩
      refine Zhl (K:=K) (a:=ra) (b:=b) (xs:=xs) (ys:=ss.map V.ref) (λt σ H6=>∃(z8 z9:Option V) (u:V),σ=[some (.int κ.P),some (.ref a),some (.ref b),some (.ref fo),some (.ref ra),some (.ref la),some (.int (0+(j:Int))),some u,z8,z9]/\Same H5 H6/\t<=n/\NR κ H6 u (Sg (λl=>ent R i l*ent S l j) t)) ⟨_,_,v0,rfl,Same.refl _,Qd _,n0⟩ (λt σ H6 ⟨_,_,_,_,S6,_⟩=>⟨SqL.of ((S05.trans S6) _ _ hxs),SqL.of ((S05.trans S6) _ _ hB)⟩) ?_ ?_
      · rintro t x y Tp σ H6 hx hy nT ⟨z8,z9,u,rfl,S6,tn,nu⟩
        obtain ⟨sa,hsa,rfl⟩:=ZaT hy
        have ht:t<n:=by have:=(Qf.mp hsa).1; omega
        have ST:=Zag nT (.tup [x,.ref sa])
        have qT:=Zae (H:=H6) (a:=Tp) (o:=.tup [x,.ref sa])
        generalize upd H6 Tp (.tup [x,.ref sa])=H7 at *
        have S57:=S6.trans ST
        have S07:=S05.trans S57
        obtain ⟨vx,hvx,nx⟩:=ZcH ax (i:=t) (by omega)
        rw[hx] at hvx
        obtain rfl:=Option.some.inj hvx
        rw[ef] at nx
        obtain ⟨g,hg⟩:=ZaL hsa ls
        obtain ⟨ws,hws,aw⟩:=rS.2 t sa g hsa hg
        have lg:=wS g (Q9 hg)
        obtain ⟨vy,hvy,ny⟩:=ZcH aw (i:=j) (by omega)
        have eg:g.getD j 0=ent S t j:=by unfold ent; rw[Zaw hg]
        rw[eg] at ny
        refine ⟨Tp,[x,.ref sa],rfl,SqT.of qT,rfl,_,_,rfl,_,_,rfl,rfl,?_⟩
        refine ⟨_,rfl,_,rfl,_,rfl,_,rfl,_,rfl,_,rfl,sa,_,_,_,rfl,rfl,SqL.of (S07 _ _ hws),(by rw[Qq]; exact Za5 hvy),κ,x,vy,_,_,rfl,nx.same S07,ny.same S07,ZiC (e1 i t) pD.d (pD.b.up (by decide)) (Q6 pD.m (Qe (by decide) (by decide))),ZiC (e2 t j) pE.d (pE.b.up (by decide)) (Q6 pE.m (Qe (by decide) (by decide))),λH8 w8 S8 n8=>?_⟩
        refine ⟨κ,u,w8,_,_,rfl,(nu.same ST).same S8,n8,ZiC (pt i j t) hDE bDE (lMN t (by omega)),ZiC ((e1 i t).mul (e2 t j)) hDE bDE (by have:=lMN 1 (by decide); rwa [Ul] at this),λH9 w9 S9 n9=>?_⟩
        exact ⟨_,_,w9,rfl,S57.trans (S8.trans S9),ht,n9⟩
      · rintro t σ H6 et ⟨z8,z9,u,rfl,S6,tn,nu⟩
        have et:t=n:=by
          rw[et,Q0,ax.1,lf,ls,lS]
          exact Nat.min_self n
        subst et
        have S46:=S5.trans S6
        have hl6:=S46 _ _ hla
        refine ⟨_,rfl,.inl ⟨rfl,_,SqL.of hl6⟩,_,rfl,la,_,_,rfl,rfl,hl6,Q6 (show ys.length<1000 by rw[ay.1,Q0,W4]; omega) (by decide),?_⟩
        have Oa:Off [la] H6 (upd H6 la (.lst (ys++[u]))):=Zay (Same.refl H6)
        refine ⟨_,_,_,_,ys++[u],rfl,λz o nz q=>Oa z o nz (S46 _ _ (O4 z o nz q)),Zae,?_⟩
        rw[Ut,Qr]
        exact (ay.mono λ_ _ n=>(n.same S46).off hl6 Oa).append (.one (nu.off hl6 Oa))
    · rintro σ H4 ⟨z6,z7,z8,z9,ys,rfl,O4,hla,ay⟩
      have S4:Same H H4:=Off.same O4 S03 λz hz=>by rw[Q3.mp hz]; exact S2.free nla
      have S24:Same H2 H4:=Off.same O4 Sl λz hz=>by rw[Q3.mp hz]; exact nla
      have hF4:=S24 _ _ hF
      refine ⟨_,rfl,.inl ⟨rfl,_,SqL.of hF4⟩,_,rfl,fo,_,_,rfl,rfl,hF4,Q6 (show (ds.map V.ref).length<1000 by rw[Q0,rX.1]; omega) (by decide),?_⟩
      have Of:Off [fo] H4 (upd H4 fo (.lst (ds.map V.ref++[.ref la]))):=Zay (Same.refl H4)
      refine ⟨_,_,_,_,_,_,ds++[la],X++[(List.range n).map λj=>mlF n (ent R) (ent S) i j],rfl,Off.same Of S4 (λz hz=>by rw[Q3.mp hz]; exact nfo),by rw[Zae,Qr]; rfl,((rX.same S24).off nf hF4 Of).snoc (Of _ _ (λz=>nlf (Q3.mp z)) hla) (ay.mono λ_ _ n=>n.off hF4 Of),by rw[Qc,lX]; rfl,λt ht=>?_,λz=>?_,λz hz=>?_⟩
      · by_cases e:t=i
        · subst e
          rw[Q4,W3 (by omega),lX,U3]; rfl
        · rw[Q4,W2 (by omega),<-Q4]
          exact eX t (by omega)
      · rcases Qu.mp z with q | q
        · exact nf q
        · exact nlf (Q3.mp q).symm
      · rcases Qu.mp hz with q | q
        · exact fd z q
        · rw[Q3.mp q]; exact S2.free nla
  · rintro σ H2 ⟨z4,z5,z6,z7,z8,z9,ds,X,rfl,S2,hF,rX,lX,eX,nf,fd⟩
    rw[Q0,lr,lR] at lX eX
    have gd:∀f∈X,∃i<n,f=X.getD i []:=λf hf=>by
      obtain ⟨i,hi,e⟩:=Wy hf
      exact ⟨i,by omega,by rw[Zaw (Q5 hi)]; exact e.symm⟩
    refine ⟨_,rfl,k H2 fo ds X S2 hF rX lX (λf hf=>?_) (λi j hi hj=>?_) (λf hf x hx=>?_) nfo fd⟩
    · obtain ⟨i,hi,rfl⟩:=gd f hf
      rw[eX i hi,Q0,W4]
    · show (X.getD i []).getD j 0=_
      rw[eX i hi,Q4,Qh,Wj hj]
      rfl
    · obtain ⟨i,hi,rfl⟩:=gd f hf
      rw[eX i hi] at hx
      obtain ⟨j,_,rfl⟩:=W0.mp hx
      exact pt i j n
end
end My
namespace My
open PySem L2 PyProof.Rows Rg
theorem Zg9{K:PySem.W.Frag}{κ:KX}{a:Addr}{rs:List Addr}{R:List (List κ.F)}{te:TE}{σ:L2.St}{H:Hp}{QL:List V->Hp->Prop}(hT:H a=some (.lst (rs.map V.ref)))(rx:RowsX κ H rs R)(hl:R.length<=100)(hte:∀x H Q,(∃p ys,x = .ref p/\SqL K H p ys/\∀l,H l=none->Q (.ref l) (upd H l (.lst ys)))->te [some x] H Q)(k:∀cs H1,Same H H1->RowsX κ H1 cs R->QL (cs.map V.ref) H1):ZeD 1 [] (Zb6 0) te σ (Itl K a) H QL:=by
  have lr:=rx.1
  refine Zbx (K:=K) (a:=a) (xs:=rs.map V.ref) (λi ys H1=>∃cs:List Addr,ys=cs.map V.ref/\Same H H1/\RowsX κ H1 cs (R.take i)) (by rw[Q0]; omega) ⟨[],rfl,Same.refl _,by rw[List.take_zero]; exact .nil⟩ (λi ys H1 _ ⟨as,_,S,_⟩=>SqL.of (S _ _ hT)) ?_ ?_
  · rintro i x ys H1 hx hl' ⟨cs,rfl,S,ra⟩
    obtain ⟨r,ha,rfl⟩:=ZaT hx
    obtain ⟨f,hf⟩:=ZaL ha lr
    obtain ⟨xs,hxs,fl⟩:=rx.2 i r f ha hf
    refine hte _ _ _ ⟨r,xs,rfl,SqL.of (S _ _ hxs),λl nl=>?_⟩
    have Sl:=Zag nl (.lst xs)
    refine ⟨cs++[l],by rw[Qr]; rfl,S.trans Sl,?_⟩
    rw[W7,hf]
    exact (ra.same Sl).snoc Zae (fl.mono λ_ _ n=>n.same (S.trans Sl))
  · rintro ys H1 hl' ⟨cs,rfl,S,ra⟩
    rw[Q0,lr,U4] at ra
    exact k cs H1 S ra
structure Tq (κ:KX) (H:Hp) (n:Nat) (tl dl t:Addr) (rs:List Addr) (X:List (List κ.F)) (u:V) (d:κ.F) (p:Nat):Prop where
  l:H t=some (.lst (rs.map V.ref))
  r:RowsX κ H rs X
  len:X.length=n
  wd:Wid n X
  sz:SzM κ 360 p X
  nu:NR κ H u d
  ed:d=det n (ent X)
  su:SzU κ p d
  n1:tl∉rs
  n2:dl∉rs
  n3:t≠tl
  n4:t≠dl
theorem Tq.same{κ:KX}{H H':Hp}{n p:Nat}{tl dl t:Addr}{rs:List Addr}{X:List (List κ.F)}{u:V}{d:κ.F}(h:Tq κ H n tl dl t rs X u d p)(S:Same H H'):Tq κ H' n tl dl t rs X u d p:=⟨S _ _ h.l,h.r.same S,h.len,h.wd,h.sz,h.nu.same S,h.ed,h.su,h.n1,h.n2,h.n3,h.n4⟩
theorem Tq.off{κ:KX}{H H':Hp}{n p:Nat}{tl dl t b:Addr}{rs:List Addr}{X:List (List κ.F)}{u:V}{d:κ.F}{ys:List V}(h:Tq κ H n tl dl t rs X u d p)(hb:b=tl\/b=dl)(q:H b=some (.lst ys))(O:Off [b] H H'):Tq κ H' n tl dl t rs X u d p:=by
  have nb:b∉rs:=by rcases hb with e | e <;> rw[e]; exact h.n1; exact h.n2
  have nt:t≠b:=by rcases hb with e | e <;> rw[e]; exact h.n3; exact h.n4
  exact ⟨O _ _ (λz=>nt (Q3.mp z)) h.l,h.r.off nb q O,h.len,h.wd,h.sz,h.nu.off q O,h.ed,h.su,h.n1,h.n2,h.n3,h.n4⟩
theorem at2{f:Nat->V}:∀ {j:Nat},j<2->atI [f 0,f 1] (j:Int)=some (f j)
  | 0,_=>rfl
  | 1,_=>rfl
theorem Zp2{α:Type}{f:Nat->α}{x:α}:∀ {j:Nat},j<2->[f 0,f 1].set j x=[(λk=>if k=j then x else f k) 0,(λk=>if k=j then x else f k) 1]
  | 0,_=>rfl
  | 1,_=>rfl
theorem KdX.offK{CF CR:Addr}{κ:KX}{H H':Hp}{s b:Addr}(h:KdX CF CR κ H s)(ne:s≠b)(O:Off [b] H H'):KdX CF CR κ H' s:=by
  cases κ with
  | q=>obtain ⟨dx,h⟩:=h; exact ⟨dx,O _ _ (λz=>ne (Q3.mp z)) h⟩
  | r p hp=>obtain ⟨dx,h⟩:=h; exact ⟨dx,O _ _ (λz=>ne (Q3.mp z)) h⟩
theorem KdX.ne{CF CR:Addr}{κ:KX}{H:Hp}{s b:Addr}(h:KdX CF CR κ H s)(hb:H b=none):s≠b:=λz=>by
  cases κ with
  | q=>obtain ⟨dx,h⟩:=h; rw[z,hb] at h; cases h
  | r p hp=>obtain ⟨dx,h⟩:=h; rw[z,hb] at h; cases h
def Tz(κ:KX)(H:Hp)(n:Nat)(t:Addr)(u:V):Prop:=∃(rs:List Addr) (A:List (List κ.F)) (d:κ.F),H t=some (.lst (rs.map V.ref))/\RowsX κ H rs A/\A.length=n/\Wid n A/\SzD κ A/\NR κ H u d/\d=det n (ent A)
theorem Tz.same{κ:KX}{H H':Hp}{n:Nat}{t:Addr}{u:V}(h:Tz κ H n t u)(S:Same H H'):Tz κ H' n t u:=by
  obtain ⟨rs,A,d,h1,h2,h3,h4,h5,h6,h7⟩:=h
  exact ⟨rs,A,d,S _ _ h1,h2.same S,h3,h4,h5,h6.same S,h7⟩
theorem Tq.tz{κ:KX}{H:Hp}{n p:Nat}{tl dl t:Addr}{rs:List Addr}{X:List (List κ.F)}{u:V}{d:κ.F}(h:Tq κ H n tl dl t rs X u d p)(hp:p<=64)(h4:κ = .q->n<=4):Tz κ H n t u:=⟨rs,X,d,h.l,h.r,h.len,h.wd,h.sz.szd hp (by decide) (λe=>by rw[h.len]; exact h4 e),h.nu,h.ed⟩
theorem SzM.pz{κ:KX}{p:Nat}{R:List (List κ.F)}(h:SzM κ 360 p R)(hp:p<=32):∃D:Int,0<D/\D<=60*3^32/\AllR (QM κ D (360*3^32)) R/\Pz κ D (360*3^32):=by
  obtain ⟨D,hD,l,al⟩:=h
  have e:(60*3^p:Int)=((60*3^p:Nat):Int):=by rw[Wl,Int.natCast_pow]; rfl
  have p3:3^p<=3^32:=Qe (by decide) hp
  have p60:60*3^p<=60*3^32:=Wr _ p3
  rw[e] at l
  have l2:D<=((60*3^32:Nat):Int):=by omega
  refine ⟨D,hD,l2,λf hf x hx=>(al f hf x hx).mono (Wr _ p3),hD,Bits.of (Qk (show D.natAbs<=60*3^32 by omega) (by decide)),by decide⟩
theorem Zmi{κ:KX}{n:Nat}{D E:Int}{T:List (List κ.F)}(d0:0<D)(e0:0<E)(dl:D<=60*3^32)(el:E<=60*3^32)(q:AllR (QM κ (D*E) (n*((360*3^32)*(360*3^32)))) T)(lT:T.length=n)(h4:κ = .q->n<=4):SzD κ T:=λz=>by
  have n4:=h4 z
  refine ⟨by omega,D*E,4*((360*3^32)*(360*3^32)),Qm d0 e0,?_,by decide,λf hf x hx=>(q f hf x hx).mono (Ws _ n4)⟩
  have a:Bits 90 D:=Bits.of (Qk (show D.natAbs<=60*3^32 by omega) (by decide))
  have b:Bits 90 E:=Bits.of (Qk (show E.natAbs<=60*3^32 by omega) (by decide))
  exact (a.times b).up (by decide)
end My
namespace My
open PySem L2 PyProof.Rows Rg
section
variable{P:Program}{w:World}{K:PySem.W.Frag}{mg:Str->Option Value}{base:Heap}{CF CR cF:Addr}
theorem sc_l_told:FnScope ["_law_kind_here", "_law_prime_here", "_law_table", "_law_due_here", "_law_way", "_law_kept", "_law_k", "_law_found"] ["_law_kind_here", "_law_prime_here", "_law_table", "_law_due_here", "_law_way"] (Zah ZfR):=⟨rfl,rfl,rfl,by decide +kernel,rfl,by decide +kernel,by decide +kernel⟩
theorem Zh6{J:Nat}(h:Here K mg "_law_told" ZfR) (T:Nm mg) (h_by_steps:HasX P w K mg base "by_steps" J ["kind", "table"] (Zdj CF CR cF)) (h_by_minors:HasX P w K mg base "by_minors" J ["kind", "table"] (ZcJ CF CR cF)) (h_without:HasX P w K mg base "without" J ["kind", "table"] (Zd7 CF CR cF)) (h_l_number_is:Has P w K mg base "_law_number_is" J ["_law_prime_here", "_law_found", "_law_due_here"] ZbN):Has P w K mg base "_law_told" (J+1) ["_law_kind_here", "_law_prime_here", "_law_table", "_law_due_here", "_law_way"] (Zdo CF CR):=by
  refine h.has (λf fd F=>F.binds λ_ _ _ _ _ _ us hl=>by obtain ⟨_,_,_,_,_,rfl⟩:=Zqv hl; exact rfl) λf fd F=>F.ok sc_l_told (λvs H Q E h=>?_) (λcdv A outer s H vs Q E hr h=>?_)
  · obtain ⟨_,_,_,_,_,_,_,_,_,rfl,_⟩:=h
    rfl
  obtain ⟨κ,sk,ta,u,d,rs,A,n,wy,rfl,hk,hT,rx,lA,wA,n1,n7,sz,nu,ed,k⟩:=h
  have nd:=sc_l_told.nd
  refine ⟨_,(Zab (ZbJ (i:=5) ["_law_row"] [] nd rfl rfl rfl (Zbi (pv 2)) (by exact λ_ _ _ _=>(Zat (i:=0) (show (["_law_row"]:List Str).Nodup by decide +kernel) rfl (Or.inl rfl))) (by exact λ_ _ _ _=>(Zca (Zdu K rfl) (by rfl) T.list boot_list (Zaa (pv 0) Zad))) trivial)
    (Zab (Za7 PassesOwn.never rfl (ZaJ (by rfl) T.range (Zaa Zac Zad)) (Zat (i:=6) nd rfl (Or.inl rfl)) (Zab (ZaF (Zaq Za8 (Zai ZaQ (Zai ZaY (pv 4) (pv 6)) Zac) Zac (Zar _)) (Zaf (Zaj (i:=7) nd rfl (Or.inl rfl) (ZdM h_by_steps ZcY hr (by rfl) (Zaa (pv 0) (Zaa (pv 2) Zad))))) (Zaf (ZaF (Zaq Za8 (Zai ZaQ (Zai ZaY (pv 4) (pv 6)) Zac) Zac (Zar _)) (Zaf (Zaj (i:=7) nd rfl (Or.inl rfl) (ZdM h_by_minors ZcY hr (by rfl) (Zaa (pv 0) (Zaa (pv 2) Zad))))) (Zaf (Zaj (i:=7) nd rfl (Or.inl rfl) (ZdM h_without ZcY hr (by rfl) (Zaa (pv 0) (Zaa (pv 2) Zad))))))))
      (Zaf (ZaF (Zdr (Zdq (Zao h_l_number_is hr (by rfl) (Zaa (pv 1) (Zaa (pv 7) (Zaa (pv 3) Zad)))))) (Zaf (Zam Zgq)) Zav))))
    (Zaf (Zam (Zbz (ZjY hr) (pv 2) (pv 5) (Zar _)))))),?_⟩
  refine ⟨_,rfl,ta,rfl,⟨_,SqL.of hT⟩,?_⟩
  refine Zg9 hT rx (by omega) (λx H Q ⟨p,ys,e,sq,k⟩=>⟨_,rfl,p,ys,by rw[e],.inl sq,k⟩) λcs H1 S1 rc=>?_
  intro tb ntb
  have Sb:=Zag ntb (.lst (cs.map V.ref))
  have qb:=Zae (H:=H1) (a:=tb) (o:=.lst (cs.map V.ref))
  have rc2:=rc.same Sb
  generalize upd H1 tb (.lst (cs.map V.ref))=H2 at *
  have S02:=S1.trans Sb
  refine ⟨(3:Int),rfl,by decide,by decide,?_⟩
  rw[show (3:Int).toNat=3 from rfl]
  refine ZaP (lo:=0) (n:=3) (λi σ H3=>∃z6 z7:Option V,σ=[some (.ref sk),some (.int κ.P),some (.ref ta),some u,some (.int wy),some (.ref tb),z6,z7]/\Same H2 H3) ⟨_,_,rfl,Same.refl _⟩ ?_ ?_
  · rintro i σ H3 hi ⟨z6,z7,rfl,S3⟩
    have S03:=S02.trans S3
    have tr:TabR κ H3 ta rs A n:=⟨S03 _ _ hT,rx.same S03,wA,by omega,by omega⟩
    refine Zla (λσ H4=>∃v:V,σ=[some (.ref sk),some (.int κ.P),some (.ref ta),some u,some (.int wy),some (.ref tb),some (.int (0+(i:Int))),some v]/\Same H3 H4/\NR κ H4 v (det n (ent A))) (λN' kk=>?_) ?_
    · refine ⟨_,rfl,_,rfl,_,_,rfl,rfl,_,_,rfl,rfl,(by show (0:Int)<_; decide),rfl,_,rfl,?_⟩
      refine Zbv (λ_=>?_) (λ_=>?_)
      · exact ⟨_,rfl,_,rfl,κ,sk,ta,rs,A,n,rfl,hk.same S03,tr,(λz=>absurd lA z),λ_=>⟨n7,sz,λH4 v S4 nv=>kk _ _ ⟨v,rfl,S4,nv⟩⟩⟩
      refine ⟨_,rfl,_,rfl,_,_,rfl,rfl,_,_,rfl,rfl,(by show (0:Int)<_; decide),rfl,_,rfl,?_⟩
      refine Zbv (λ_=>?_) (λ_=>?_)
      · exact ⟨_,rfl,_,rfl,κ,sk,ta,rs,A,n,rfl,hk.same S03,tr,(λz=>absurd lA z),λ_=>⟨n7,(λz=>by have:=(sz z).1; omega),sz,λH4 v S4 nv=>kk _ _ ⟨v,rfl,S4,nv⟩⟩⟩
      · exact ⟨_,rfl,_,rfl,κ,sk,ta,rs,A,n,rfl,hk.same S03,tr,(λz=>absurd lA z),λ_=>⟨n7,sz,λH4 v S4 nv=>kk _ _ ⟨v,rfl,S4,nv⟩⟩⟩
    · rintro σ H4 ⟨v,rfl,S4,nv⟩
      refine ⟨_,rfl,_,rfl,_,rfl,κ,v,u,d,rfl,(by rw[ed]; exact nv),nu.same (S03.trans S4),_,rfl,Zji ?_⟩
      exact ⟨_,_,rfl,S3.trans S4⟩
  · rintro σ H3 ⟨z6,z7,rfl,S3⟩
    have S03:=S02.trans S3
    exact ⟨_,rfl,_,rfl,_,((rx.same S03).rp (S03 _ _ hT)).mono (by decide),((rc2.same S3).rp (S3 _ _ qb)).mono (by decide),k H3 S03⟩
end
end My
namespace My
open PySem L2 PyProof.Rows Rg
theorem Zfh{t u:TS}{D:Ends}{σ:L2.St}{H:Hp}(h:∀N:L2.St->Hp->Prop,(∀σ H,u D σ H->N σ H)->t { D with nx:=N } σ H):ZnX t u D σ H:=h _ λ_ _ h=>h
theorem ZmL{t u:TS}{D:Ends}{i:Nat}{v:V}{σ:L2.St}{H:Hp}{N:L2.St->Hp->Prop}(k:∀σ H,ZnX t u D σ H->N σ H)(h:∀N',(∀σ H,u D σ H->N' σ H)->t { D with nx:=N' } (σ.set i (some v)) H):Zb6 i v σ H N:=k _ _ (h _ λ_ _ h=>h)
theorem ZpL{κ:KX}(a b:Nat)(ha:1<=a)(ha7:a<=7)(hb:1<=b)(hb7:b<=7):∃mo:Nat,atI [V.int (a:Int),V.int (b:Int)] (if decide ((0:Int)<κ.P)=true then 1 else 0)=some (.int (mo:Int))/\1<=mo/\mo<=7/\(κ = .q->mo<=a):=by
  cases κ with
  | q=>exact ⟨a,rfl,ha,ha7,λ_=>Q1 a⟩
  | r p hp=>rw[if_pos (decide_eq_true ZgV)]; exact ⟨b,rfl,hb,hb7,λz=>nomatch z⟩
theorem ZnV{mo:Nat}(h:1<=mo)(e:Int):∃n:Nat,1+e.fmod (mo:Int)=(n:Int)/\1<=n/\n<=mo:=by
  obtain ⟨i,ei,li⟩:=ZhC (a:=e) h
  exact ⟨i+1,by rw[ei]; omega,by omega,by omega⟩
inductive sp_law (K:PySem.W.Frag) (vs:List V) (H:Hp) (Q:VK) (zE:XK):Prop
  | mk (a:Addr) (ns:List Int) (_:vs=[.ref a]) (_:SqL K H a (ns.map V.int)) (_:ns.length<=63) (_:(∀i∈ns,Bits 1048576 i)) (_:∀H',Q (.bl true) H'):sp_law K vs H Q zE
section
variable{P:Program}{w:World}{K:PySem.W.Frag}{mg:Str->Option Value}{base:Heap}{CF CR:Addr}
theorem sc_law:FnScope ["_law_script", "_law_cells", "_law_prime_here", "_law_kind_here", "_law_rows", "_law_tables", "_law_dues", "_law_k", "_law_turn_here", "_law_way", "_law_table", "_law_due_here"] ["_law_script"] (Zah Zno):=⟨rfl,rfl,rfl,by decide +kernel,rfl,by decide +kernel,by decide +kernel⟩
theorem Zo2{f:Addr}{fd:FuncData}(F:Fun K "law" "law" Zno f fd) (T:Nm mg) (Tz_:mg "zip" = none) (h_l_prime:Has P w K mg base "_law_prime" 11 ["_law_cell"] Zdn) (h_l_kind:Has P w K mg base "_law_kind" 11 ["_law_prime_here"] (Zfg CF CR)) (h_l_begun:Has P w K mg base "_law_begun" 11 ["_law_prime_here", "_law_cells", "_law_rows", "_law_far"] ZcL) (h_l_first:Has P w K mg base "_law_first" 11 ["_law_prime_here", "_law_table"] ZcM) (h_l_times:Has P w K mg base "_law_times" 11 ["_law_prime_here", "_law_one", "_law_other"] (Zbt λ_ x y=>x*y)) (h_l_turn:Has P w K mg base "_law_turn" 11 ["_law_prime_here", "_law_cell", "_law_rows"] Zdi) (h_l_behind:Has P w K mg base "_law_behind" 11 ["_law_prime_here", "_law_table", "_law_turn_here"] Zco) (h_l_due:Has P w K mg base "_law_due" 11 ["_law_prime_here", "_law_due_here", "_law_turn_here"] Zgk) (h_l_product:Has P w K mg base "_law_product" 11 ["_law_prime_here", "_law_one", "_law_other"] Zb5) (h_l_told:Has P w K mg base "_law_told" 11 ["_law_kind_here", "_law_prime_here", "_law_table", "_law_due_here", "_law_way"] (Zdo CF CR)):FnOk P w K mg base CX0 12 f fd ["_law_script"] (sp_law K):=by
  refine F.ok sc_law (λvs H Q E h=>?_) (λcdv A outer s H vs Q E hr h=>?_)
  · obtain ⟨_,_,rfl,_⟩:=h
    rfl
  obtain ⟨a,ns,rfl,hS,hl,hb,k⟩:=h
  have nd:=sc_law.nd
  refine ⟨_,(Zab (Zaj (i:=1) nd rfl (Or.inl rfl) (Zai Zoh (ZbU ZdK (pv 0) Zc5 (Zcf Zac)) (Zb9 (Zaa Zac Zad))))
    (Zab (Zaj (i:=2) nd rfl (Or.inr rfl) (Zao h_l_prime hr (by rfl) (Zaa (Zak Zau (pv 1) Zac (λ_ _=>rfl)) Zad)))
    (Zab (Zaj (i:=3) nd rfl (Or.inl rfl) (Zao h_l_kind hr (by rfl) (Zaa (pv 2) Zad)))
    (Zab (Zaj (i:=4) nd rfl (Or.inl rfl) (Zai ZaY Zac (Zai ZaD (Zai ZaQ (Zai Zb7 (Zak Zau (pv 1) Zac (λ_ _=>rfl)) Zac) Zac) (Zak Zau (Zb9 (Zaa Zac (Zaa Zac Zad))) (Zca Zgu (by rfl) T.int boot_int (Zaa (Zbz ZfA (pv 2) Zac (Zar _)) Zad)) (λ_ _=>rfl)))))
    (Zab (Zaj (i:=5) nd rfl (Or.inl rfl) (Zb9 (Zaa (Zao h_l_begun hr (by rfl) (Zaa (pv 2) (Zaa (pv 1) (Zaa (pv 4) (Zaa Zac Zad))))) (Zaa (Zao h_l_begun hr (by rfl) (Zaa (pv 2) (Zaa (pv 1) (Zaa (pv 4) (Zaa Zac Zad))))) Zad))))
    (Zab (ZbJ (i:=6) ["_law_table"] [(2, "_law_prime_here")] nd rfl rfl rfl (Zbi (pv 5)) (by exact λ_ _ _ _=>(Zat (i:=0) (show (["_law_table", "_law_prime_here"]:List Str).Nodup by decide +kernel) rfl (Or.inl rfl))) (by exact λ_ _ _ _=>(Zao h_l_first hr (by rfl) (Zaa (pv 1) (Zaa (pv 0) Zad)))) ⟨⟨rfl,rfl,Or.inl rfl⟩,trivial⟩)
    (Zab (Za7 PassesOwn.never rfl (ZaJ (by rfl) T.range (Zaa (Zas Zan (by rfl) T.len boot_len (Zaa (pv 1) Zad)) Zad)) (Zat (i:=7) nd rfl (Or.inl rfl)) (Zab (Zaj (i:=8) nd rfl (Or.inl rfl) (Zao h_l_turn hr (by rfl) (Zaa (pv 2) (Zaa (Zak Zau (pv 1) (pv 7) (λ_ _=>rfl)) (Zaa (pv 4) Zad)))))
      (Zab (Zcq (Zao h_l_behind hr (by rfl) (Zaa (pv 2) (Zaa (Zak Zau (pv 5) (Zai ZaQ (pv 7) Zac) (λ_ _=>rfl)) (Zaa (pv 8) Zad)))) (Zcp (pv 5) (Zai ZaQ (pv 7) Zac) Zba))
      (Zaf (Zcq (Zao h_l_due hr (by rfl) (Zaa (pv 2) (Zaa (Zak Zau (pv 6) (Zai ZaQ (pv 7) Zac) (λ_ _=>rfl)) (Zaa (pv 8) Zad)))) (Zcp (pv 6) (Zai ZaQ (pv 7) Zac) Zba))))))
    (Zab (ZaO (ZfD PySem.F.plainAttrs_list PySem.F.slot_list_append PySem.F.type_list_append Zbc (pv 5) (Zaa (Zao h_l_product hr (by rfl) (Zaa (pv 2) (Zaa (Zak Zau (pv 5) Zac (λ_ _=>rfl)) (Zaa (Zak Zau (pv 5) Zac (λ_ _=>rfl)) Zad)))) Zad)))
    (Zab (ZaO (ZfD PySem.F.plainAttrs_list PySem.F.slot_list_append PySem.F.type_list_append Zbc (pv 6) (Zaa (Zao h_l_times hr (by rfl) (Zaa (pv 2) (Zaa (Zak Zau (pv 6) Zac (λ_ _=>rfl)) (Zaa (Zak Zau (pv 6) Zac (λ_ _=>rfl)) Zad)))) Zad)))
    (Zab (Zaj (i:=9) nd rfl (Or.inl rfl) (Zai ZaQ (Zai ZaQ (Zai Zb7 (Zak Zau (pv 1) (Zai Zhe (Zas Zan (by rfl) T.len boot_len (Zaa (pv 1) Zad)) Zac) (λ_ _=>rfl)) Zac) Zac) Zac))
    (Zab (Za7 PassesOwn.never rfl (Zfv (by rfl) Tz_ (Zaa (pv 5) (Zaa (pv 6) Zad))) (Zh9 rfl (ZaX (Zat (i:=10) nd rfl (Or.inl rfl)) (ZaX (Zat (i:=11) nd rfl (Or.inl rfl)) Zc4))) (Zaf (ZaF (Zdr (Zdq (Zao h_l_told hr (by rfl) (Zaa (pv 3) (Zaa (pv 2) (Zaa (ZbL ["_law_row"] [] rfl (Zbi (pv 10)) (by exact λ_ _ _ _=>(Zat (i:=0) (show (["_law_row"]:List Str).Nodup by decide +kernel) rfl (Or.inl rfl))) (by exact λ_ _ _ _=>(Zca (Zdu K rfl) (by rfl) T.list boot_list (Zaa (pv 0) Zad))) trivial) (Zaa (pv 11) (Zaa (pv 9) Zad)))))))) (Zaf (Zam Zgq)) Zav)))
    (Zaf (Zam Zgq))))))))))))),?_⟩
  refine Zfh λN1 k1=>?_
  refine ⟨_,rfl,63,rfl,a,_,rfl,hS,λp hp=>?_⟩
  refine ⟨(by show 1<=sizeLine; decide),λq hq=>?_⟩
  obtain ⟨cs,ec,l1,l2,bc⟩:∃cs:List Int,Zfs (ns.map V.int) none (some 63)++[.int 0]=cs.map V.int/\1<=cs.length/\cs.length<=64/\∀i∈cs,Bits 1048576 i:=by
    refine ⟨ns.take 63++[0],?_,?_,?_,λi hi=>?_⟩
    · have e:=ZcE (ns.map V.int) 63
      rw[<-Us] at e
      rw[Qr]
      exact congrArg (· ++ [V.int 0]) e
    · rw[Qc]; show 1<=_+1; omega
    · rw[Qc,Ql]; show _+1<=64; omega
    · rcases Qu.mp hi with h | h
      · exact hb i (Wb h)
      · rw[Q3.mp h]; exact Qd _
  refine ⟨p,q,_,_,rfl,rfl,by rw[Zap (Zaz Zae hq)]; exact Zae,Zae,?_,λc hc=>?_⟩
  · have z:=congrArg List.length ec
    rw[Qc,Q0] at z
    have z2:(65:Nat)<=sizeLine:=by decide
    show _+1<=sizeLine
    have z3:(Zfs (ns.map V.int) none (some 63)).length+1=cs.length:=z
    omega
  rw[ec]
  generalize hH0:upd (upd (upd H p (.lst (Zfs (ns.map V.int) none (some 63)))) q (.lst [.int 0])) c (.lst (cs.map V.int))=H0
  have hc0:H0 c=some (.lst (cs.map V.int)):=by rw[<-hH0]; exact Zae
  have ce:Ce H0 c cs:=⟨hc0,l1,by omega,bc⟩
  have c0:atI (cs.map V.int) 0=some (.int cs[0]):=ZgT (i:=0) (by omega)
  refine ZmL k1 λN2 k2=>?_
  refine ⟨_,rfl,_,_,_,_,rfl,rfl,SqL.of hc0,c0,_,rfl,λH1 pr S1 pk=>?_⟩
  refine ZmL k2 λN3 k3=>?_
  refine ⟨_,rfl,pr,rfl,pk,λH2 kk S2 kd2=>?_⟩
  have ce2:=(ce.same S1).same S2
  obtain ⟨κ,rfl,kx2⟩:=ZoE kd2
  obtain ⟨mo,emo,mo1,mo7,mo4⟩:=ZpL (κ:=κ) 4 7 (by decide) (by decide) (by decide) (by decide)
  refine ZmL k3 λN4 k4=>?_
  refine ⟨_,rfl,c,_,0,_,rfl,rfl,SqL.of ce2.l,c0,_,_,rfl,rfl,.inr ⟨by decide,by decide⟩,_,_,rfl,rfl,(by show (0:Int)<_; decide),(by show 2<=sizeLine; decide),λl47 n47=>?_⟩
  have S47:=Zag n47 (.lst [.int 4,.int 7])
  have q47:=Zae (H:=H2) (a:=l47) (o:=.lst [.int 4,.int 7])
  generalize upd H2 l47 (.lst [.int 4,.int 7])=H3 at *
  have ce3:=ce2.same S47
  refine ⟨_,rfl,_,_,rfl,rfl,.inr ⟨_,rfl,l47,_,_,_,rfl,rfl,SqL.of q47,emo,_,_,rfl,rfl,(show (mo:Int)≠0 by omega),_,_,rfl,rfl,?_⟩⟩
  obtain ⟨n,en,n1,nmo⟩:=ZnV mo1 (cs[0]*48271%65537)
  show Zb6 4 (V.int ((1:Int)+(cs[0]*48271%65537).fmod (mo:Int))) _ H3 N4
  rw[en]
  refine ZmL k4 λN5 k5=>?_
  have n7:n<=7:=by omega
  have q4:κ = .q->n<=4:=λe=>by have:=mo4 e; omega
  have kx3:=kx2.same S47
  clear hH0 ec emo en q47 kd2 hc0 ce ce2 pk
  refine ⟨_,rfl,_,rfl,_,rfl,κ,c,cs,n,0,rfl,ce3,n1,n7,by decide,λH4 t0 rs0 R0 S4 hT0 rx0 l0 w0 low0 q0=>?_⟩
  refine ⟨_,rfl,_,rfl,_,rfl,κ,c,cs,n,29,rfl,ce3.same S4,n1,n7,by decide,λH5 t1 rs1 R1 S5 hT1 rx1 l1' w1 low1 q1=>⟨(by show 2<=sizeLine; decide),λtl ntl=>?_⟩⟩
  have hT05:=S5 _ _ hT0
  have rx05:=rx0.same S5
  have nt0:t0≠tl:=λz=>by rw[z,ntl] at hT05; cases hT05
  have nt1:t1≠tl:=λz=>by rw[z,ntl] at hT1; cases hT1
  have nr0:=rx05.notin ntl
  have nr1:=rx1.notin ntl
  have kx5:=(kx3.same S4).same S5
  have ce5:=(ce3.same S4).same S5
  have nkt:kk≠tl:=kx5.ne ntl
  have nct:c≠tl:=λz=>by have:=ce5.l; rw[z,ntl] at this; cases this
  have Stl:=Zag ntl (.lst [.ref t0,.ref t1])
  have qtl:=Zae (H:=H5) (a:=tl) (o:=.lst [.ref t0,.ref t1])
  generalize upd H5 tl (.lst [.ref t0,.ref t1])=H6 at *
  have tb:∀(i:Nat) (x:V),[V.ref t0,V.ref t1][i]?=some x->∃(ti:Addr) (rsi:List Addr) (Ri:List (List κ.F)),Ri=(if i=0 then R0 else R1)/\x = .ref ti/\H6 ti=some (.lst (rsi.map V.ref))/\RowsX κ H6 rsi Ri/\Ri.length=n/\Wid n Ri/\AllR (QM κ 60 360) Ri
    | 0,x,hx=>by cases hx; exact ⟨t0,rs0,R0,rfl,rfl,Stl _ _ hT05,rx05.same Stl,l0,w0,q0⟩
    | 1,x,hx=>by cases hx; exact ⟨t1,rs1,R1,rfl,rfl,Stl _ _ hT1,rx1.same Stl,l1',w1,q1⟩
    | i+2,x,hx=>by simp at hx
  refine ZmL k5 λN6 k6=>?_
  refine ⟨_,rfl,tl,rfl,⟨_,SqL.of qtl⟩,?_⟩
  refine Zbx (K:=K) (a:=tl) (xs:=[.ref t0,.ref t1]) (λi ys H7=>Same H6 H7/\ys.length=i/\∀j,j<i->∃u,ys[j]?=some u/\NR κ H7 u (Zb4 (ent (if j=0 then R0 else R1)) n)/\SzU κ 0 (Zb4 (ent (if j=0 then R0 else R1)) n)) (show 2<=1000 by decide) ⟨Same.refl _,rfl,λj hj=>absurd hj (Nat.not_lt_zero j)⟩ (λi ys H7 _ q=>SqL.of (q.1 _ _ qtl)) ?_ ?_
  · rintro i x ys H7 hx _ ⟨S7,ly,us⟩
    obtain ⟨ti,rsi,Ri,eR,rfl,hTi,rxi,li,wi,qi⟩:=tb i x hx
    subst eR
    refine ⟨_,rfl,_,rfl,κ,ti,rsi,_,n,rfl,S7 _ _ hTi,rxi.same S7,li,wi,n7,q4,qi,λH8 v S8 nv sv=>⟨S7.trans S8,by rw[Qc,ly]; rfl,λj hj=>?_⟩⟩
    by_cases e:j=i
    · subst e
      exact ⟨v,by rw[W3 (by omega),ly,U3]; rfl,nv,sv⟩
    · obtain ⟨u,hu,nu,su⟩:=us j (by omega)
      exact ⟨u,by rw[W2 (by omega)]; exact hu,nu.same S8,su⟩
  rintro ys H7 _ ⟨S7,ly,us⟩ dl ndl
  obtain ⟨u0,hu0,nu0,su0⟩:=us 0 (show 0<2 by decide)
  obtain ⟨u1,hu1,nu1,su1⟩:=us 1 (show 1<2 by decide)
  have ey:ys=[u0,u1]:=by
    match ys,ly,hu0,hu1 with
    | [x,y],_,h0,h1=>cases h0; cases h1; rfl
  subst ey
  have hT07:=S7 _ _ (Stl _ _ hT05)
  have hT17:=S7 _ _ (Stl _ _ hT1)
  have rx07:=(rx05.same Stl).same S7
  have rx17:=(rx1.same Stl).same S7
  have qtl7:=S7 _ _ qtl
  have nkd:kk≠dl:=((kx5.same Stl).same S7).ne ndl
  have ncd:c≠dl:=λz=>by have:=((ce5.same Stl).same S7).l; rw[z,ndl] at this; cases this
  have nd0:t0≠dl:=λz=>by rw[z,ndl] at hT07; cases hT07
  have nd1:t1≠dl:=λz=>by rw[z,ndl] at hT17; cases hT17
  have ntd:tl≠dl:=λz=>by rw[z,ndl] at qtl7; cases qtl7
  have dr0:=rx07.notin ndl
  have dr1:=rx17.notin ndl
  have Sdl:=Zag ndl (.lst [u0,u1])
  have qdl:=Zae (H:=H7) (a:=dl) (o:=.lst [u0,u1])
  generalize upd H7 dl (.lst [u0,u1])=H8 at *
  have S38:Same H3 H8:=S4.trans (S5.trans (Stl.trans (S7.trans Sdl)))
  have ce8:=ce3.same S38
  have kx8:=kx3.same S38
  have sz0:∀ {R:List (List κ.F)},AllR (QM κ 60 360) R->SzM κ 360 0 R:=λq=>⟨60,by decide,by decide,by rw[Nat.pow_zero,Nat.mul_one]; exact q⟩
  have tq0:Tq κ H8 n tl dl t0 rs0 R0 u0 (Zb4 (ent R0) n) 0:=⟨Sdl _ _ hT07,rx07.same Sdl,l0,w0,sz0 q0,nu0.same Sdl,(Ze6 low0).symm,su0,nr0,dr0,nt0,nd0⟩
  have tq1:Tq κ H8 n tl dl t1 rs1 R1 u1 (Zb4 (ent R1) n) 0:=⟨Sdl _ _ hT17,rx17.same Sdl,l1',w1,sz0 q1,nu1.same Sdl,(Ze6 low1).symm,su1,nr1,dr1,nt1,nd1⟩
  have mp0:MP n (ent R0):=Zo0 low0
  have qtl8:=Sdl _ _ qtl7
  clear hT0 hT05 hT07 hT1 hT17 rx0 rx05 rx07 rx1 rx17 nu0 nu1 us tb qtl qtl7 hu0 hu1 ce3 kx2 kx3 kx5 ce5
  refine ZmL k6 λN7 k7=>?_
  refine ⟨_,rfl,c,_,rfl,.inl (SqL.of ce8.l),_,rfl,?_⟩
  rw[Q0]
  refine ⟨by omega,by omega,?_⟩
  rw[Q7]
  refine ZaP (lo:=0) (n:=cs.length) (λi σ Ha=>∃(z7 z8:Option V) (tt:Nat->Addr) (rr:Nat->List Addr) (XX:Nat->List (List κ.F)) (uu:Nat->V) (dd:Nat->κ.F),σ=[some (.ref a),some (.ref c),some (.int κ.P),some (.ref kk),some (.int (n:Int)),some (.ref tl),some (.ref dl),z7,z8,none,none,none]/\Ce Ha c cs/\KdX CF CR κ Ha kk/\Ha tl=some (.lst [.ref (tt 0),.ref (tt 1)])/\Ha dl=some (.lst [uu 0,uu 1])/\(∀j,j<2->Tq κ Ha n tl dl (tt j) (rr j) (XX j) (uu j) (dd j) ((i+1-j)/2))/\MP n (ent (XX 0))) ⟨_,_,λj=>if j=0 then t0 else t1,λj=>if j=0 then rs0 else rs1,λj=>if j=0 then R0 else R1,λj=>if j=0 then u0 else u1,λj=>if j=0 then Zb4 (ent R0) n else Zb4 (ent R1) n,rfl,ce8,kx8,qtl8,qdl,(λj hj=>by
    rcases (by omega:j=0\/j=1) with rfl | rfl
    · exact tq0
    · exact tq1),mp0⟩ ?_ ?_
  · rintro i σ Ha hi ⟨z7,z8,tt,rr,XX,uu,dd,rfl,cea,kxa,htl,hdl,tq,mp⟩
    refine Zfh λM1 m1=>?_
    refine ⟨_,rfl,_,rfl,_,rfl,c,_,_,_,rfl,rfl,SqL.of cea.l,(by rw[Qq]; exact ZgT hi),_,rfl,κ,cs[i],n,rfl,n1,n7,λHb tv t Sb tr okt t3=>?_⟩
    obtain ⟨j,hj⟩:∃j,j=i%2:=⟨_,rfl⟩
    have j2:j<2:=by omega
    have ej:(0+(i:Int))%2=(j:Int):=by omega
    have tj:=(tq j j2).same Sb
    have htlb:=Sb _ _ htl
    have hdlb:=Sb _ _ hdl
    have okR:t.ok (XX j).length:=by rw[tj.len]; exact okt
    have pj:(i+1-j)/2<=64:=by omega
    refine ZmL m1 λM2 m2=>?_
    refine ⟨_,rfl,_,rfl,_,rfl,_,_,rfl,rfl,(by show (0:Int)<_; decide),tl,_,_,_,rfl,rfl,SqL.of htlb,(by rw[ej]; exact at2 (f:=λk=>V.ref (tt k)) j2),_,rfl,κ,tt j,rr j,XX j,tv,t,rfl,tj.l,tj.r,by rw[tj.len]; omega,(λf hf=>by rw[tj.wd f hf]; omega),tr,okR,tj.sz.pre pj (by decide) t3,λHd D2 ds Sd hD2 fD fr rD2=>?_⟩
    have htld:=Sd _ _ htlb
    refine ⟨_,rfl,_,rfl,_,_,rfl,rfl,(by show (0:Int)<_; decide),tl,_,_,j,rfl,rfl,htld,(by rw[ej]; exact Zbp (Int.natCast_nonneg _) (by show (j:Int)<2; omega)),?_⟩
    rw[Zp2 (f:=λk=>V.ref (tt k)) j2]
    have O1:Off [tl] Hd (upd Hd tl (.lst [(λk=>if k=j then V.ref D2 else V.ref (tt k)) 0,(λk=>if k=j then V.ref D2 else V.ref (tt k)) 1])):=Zay (Same.refl Hd)
    have qt1:=Zae (H:=Hd) (a:=tl) (o:=.lst [(λk=>if k=j then V.ref D2 else V.ref (tt k)) 0,(λk=>if k=j then V.ref D2 else V.ref (tt k)) 1])
    generalize upd Hd tl (.lst [(λk=>if k=j then V.ref D2 else V.ref (tt k)) 0,(λk=>if k=j then V.ref D2 else V.ref (tt k)) 1])=He at *
    have nDt:D2≠tl:=λz=>by rw[z,htlb] at fD; cases fD
    have nDd:D2≠dl:=λz=>by rw[z,hdlb] at fD; cases fD
    have tds:tl∉ds:=λz=>by
      rcases fr tl z with q | q
      · exact tj.n1 q
      · rw[htlb] at q; cases q
    have dds:dl∉ds:=λz=>by
      rcases fr dl z with q | q
      · exact tj.n2 q
      · rw[hdlb] at q; cases q
    have hdle:He dl=some (.lst [uu 0,uu 1]):=O1 _ _ (λz=>ntd (Q3.mp z).symm) (Sd _ _ hdlb)
    have tqe:∀j',j'<2->Tq κ He n tl dl (tt j') (rr j') (XX j') (uu j') (dd j') ((i+1-j')/2):=λj' h'=>(((tq j' h').same Sb).same Sd).off (.inl rfl) htld O1
    have tje:=tqe j j2
    have tre:=(tr.same Sd).off htld O1
    have hD2e:=O1 _ _ (λz=>nDt (Q3.mp z)) hD2
    have rD2e:=rD2.off tds htld O1
    refine m2 _ _ ?_
    refine ⟨_,rfl,_,rfl,_,rfl,_,_,rfl,rfl,(by show (0:Int)<_; decide),dl,_,_,_,rfl,rfl,SqL.of hdle,(by rw[ej]; exact at2 (f:=uu) j2),_,rfl,κ,uu j,tv,dd j,t,rfl,tje.nu,tre,t3,tje.su.b1 pj,λHf u2 Sf nu2=>?_⟩
    have hdlf:=Sf _ _ hdle
    refine ⟨_,rfl,_,rfl,_,_,rfl,rfl,(by show (0:Int)<_; decide),dl,_,_,j,rfl,rfl,hdlf,(by rw[ej]; exact Zbp (Int.natCast_nonneg _) (by show (j:Int)<2; omega)),?_⟩
    rw[Zp2 (f:=uu) j2]
    have O2:Off [dl] Hf (upd Hf dl (.lst [(λk=>if k=j then u2 else uu k) 0,(λk=>if k=j then u2 else uu k) 1])):=Zay (Same.refl Hf)
    have qd2:=Zae (H:=Hf) (a:=dl) (o:=.lst [(λk=>if k=j then u2 else uu k) 0,(λk=>if k=j then u2 else uu k) 1])
    generalize upd Hf dl (.lst [(λk=>if k=j then u2 else uu k) 0,(λk=>if k=j then u2 else uu k) 1])=Hg at *
    have ceg:Ce Hg c cs:=⟨O2 _ _ (λz=>ncd (Q3.mp z)) (Sf _ _ (O1 _ _ (λz=>nct (Q3.mp z)) (Sd _ _ (Sb _ _ cea.l)))),cea.h1,cea.h2,cea.b⟩
    have kxg:=((((kxa.same Sb).same Sd).offK nkt O1).same Sf).offK nkd O2
    have htlg:=O2 _ _ (λz=>ntd (Q3.mp z)) (Sf _ _ qt1)
    have det2:=Zga tj.len tj.wd okt
    refine ⟨_,_,λk=>if k=j then D2 else tt k,λk=>if k=j then ds else rr k,λk=>if k=j then doT t (XX j) else XX k,λk=>if k=j then u2 else uu k,λk=>if k=j then Zf9 t*dd j else dd k,rfl,ceg,kxg,?_,qd2,λj' h'=>?_,?_⟩
    · rcases (by omega:j=0\/j=1) with e | e
      · rw[e] at htlg ⊢; exact htlg
      · rw[e] at htlg ⊢; exact htlg
    · show Tq κ Hg n tl dl (if j'=j then D2 else tt j') (if j'=j then ds else rr j') (if j'=j then doT t (XX j) else XX j') (if j'=j then u2 else uu j') (if j'=j then Zf9 t*dd j else dd j') ((i+1+1-j')/2)
      by_cases e:j'=j
      · rw[if_pos e,if_pos e,if_pos e,if_pos e,if_pos e,show (i+1+1-j')/2=(i+1-j)/2+1 by omega]
        exact ⟨O2 _ _ (λz=>nDd (Q3.mp z)) (Sf _ _ hD2e),(rD2e.same Sf).off dds hdlf O2,by rw[Zd0,tj.len],ZeX tj.wd okR,tj.sz.step t3,nu2.off hdlf O2,by rw[det2,<-tj.ed],tj.su.step t3,tds,dds,nDt,nDd⟩
      · rw[if_neg e,if_neg e,if_neg e,if_neg e,if_neg e,show (i+1+1-j')/2=(i+1-j')/2 by omega]
        exact ((tqe j' h').same Sf).off (.inr rfl) hdlf O2
    · show MP n (ent (if 0=j then doT t (XX j) else XX 0))
      by_cases e:0=j
      · rw[if_pos e]
        rw[<-e] at tj okR ⊢
        exact ZnT tj.len tj.wd okt mp
      · rw[if_neg e]; exact mp
  rintro σ Ha ⟨z7,z8,tt,rr,XX,uu,dd,rfl,cea,kxa,htl,hdl,tq,mp⟩
  have a0:=tq 0 (by decide)
  have a1:=tq 1 (by decide)
  obtain ⟨D,d0,dL,qD,pzD⟩:=a0.sz.pz (by omega)
  obtain ⟨Ed,e0,eL,qE,pzE⟩:=a1.sz.pz (by omega)
  refine k7 _ _ (Zfh λN8 k8=>?_)
  refine ⟨_,rfl,.inl ⟨rfl,_,SqL.of htl⟩,_,rfl,_,rfl,tl,_,0,_,rfl,rfl,SqL.of htl,rfl,_,rfl,tl,_,1,_,rfl,rfl,SqL.of htl,rfl,κ,tt 0,tt 1,rr 0,rr 1,XX 0,XX 1,n,D,Ed,_,_,rfl,a0.l,a0.r,a1.l,a1.r,a0.len,a0.wd,a1.len,a1.wd,n1,n7,qD,qE,pzD,pzE,λHb t2 ds2 X2 Sb hT2 rx2 l2' w2 e2 q2 f2 fd2=>?_⟩
  have htlb:=Sb _ _ htl
  refine ⟨tl,_,_,rfl,rfl,htlb,(by show 2<sizeLine; decide),?_⟩
  have nt2:t2≠tl:=λz=>by rw[z,htl] at f2; cases f2
  have nd2:t2≠dl:=λz=>by rw[z,hdl] at f2; cases f2
  have ts2:tl∉ds2:=λz=>by have:=fd2 tl z; rw[htl] at this; cases this
  have ds2':dl∉ds2:=λz=>by have:=fd2 dl z; rw[hdl] at this; cases this
  have O1:Off [tl] Hb (upd Hb tl (.lst ([.ref (tt 0),.ref (tt 1)]++[.ref t2]))):=Zay (Same.refl Hb)
  have qt1:=Zae (H:=Hb) (a:=tl) (o:=.lst ([.ref (tt 0),.ref (tt 1)]++[.ref t2]))
  generalize upd Hb tl (.lst ([.ref (tt 0),.ref (tt 1)]++[.ref t2]))=Hc at *
  have b0:=(a0.same Sb).off (.inl rfl) htlb O1
  have b1:=(a1.same Sb).off (.inl rfl) htlb O1
  have hT2c:=O1 _ _ (λz=>nt2 (Q3.mp z)) hT2
  have rx2c:=rx2.off ts2 htlb O1
  have hdlc:Hc dl=some (.lst [uu 0,uu 1]):=O1 _ _ (λz=>ntd (Q3.mp z).symm) (Sb _ _ hdl)
  refine k8 _ _ (Zfh λN9 k9=>?_)
  refine ⟨_,rfl,.inl ⟨rfl,_,SqL.of hdlc⟩,_,rfl,_,rfl,dl,_,0,_,rfl,rfl,SqL.of hdlc,rfl,_,rfl,dl,_,1,_,rfl,rfl,SqL.of hdlc,rfl,κ,uu 0,uu 1,dd 0,dd 1,rfl,b0.nu,b1.nu,b0.su.b1 (by omega),b1.su.b1 (by omega),λHd u2 Sd nu2=>?_⟩
  have hdld:=Sd _ _ hdlc
  refine ⟨dl,_,_,rfl,rfl,hdld,(by show 2<sizeLine; decide),?_⟩
  have O2:Off [dl] Hd (upd Hd dl (.lst ([uu 0,uu 1]++[u2]))):=Zay (Same.refl Hd)
  have qd2:=Zae (H:=Hd) (a:=dl) (o:=.lst ([uu 0,uu 1]++[u2]))
  generalize upd Hd dl (.lst ([uu 0,uu 1]++[u2]))=He at *
  have htle:=O2 _ _ (λz=>ntd (Q3.mp z)) (Sd _ _ qt1)
  have hce:=O2 _ _ (λz=>ncd (Q3.mp z)) (Sd _ _ (O1 _ _ (λz=>nct (Q3.mp z)) (Sb _ _ cea.l)))
  have kxe:=(((kxa.same Sb).offK nkt O1).same Sd).offK nkd O2
  have tz0:Tz κ He n (tt 0) (uu 0):=((b0.same Sd).off (.inr rfl) hdld O2).tz (by omega) q4
  have tz1:Tz κ He n (tt 1) (uu 1):=((b1.same Sd).off (.inr rfl) hdld O2).tz (by omega) q4
  have tz2:Tz κ He n t2 u2:=⟨ds2,X2,dd 0*dd 1,O2 _ _ (λz=>nd2 (Q3.mp z)) (Sd _ _ hT2c),(rx2c.same Sd).off ds2' hdld O2,l2',w2,Zmi d0 e0 dL eL q2 l2' q4,nu2.off hdld O2,by
    rw[a0.ed,a1.ed,<-mp (ent (XX 1))]
    exact Zax λi j hi hj=>(e2 i j hi hj).symm⟩
  have d3:((cs.length:Int))/3=((cs.length/3:Nat):Int):=by omega
  refine k9 _ _ (Zfh λN10 k10=>?_)
  refine ⟨_,rfl,_,rfl,c,_,rfl,.inl (SqL.of hce),_,_,rfl,rfl,⟨by decide,by decide⟩,c,_,_,_,rfl,rfl,SqL.of hce,(by rw[Q0,d3]; exact ZgT (by omega)),_,_,rfl,rfl,.inr ⟨by decide,by decide⟩,_,_,rfl,rfl,(by show (0:Int)<_; decide),_,_,rfl,rfl,(by show (0:Int)<_; decide),?_⟩
  show Zb6 9 (V.int (cs[cs.length/3]*30391%65599%3)) _ He N10
  generalize cs[cs.length/3]*30391%65599%3=wy
  clear tq a0 a1 b0 b1 mp htl hdl htlb hdlc hdld qt1 O1 O2 cea kxa nu2 hT2 rx2 hT2c rx2c
  refine ZmL k10 λN11 k11=>?_
  refine ⟨_,rfl,_,rfl,tl,dl,rfl,⟨_,SqL.of htle⟩,⟨_,SqL.of qd2⟩,?_⟩
  refine Zhl (K:=K) (a:=tl) (b:=dl) (xs:=[.ref (tt 0),.ref (tt 1),.ref t2]) (ys:=[uu 0,uu 1,u2]) (λi σ Hf=>∃z10 z11:Option V,σ=[some (.ref a),some (.ref c),some (.int κ.P),some (.ref kk),some (.int (n:Int)),some (.ref tl),some (.ref dl),z7,z8,some (.int wy),z10,z11]/\Same He Hf) ⟨_,_,rfl,Same.refl _⟩ (λi σ Hf ⟨_,_,_,S⟩=>⟨SqL.of (S _ _ htle),SqL.of (S _ _ qd2)⟩) ?_ ?_
  · rintro i x y Tp σ Hf hx hy nT ⟨z10,z11,rfl,Sf⟩
    obtain ⟨ta,rfl,tz⟩:∃ta,x = .ref ta/\Tz κ He n ta y:=by
      match i,hx,hy with
      | 0,hx,hy=>cases hx; cases hy; exact ⟨_,rfl,tz0⟩
      | 1,hx,hy=>cases hx; cases hy; exact ⟨_,rfl,tz1⟩
      | 2,hx,hy=>cases hx; cases hy; exact ⟨_,rfl,tz2⟩
      | i+3,hx,_=>simp at hx
    have ST:=Zag nT (.tup [.ref ta,y])
    have qT:=Zae (H:=Hf) (a:=Tp) (o:=.tup [.ref ta,y])
    generalize upd Hf Tp (.tup [.ref ta,y])=Hg at *
    have Seg:=Sf.trans ST
    obtain ⟨rs,A,d,h1,h2,h3,h4,h5,h6,h7⟩:=tz.same Seg
    refine ⟨Tp,_,rfl,SqT.of qT,rfl,_,_,rfl,_,_,rfl,rfl,?_⟩
    refine ⟨_,rfl,_,rfl,_,rfl,ta,rfl,⟨_,SqL.of h1⟩,?_⟩
    refine Zg9 h1 h2 (by omega) (λx H Q ⟨p,ys,e,sq,k⟩=>⟨_,rfl,p,ys,by rw[e],.inl sq,k⟩) λcs' Hh Sh rc=>?_
    intro tb ntb
    have Sb:=Zag ntb (.lst (cs'.map V.ref))
    have qb:=Zae (H:=Hh) (a:=tb) (o:=.lst (cs'.map V.ref))
    have rc2:=rc.same Sb
    generalize upd Hh tb (.lst (cs'.map V.ref))=Hi at *
    have Sgi:=Sh.trans Sb
    refine ⟨_,rfl,_,rfl,κ,kk,tb,y,d,cs',A,n,wy,rfl,(kxe.same Seg).same Sgi,qb,rc2,h3,h4,n1,n7,h5,h6.same Sgi,h7,λHj Sj=>⟨_,rfl,Zji ?_⟩⟩
    exact ⟨_,_,rfl,Seg.trans (Sgi.trans Sj)⟩
  · rintro i σ Hf _ ⟨z10,z11,rfl,Sf⟩
    exact k11 _ _ (k Hf)
end
end My
namespace PySem.W.Fast
def tw10589968740637450240:=0
def tw12244859692778674176:=0
def tw11622796338588471328:=0
def tw18312958174780167232:=0
def tw2749704163553452128:=0
def tw9533187513986526368:=0
def tw793345627655795872:=0
def tw4129928232222039328:=0
def tw12229323757639492992:=0
def tw17499624188603378112:=0
def tw11443668129756774848:=0
def tw5896655111723162080:=0
def tw1206317157858981440:=0
def tw18422328694625226368:=0
def tw10821818489636475552:=0
def tw15764816615410248384:=0
def tw15349557801256171328:=0
def tw6063652799893678912:=0
def tw14096137372903666560:=0
def tw13187471621921748896:=0
def tw12346447914214563808:=0
def tw10064898884602866689:=0
def tw10892575567615873025:=0
def tw9814882752421893153:=0
def tw12417245787236587553:=0
def tw11704702450416757825:=0
def tw737395969615280193:=0
def tw4872883389623784577:=0
def tw5159041628382427329:=0
def tw16709458017193523425:=0
def tw8389325016721049825:=0
def tw8830110770314916161:=0
def tw5129064103802259809:=0
def tw2456733548024909185:=0
def tw5174171229385047553:=0
def tw9282275073411261057:=0
def tw1742856417483057825:=0
def tw2992546916721989313:=0
def tw12791746361373818593:=0
def tw5871785013615916801:=0
def tw14505248746730142497:=0
def tw804134557384236897:=0
def tw17815282285597024129:=0
def tw18425458395206935586:=0
def tw11866997084225116322:=0
def tw14327715763604875426:=0
def tw15012053595460014274:=0
def tw16109780185192262882:=0
def tw10666990877597160706:=0
def tw6893823136932231426:=0
def tw5993324128072327490:=0
def tw15347633339280922018:=0
def tw7380053770880057826:=0
def tw6702660666245280354:=0
def tw18072385739827491458:=0
def tw13118679484580228738:=0
def tw10914731708449962978:=0
def tw13452742470362549283:=0
def tw6839477518355799235:=0
def tw1197143980600194243:=0
def tw11924813890263180579:=0
def tw7582937242288816515:=0
def tw5089868310881718723:=0
def tw11336512966625588707:=0
def tw2627720009172977219:=0
def tw725982573528450659:=0
def tw16921767676741722755:=0
def tw2853993098547963523:=0
def tw14570498502586488483:=0
def tw12118358351374559971:=0
def tw2709845011362944835:=0
def tw14989459669874949124:=0
def tw4646841147540003876:=0
def tw4311239304450838692:=0
def tw16468278708687829188:=0
def tw17168982780093992132:=0
def tw13291407817479008484:=0
def tw647633356381431012:=0
def tw1176851135005361380:=0
def tw12545404015929078020:=0
def tw1568063057145125156:=0
def tw1404375095751302468:=0
def tw6975774320372894052:=0
def tw10975157082605903204:=0
def tw16286879348987041252:=0
def tw4233419348315332100:=0
def tw1122398193951196740:=0
def tw14463996677898744516:=0
def tw4953468704283189956:=0
def tw12626391350002087652:=0
def tw16725460440802571076:=0
def tw3043883712451660612:=0
def tw13290823734047500132:=0
def tw17527963693878904676:=0
def tw9248680004097656708:=0
def tw11050606912293918596:=0
def tw15302554004504094596:=0
def tw5218016445774608292:=0
def tw4820138049712106468:=0
def tw12046082271297182725:=0
def tw4976508642672146469:=0
def tw8271840735801402405:=0
def tw1529323346324122693:=0
def tw9233664113544919109:=0
def tw5041678017327892581:=0
def tw11763282498049023077:=0
def tw6000540623150424165:=0
def tw6006064339350933605:=0
def tw17004422227916009605:=0
def tw17483738468808777893:=0
def tw5184713794180187365:=0
def tw17269703686088324421:=0
def tw13689780789577639269:=0
def tw7168800481734472037:=0
def tw16156439229889291749:=0
def tw1810271415839476197:=0
def tw1697719940949375461:=0
def tw5794018211780335109:=0
def tw7249578804373869093:=0
def tw16467247020756807237:=0
def tw6038641354819758693:=0
def tw3646815655630162533:=0
def tw890544647092038277:=0
def tw5981985612220103557:=0
def tw6761060480349383589:=0
def tw15154863463439299493:=0
def tw2371464446476283078:=0
def tw3853236223476299974:=0
def tw18009934701150878982:=0
def tw1205963633825070470:=0
def tw12736157638180163974:=0
def tw6543502140803830182:=0
def tw17485325005322059174:=0
def tw12600840678252563910:=0
def tw1191454677503137286:=0
def tw12302998036927347302:=0
def tw12001767424867899014:=0
def tw17325934009499051654:=0
def tw16603830246613698214:=0
def tw390353882266973894:=0
def tw8860043301575873222:=0
def tw2496039271431460614:=0
def tw17902180391735243558:=0
def tw4734455464505190278:=0
def tw14495041381513458566:=0
def tw4462888043146791015:=0
def tw14457615917123896455:=0
def tw9038588207250098343:=0
def tw8985427688990064807:=0
def tw12384636642435856583:=0
def tw17412440621172108583:=0
def tw5507859232203005223:=0
def tw8601381669070335303:=0
def tw8943123121043285479:=0
def tw3975792258846984711:=0
def tw4580001294951829063:=0
def tw11141596558958860935:=0
def tw1482301304448923303:=0
def tw8010912738899025575:=0
def tw10087635283430755111:=0
def tw6915443561943191367:=0
def tw10704144731906749415:=0
def tw16280974608413958119:=0
def tw9691815303710595080:=0
def tw3183290367844963464:=0
def tw17220650598939801736:=0
def tw17618622161246489736:=0
def tw6847645890330265864:=0
def tw17319457472039377320:=0
def tw2056129267621573128:=0
def tw6445209601349057032:=0
def tw16638204784299323944:=0
def tw11091214139042502184:=0
def tw6448058591301017160:=0
def tw12168602687475744360:=0
def tw17097759360541357704:=0
def tw11556347151500488328:=0
def tw14025630536604500648:=0
def tw3937002099910123240:=0
def tw7648339770689089256:=0
def tw193045126394263432:=0
def tw9394153883534649320:=0
def tw14324319862348812361:=0
def tw2346872947396788297:=0
def tw1527818388353479913:=0
def tw5564572351545789737:=0
def tw8414030750810250569:=0
def tw11811871114702518601:=0
def tw8785729700593006921:=0
def tw11209381754438836713:=0
def tw327548288480928393:=0
def tw7594249500096412329:=0
def tw9786408200208901865:=0
def tw11109810496893360969:=0
def tw6597202905182063497:=0
def tw18360612931063310249:=0
def tw11288452995995557801:=0
def tw14717966278433123305:=0
def tw5359957455472368617:=0
def tw10931772920327003146:=0
def tw4234412465105565738:=0
def tw13187778750464203946:=0
def tw7591192480928312490:=0
def tw7739707013748858058:=0
def tw15131764947246001354:=0
def tw13535168832903243978:=0
def tw16023232987537109290:=0
def tw2557813954078345578:=0
def tw7817864109882748330:=0
def tw5417213805906275850:=0
def tw1610418217015651850:=0
def tw11266380621501784618:=0
def tw5081525055776666218:=0
def tw1919874423984325290:=0
def tw5773171900081718986:=0
def tw10615734260000763754:=0
def tw8531683608579892106:=0
def tw18092821809579695018:=0
def tw7765626610020112330:=0
def tw3623674736311931882:=0
def tw17839264975899939915:=0
def tw14155661085069026475:=0
def tw4622402962250291403:=0
def tw2688207723081737515:=0
def tw8984034793421909387:=0
def tw1360134844440232363:=0
def tw9296976818153899435:=0
def tw283390235713536459:=0
def tw6350632832361307595:=0
def tw12125723168782946763:=0
def tw13405521317921439307:=0
def tw10371652549141446251:=0
def tw1303945742449856139:=0
def tw399580983013041963:=0
def tw10973801021797882699:=0
def tw7468220949049534443:=0
def tw13667284558483138604:=0
def tw2974856781594250348:=0
def tw7205238198467281068:=0
def tw8826503186864119980:=0
def tw14200835293149371692:=0
def tw14836891132053752108:=0
def tw4485111639086649676:=0
def tw2391536775330483532:=0
def tw9258566634267568556:=0
def tw13113833361072872908:=0
def tw4537339561752005164:=0
def tw9233072706267549260:=0
def tw5159490049628023404:=0
def tw1445927268240339628:=0
def tw2865625088312617644:=0
def tw13198848060441457420:=0
def tw796187764120479532:=0
def tw8530707658833517516:=0
def tw11286172823691813868:=0
def tw8416487179260744781:=0
def tw9850009237357705421:=0
def tw4039158549064110349:=0
def tw4559494662046159149:=0
def tw67484062798022989:=0
def tw6824194773503265101:=0
def tw561896731472778605:=0
def tw13145031803889674605:=0
def tw9111818558990859661:=0
def tw12743862866059795917:=0
def tw5972344821612207693:=0
def tw5386446692041325325:=0
def tw3287154765398970221:=0
def tw15950433229908551597:=0
def tw835790833901746157:=0
def tw4174496838947409070:=0
def tw10328588746440919214:=0
def tw3611178511798640846:=0
def tw9337105076740956526:=0
def tw8702883503610351982:=0
def tw16704614247911068238:=0
def tw10700055274899285646:=0
def tw3894390159964851886:=0
def tw407660892929622702:=0
def tw4942507921748573006:=0
def tw11065123584967282606:=0
def tw12460627544639684558:=0
def tw16779958992382211087:=0
def tw18388248928947554319:=0
def tw3906661495285702735:=0
def tw12315306924871738447:=0
def tw11456078867922167983:=0
def tw6515497481736747311:=0
def tw4323659384957954447:=0
def tw8477426050535096783:=0
def tw7959154866981872111:=0
def tw10576650908375148079:=0
def tw12138806381573548623:=0
def tw14813256664407125583:=0
def tw12621725999433586287:=0
def tw10141193296970312367:=0
def tw8066523468582066895:=0
def tw14311813651925732079:=0
def tw1824293530715266895:=0
def tw17407312333859069775:=0
def tw4245411252330485615:=0
def tw7720884582702095215:=0
def tw2310131820492073871:=0
def tw3031393748942085168:=0
def tw9011141957644013648:=0
def tw8022734242183106672:=0
def tw9106711748611237040:=0
def tw6502250405485340912:=0
def tw10487076399057819888:=0
def tw15734734850519663888:=0
def tw6255389634453971248:=0
def tw4128083429219407152:=0
def tw13012172310940098896:=0
def tw2265817978091278704:=0
def tw3539560630110220688:=0
def tw6079586640593371600:=0
def tw15472923998087065072:=0
def tw16681909587105232368:=0
def tw13280605280693567120:=0
def tw11160211037354318480:=0
def tw3227497215845485264:=0
def tw3205718327070545648:=0
def tw293705482485602064:=0
def tw16363999574391343920:=0
def tw16534845646479894352:=0
def tw6838181348898070416:=0
def tw18117609085056648176:=0
def tw9402642259420840944:=0
def tw1523057307508138992:=0
def tw15473189902026653713:=0
def tw11658512915857348657:=0
def tw11364812487103791153:=0
def tw9006668783520602161:=0
def tw8059893144474280017:=0
def tw17253061455529155729:=0
def tw10615515049748697265:=0
def tw6556637534529978577:=0
def tw17802163899617584369:=0
def tw3040171772411523345:=0
def tw575387757481056529:=0
def tw17239910506689605969:=0
def tw4418951779584229745:=0
def tw4591770334712269265:=0
def tw11839355851150248401:=0
def tw5225501003882832433:=0
def tw4436284498459223633:=0
def tw1175839463852793521:=0
def tw7513606302531284721:=0
def tw14586510183806345041:=0
def tw4737412210042201937:=0
def tw1859031085126771569:=0
def tw14690684811862187985:=0
def tw12285607577611327473:=0
def tw1573158467955167250:=0
def tw12676688641810228274:=0
def tw2812896979370373170:=0
def tw9755552642247167090:=0
def tw4546892808234838194:=0
def tw4563582341308289362:=0
def tw5833072673794612594:=0
def tw6466136514852792690:=0
def tw5144186854036755890:=0
def tw6161492297763575250:=0
def tw9666631484207270418:=0
def tw12802420009595464466:=0
def tw5988321683786696498:=0
def tw12991945227445803858:=0
def tw16340425033181866834:=0
def tw3424046590332691282:=0
def tw14795699158368808850:=0
def tw2238842317705943954:=0
def tw5478370968835092466:=0
def tw652546049981615123:=0
def tw3102294604069084179:=0
def tw7791608737546626099:=0
def tw12857990102764641395:=0
def tw12033336905708224659:=0
def tw8134926082482056371:=0
def tw4312869977195106675:=0
def tw10465577122036975027:=0
def tw8497298987356982739:=0
def tw17765656326287294995:=0
def tw7751964852681878259:=0
def tw3537080599217409907:=0
def tw7463083008260777971:=0
def tw711580115445105684:=0
def tw1941666055903131700:=0
def tw2820928935154083956:=0
def tw17734398968624998516:=0
def tw6031548277531348116:=0
def tw9039663301803880596:=0
def tw5687746497473100948:=0
def tw9383842625765656724:=0
def tw1090321666884998420:=0
def tw7801873992525145524:=0
def tw5533184327892819412:=0
def tw8051746141336938996:=0
def tw10829524095488530996:=0
def tw6021436588105866804:=0
def tw12346660629204363828:=0
def tw1890963070428787380:=0
def tw1274764618777534164:=0
def tw5322566564486077140:=0
def tw8929702355522249460:=0
def tw14466272984020075316:=0
def tw6469838015576307604:=0
def tw1731995057248524341:=0
def tw9400282299413754965:=0
def tw977595593693148277:=0
def tw9709525719484988597:=0
def tw4515088860276780277:=0
def tw17415528437253062997:=0
def tw12819047094832381269:=0
def tw15546277691547842965:=0
def tw2437616486300973557:=0
def tw5791086854412600021:=0
def tw4561118098287305493:=0
def tw7456282013967474517:=0
def tw11947349222131165013:=0
def tw3556605553043105910:=0
def tw14084901902088277110:=0
def tw10706710877834646678:=0
def tw9559439150324396182:=0
def tw4568392416004101270:=0
def tw16604542706320992470:=0
def tw2877678507143218422:=0
def tw12227022135730860310:=0
def tw7394522591563274518:=0
def tw14595149794739404118:=0
def tw9308822885454486934:=0
def tw4065449715829111190:=0
def tw10882158276193444502:=0
def tw12724161654714740470:=0
def tw13630779119406411510:=0
def tw6407992965954927350:=0
def tw1266572285938831126:=0
def tw10582850927957088022:=0
def tw16165899099214037782:=0
def tw4166390465786910518:=0
def tw2415800484479101942:=0
def tw16849178915131745335:=0
def tw11797641743523826775:=0
def tw8018376564855544951:=0
def tw13362743642956436631:=0
def tw5771181132968392919:=0
def tw16840993316283856215:=0
def tw1157412482504638871:=0
def tw16620335354862883255:=0
def tw15329269387506373047:=0
def tw4154616080176710103:=0
def tw6448725468732697207:=0
def tw17647373714351705783:=0
def tw11787101817901810487:=0
def tw9527743530874171191:=0
def tw12198555381792340823:=0
def tw16017619486326403991:=0
def tw3142380859778701207:=0
def tw11233769432782122999:=0
def tw7457205808614034456:=0
def tw2171835888178827384:=0
def tw7453055367442854040:=0
def tw16920896194785258680:=0
def tw2273652881239817432:=0
def tw12874817568338042104:=0
def tw5533952227324027192:=0
def tw2773844571115141496:=0
def tw10433107359673188760:=0
def tw8755029948760569304:=0
def tw13617157953192743416:=0
def tw10034479066586469944:=0
def tw16367324370285459032:=0
def tw15296039624125234904:=0
def tw6996058531965730552:=0
def tw13235025407468571480:=0
def tw12636008653885884344:=0
def tw4939937274501530552:=0
def tw8531433398584074232:=0
def tw10060529195955626073:=0
def tw357785505084945497:=0
def tw6234791551238597721:=0
def tw7715851763540618329:=0
def tw17679210098672842873:=0
def tw3455110000468521241:=0
def tw2379163401780323673:=0
def tw15780575921284005241:=0
def tw415892030290218393:=0
def tw6993421010343783833:=0
def tw224167210530510265:=0
def tw8662859145412966905:=0
def tw15455485643423867385:=0
def tw9762536876348278329:=0
def tw7862386941323024953:=0
def tw5609837829033616953:=0
def tw3332151560955430489:=0
def tw9589675146080649849:=0
def tw540580343611223673:=0
def tw5680632089812201081:=0
def tw4564538964896455321:=0
def tw3750508051466179225:=0
def tw12750205390697700025:=0
def tw17062728948630720249:=0
def tw2451240248173171449:=0
def tw11040905521772611321:=0
def tw4326715792980983577:=0
def tw7127477793377174297:=0
def tw17020972709200814041:=0
def tw8617180689590881241:=0
def tw370951538889335801:=0
def tw15144572852384506906:=0
def tw2241911604246554682:=0
def tw3215866604744322170:=0
def tw15918389636054140058:=0
def tw2760337700062374138:=0
def tw14193391563597697370:=0
def tw12442405084142867898:=0
def tw81809867163063770:=0
def tw4072001764870862362:=0
def tw1292226373801047610:=0
def tw4235673472420531802:=0
def tw8382381996740291194:=0
def tw15682623724318716538:=0
def tw5976870078002927258:=0
def tw13029452472075421370:=0
def tw16019929618557627066:=0
def tw10283961274520496890:=0
def tw10162361791830666010:=0
def tw8299503201856611098:=0
def tw14777078568801663898:=0
def tw587333005453349818:=0
def tw13085551594495705082:=0
def tw4446710610661397563:=0
def tw13706400468363221115:=0
def tw12103712819570181339:=0
def tw10739771663539240219:=0
def tw17364744630898222427:=0
def tw3465965641097960891:=0
def tw4125448946607752731:=0
def tw5374946925654936155:=0
def tw13351334799796554363:=0
def tw5262196197321658011:=0
def tw16864007806280573627:=0
def tw18234613516266821339:=0
def tw17001712399279188731:=0
def tw15634181700543437627:=0
def tw10314597227456080699:=0
def tw13324688321749615451:=0
def tw8265502287909025627:=0
def tw8742505623290513275:=0
def tw6226356317878659995:=0
def tw1130616522061152155:=0
def tw3433881316961495995:=0
def tw10370981678473270235:=0
def tw4003770294335333404:=0
def tw9907210910235516988:=0
def tw12673438220702268636:=0
def tw13381136246062640380:=0
def tw18001488714278287644:=0
def tw6726579036836347164:=0
def tw10694330889888347452:=0
def tw2509951799369612796:=0
def tw7474769291770542620:=0
def tw7900257646837800508:=0
def tw6060676577883561564:=0
def tw934299905607302908:=0
def tw4117920745636913980:=0
def tw836472619820829564:=0
def tw15079057595705694172:=0
def tw10780951243736256476:=0
def tw3996089935406755836:=0
def tw4693270512317191453:=0
def tw6539845088496997789:=0
def tw10012922671705562621:=0
def tw7139023108849146365:=0
def tw7712494968113228285:=0
def tw778965098355624509:=0
def tw10107137178646950461:=0
def tw3390226079839035069:=0
def tw6039958069356717757:=0
def tw10713664317739735837:=0
def tw10709282273977408349:=0
def tw10512936713385066365:=0
def tw14912916910228135805:=0
def tw4530972347203221437:=0
def tw16259549650807067678:=0
def tw13122294570267438110:=0
def tw666077786637605982:=0
def tw1993727796070460510:=0
def tw16593522282642522206:=0
def tw5479484750901215422:=0
def tw6150338098107747614:=0
def tw4006906811899739454:=0
def tw7209382465243559326:=0
def tw2713506453841091038:=0
def tw6668422365942913534:=0
def tw16086324845687659006:=0
def tw9941155068591758846:=0
def tw17831842908843236990:=0
def tw8403798633490850558:=0
def tw12655102405076004670:=0
def tw6567155184695311166:=0
def tw2112154681087916894:=0
def tw6482485910605815678:=0
def tw10078015924882286526:=0
def tw13628236770753295294:=0
def tw6564460330609925054:=0
def tw4732954347416262719:=0
def tw18184057158090675327:=0
def tw3792961624160557183:=0
def tw3652465562956228799:=0
def tw9431945315224394975:=0
def tw15418868526439768319:=0
def tw13496365639669052671:=0
def tw9013138125413400895:=0
def tw10557521645246730559:=0
def tw4712374880270531935:=0
def tw22069961454342495:=0
def tw16390732665052959103:=0
def tw8219084641353090431:=0
def tw2980332592343191999:=0
def tw17952392095430254079:=0
def tw15696245833183977055:=0
def tw7274478367475405503:=0
def tw13941656798328298303:=0
def tw5587386478168945535:=0
def tw15338173995613260735:=0
def tw990803960190845887:=0
def tw4321180250226706367:=0
def tw16430753655900277727:=0
def tw5689444764546704383:=0
def tw14625432333534532900:=0
end PySem.W.Fast
namespace My
open PySem L2 PyProof.Rows
structure Defs (K:PySem.W.Frag) (mg:Str->Option Value) (CF CR cN cF:Addr):Prop where
  T:Nm mg
  kd:Kd K mg CF CR
  xn:ExcC K mg "NoNumber" cN
  xf:ExcC K mg "NoFit" cF
  nz:mg "zip" = none
  nsu:mg "sum" = none
  nmx:mg "max" = none
  nmn:mg "min" = none
  nrv:mg "reversed" = none
  nen:mg "enumerate" = none
  d1:Here K mg "divisor" ZeH
  d2:Here K mg "is_whole" ZdO
  d3:Here K mg "is_prime" ZdP
  d4:Here K mg "shares" ZfM
  d5:Here K mg "less_times" Zcx
  c1:Here K mg "scaled_row" Zcw
  c2:Here K mg "plus_row" ZdN
  c3:Here K mg "make_turn" Zdb
  c4:Here K mg "is_idle" ZeJ
  c5:Here K mg "take" Zj8
  c6:Here K mg "take_bottoms" ZbZ
  c7:Here K mg "first_filled" Zb0
  c8:Here K mg "empty_column" Zb1
  c9:Here K mg "emptied" ZeK
  c10:Here K mg "is_square" Zc8
  c11:Here K mg "need_square" Zci
  c12:Here K mg "freed" Zhq
  c13:Here K mg "sign_of" ZeI
  c14:Here K mg "by_steps" ZdQ
  c15:Here K mg "column_at" Zc9
  c16:Here K mg "sums_with" Zda
  c17:Here K mg "product_number" ZbE
  c18:Here K mg "corner_numbers" ZbF
  c19:Here K mg "falling_numbers" Zbn
  c20:Here K mg "without" ZeL
  c21:Here K mg "expanded" ZdR
  c22:Here K mg "wider_minors" Zb2
  c23:Here K mg "minors_of" Zdc
  c24:Here K mg "by_minors" Zdd
  l1:Here K mg "_law_whole" ZeM
  l2:Here K mg "_law_divisor" Zde
  l3:Here K mg "_law_is_prime" ZcA
  l4:Here K mg "_law_prime" ZeN
  l5:Here K mg "_law_kind" ZfN
  l6:Here K mg "_law_lowest" ZdS
  l7:Here K mg "_law_plus" ZfO
  l8:Here K mg "_law_times" ZeO
  l10:Here K mg "_law_made" ZfP
  l11:Here K mg "_law_drawn" ZeP
  l12:Here K mg "_law_begun" ZeQ
  l15:Here K mg "_law_scale" ZeR
  l16:Here K mg "_law_turn" ZfQ
  l17:Here K mg "_law_behind" ZdT
  l18:Here K mg "_law_due" Zhr
  l19:Here K mg "_law_number_is" Zcl
  l20:Here K mg "_law_first" ZeS
  l21:Here K mg "_law_product" Zdf
  l22:Here K mg "_law_told" ZfR
  m1:HereM K CF "plus" "Fractions.plus" ZbB
  m2:HereM K CF "minus" "Fractions.minus" Zbk
  m3:HereM K CF "back" "Fractions.back" ZbC
  m4:HereM K CF "times" "Fractions.times" Zbl
  m5:HereM K CF "is_nought" "Fractions.is_nought" Za0
  m6:HereM K CF "common_bottom" "Fractions.common_bottom" ZaN
  r1:HereM K CR "plus" "Rests.plus" Zcy
  r2:HereM K CR "minus" "Rests.minus" Zcj
  r3:HereM K CR "back" "Rests.back" Zcz
  r4:HereM K CR "times" "Rests.times" Zck
  r5:HereM K CR "is_nought" "Rests.is_nought" Zbm
  r6:HereM K CR "common_bottom" "Kind.common_bottom" Za6
  m7:HereM K CF "sum_of_products" "Fractions.sum_of_products" ZaG
  r7:HereM K CR "sum_of_products" "Rests.sum_of_products" ZaS
  n1:∃tk,HereD K CF "number" "Fractions.number" ZaM #[.int 1 tk]
  n2:∃tk,HereD K CR "number" "Rests.number" Za9 #[.int 1 tk]
  i1:HereI K CR "Rests.__init__" ZbD
  lw:Here K mg "law" Zno
theorem all_mk{l:PySem.W.OpenLaw}{w:World}{K:PySem.W.Frag}{mg:Str->Option Value}{fa CF CR cN cF:Addr}(hfa:mg "law" = some (.ref fa)) (D:Defs K mg CF CR cN cF) :
    ∃fd:FuncData,(∀(s:Shared) (v:Value),BindsTo s fd ⟨[v],[]⟩ [("_law_script", v)])/\∀base:Heap,K.In base->base.Ns mainGlobals mg->FnOk l.prog w K mg base CX0 12 fa fd ["_law_script"] (sp_law K):=by
  obtain ⟨f,fd,F,m⟩:=D.lw.ex
  have e:=hfa.symm.trans m
  cases e
  refine ⟨fd,?_,λbase _ _=>?_⟩
  · obtain ⟨oc,od,kV,doc,pm,an,cdv,ct,osl,rfl,lk,hcd⟩:=F.ex
    exact λs v => .of_eq rfl
  · have T:=D.T
    have kd:=D.kd
    obtain ⟨tk0,n1⟩:=D.n1
    obtain ⟨tk1,n2⟩:=D.n2
    have g1:Has l.prog w K mg base "divisor" 1 _ _:=ZiW D.d1 T
    have g2:Has l.prog w K mg base "is_whole" 1 _ _:=Zht D.d2 T
    have g3:Has l.prog w K mg base "is_prime" 1 _ _:=Zhu D.d3 T
    have g5:Has l.prog w K mg base "less_times" 1 _ _:=ZfU D.d5
    have g4:=Zka D.d4 g5
    have ai:=ZlG D.i1 kd.clR kd.nP g2 g3
    have a1:=Zkf D.m1 g1
    have a2:=Zi1 D.m2 kd.clF a1
    have a3:HasMX l.prog w K mg base CF "back" 1 _ _ _:=ZlJ D.m3 D.xn
    have a4:=ZiZ D.m4 g1
    have a5:HasM l.prog w K mg base CF "is_nought" 1 _ _ _:=Zi2 D.m5
    have a6:=ZhL D.m6 g1
    have a7:=Zhx n1 D.xn g1
    have b1:HasM l.prog w K mg base CR "plus" 1 _ _ _:=ZlI D.r1 kd.clR kd.nP
    have b2:HasM l.prog w K mg base CR "minus" 1 _ _ _:=Zkh D.r2 kd.clR kd.nP
    have b7:=Zhy n2 kd.clR kd.nP D.xn g4
    have b8:=Zi0 n2 kd.clR kd.nP D.xn g4
    have b3:=ZlK D.r3 kd.clR b8
    have b4:HasM l.prog w K mg base CR "times" 1 _ _ _:=Zkg D.r4 kd.clR kd.nP
    have b5:HasM l.prog w K mg base CR "is_nought" 1 _ _ _:=Zi3 D.r5
    have b6:HasM l.prog w K mg base CR "common_bottom" 1 _ _ _:=Zi9 D.r6
    have mp:=Zki kd a1 (b1.mono (by decide))
    have mt:=Zi4 kd a4 (b4.mono (by decide))
    have mz:=ZhK kd (a5.mono (by decide)) (b5.mono (by decide))
    have mm:=Zi6 kd a2 (b2.mono (by decide))
    have mn:=ZhD kd (a7.mono (by decide)) b7
    have mb:=Zkp kd (a3.mono (by decide)) b3
    have mo:=ZhM kd a6 (b6.mono (by decide))
    have c1:=Zfl D.c1 mt
    have c2:=ZgX D.c2 D.nz mp
    have c3:=ZgY D.c3 c1 c2
    have c4:=Zi8 D.c4 mn mz
    have c5:=Znz D.c5 c4 c3
    have c6:=Ze2 D.c6 T mn mo c5
    have c7:=Ze1 D.c7 T mz
    have c8:=Ze3 D.c8 T mn mm mb c5
    have c9:=Zja D.c9 T mn c6 (c7.mono (by decide)) (c5.mono (by decide)) c8
    have w1:Has l.prog w K mg base "_law_whole" 1 _ _:=ZiY D.l1 T
    have w2:Has l.prog w K mg base "_law_divisor" 1 _ _:=ZgR D.l2 T
    have w3:Has l.prog w K mg base "_law_is_prime" 1 _ _:=ZfS D.l3
    have w4:=Zh4 D.l4 w3
    have w5:=Zk5 D.l5 kd ai
    have w6:=Zk0 D.l6 w2
    have w7:=Zjf D.l7 w6
    have w8:=Zh3 D.l8 w6
    have w10:Has l.prog w K mg base "_law_made" 1 _ _:=Zk3 D.l10
    have a8:=ZhP n1 D.xn g1
    have ms:=ZkG kd (a8.mono (by decide)) b8
    have c10:Has l.prog w K mg base "is_square" 1 _ _:=Zge D.c10 T
    have c11:=Ze8 D.c11 D.xf c10
    have c12:=Zl0 D.c12 mn mo c1
    have c13:Has l.prog w K mg base "sign_of" 1 _ _:=Zjc D.c13
    have c14:=ZhQ D.c14 T mn ms mt (c11.mono (by decide)) (c12.mono (by decide)) c9 (c13.mono (by decide))
    have a9:=Zl3 D.m7 kd.clF D.nz a6 a8
    have b9:HasM l.prog w K mg base CR "sum_of_products" 3 _ _ _:=Zl4 D.r7 kd.clR kd.nP D.nz D.nsu
    have md:=Zl5 kd a9 b9
    have c15:Has l.prog w K mg base "column_at" 1 _ _:=ZhY D.c15
    have c16:=ZkJ D.c16 md
    have c17:=Zd8 D.c17 T D.nmx D.nmn md
    have c18:=Zd9 D.c18 T mn mm md (c15.mono (by decide)) c16
    have c19:=ZdG D.c19 T mn c18 (c17.mono (by decide))
    have c20:=Zje D.c20 T ms mt (c11.mono (by decide)) (c12.mono (by decide)) c19 (c13.mono (by decide))
    have c21:=Zh0 D.c21 T D.nen md
    have c22:=Zfe D.c22 T mm mn c21
    have c23:=Zg3 D.c23 D.nrv mn c22
    have c24:=Zg4 D.c24 T T.tuple ms mt (c11.mono (by decide)) (c12.mono (by decide)) c23
    have w11:=Zg6 D.l11 w6
    have w12:=Zg7 D.l12 T w11 (w10.mono (by decide))
    have w15:Has l.prog w K mg base "_law_scale" 1 _ _:=Zg5 D.l15
    have w16:=Zh5 D.l16 w15
    have w17:=Zgm D.l17 T D.nz w8 w7
    have w18:=Zmh D.l18 w8 (w10.mono (by decide))
    have w19:=Zff D.l19 T w1
    have w20:=Zg8 D.l20 T w8 (w10.mono (by decide))
    have w21:=Zfo D.l21 T D.nz w8 w7 (w10.mono (by decide))
    have w22:=Zh6 (J:=10) D.l22 T (c14.mono (by decide)) (c24.mono (by decide)) (c20.mono (by decide)) (w19.mono (by decide))
    exact Zo2 F T D.nz (w4.mono (by decide)) (w5.mono (by decide)) (w12.mono (by decide)) (w20.mono (by decide)) (w8.mono (by decide)) (w16.mono (by decide)) (w17.mono (by decide)) (w18.mono (by decide)) (w21.mono (by decide)) w22
theorem walk{l:PySem.W.OpenLaw}{q:Program}{loose:List Str}{XP:(Str->Option Value)->Heap->Prop}{YP:World->Heap->Prop}{d:DefRec}{K:Params->PySem.W.Frag}(hn:l.most=some 63)(hdf:d.params.defaults=[])
    (hY:∀(w:World) (h:Heap),YP w h->(K w.params).In h)
    (F:∀(w:World) (mg:Str->Option Value) (fa:Addr) (h:Heap),(K w.params).In h->h.Ns mainGlobals mg->mg d.name=some (.ref fa) →
      ∃fd:FuncData,(∀(s:Shared) (u:Value),BindsTo s fd ⟨[u],[]⟩ [("_law_script", u)])/\∀base:Heap,(K w.params).In base->base.Ns mainGlobals mg->FnOk l.prog w (K w.params) mg base CX0 12 fa fd ["_law_script"] (sp_law (K w.params))) :
    PySem.W.WalkO q loose XP YP l.row.toRowW d [] (λf vs=>PySem.call f vs) :=
  L2.walk_ofB (n:=63) (k:=12) (x := "_law_script") (CX:=λ_=>CX0) (sp:=λw=>sp_law (K w.params)) hn (by decide) hdf ⟨rfl,by decide,by decide⟩ hY F (λ_ _ a ns hl hb _ hS=>⟨a,ns,rfl,hS,hl,hb,λ_=>rfl⟩) λ_ _ _ _ _ z=>z
theorem kd_mk{K:PySem.W.Frag}{h:Heap}{mg:Str->Option Value}{CF CR:Addr}(X:K.In h)(G:h.Ns mainGlobals mg)(aF:PySem.W.nsIn K mainGlobals "Fractions" = some (some (.ref CF))) (aR:PySem.W.nsIn K mainGlobals "Rests" = some (some (.ref CR)))
    (p1:PySem.W.plainGet K CF Str.empty=true) (p2:PySem.W.hasDictIn K CF=true) (p3:PySem.W.plainOver K CF=true) (p4:PySem.W.findIn K (.ref CF) "__setattr__" = some (some (.builtin "object.__setattr__")))
    (q1:PySem.W.plainGet K CR Str.empty=true) (q2:PySem.W.hasDictIn K CR=true) (q3:PySem.W.plainOver K CR=true) (q4:PySem.W.findIn K (.ref CR) "__setattr__" = some (some (.builtin "object.__setattr__")))
    (nP:PySem.W.findIn K (.ref CR) "prime" = some none) (mk:PySem.W.makesIn K CF=true) (mi:PySem.W.findIn K (.ref CF) "__init__" = some (some (.builtin "object.__init__"))) (kp:PySem.W.keepIn K (.ref CF)=true):Kd K mg CF CR :=
  ⟨⟨p1,p2,p3,p4⟩,⟨q1,q2,q3,q4⟩,nP,⟨mk,mi,kp⟩,PySem.W.mg_of X G aF,PySem.W.mg_of X G aR⟩
theorem cn_mk{K:PySem.W.Frag}{h:Heap}{mg:Str->Option Value}{x:Str}{C:Addr}(X:K.In h)(G:h.Ns mainGlobals mg)(a:PySem.W.nsIn K mainGlobals x=some (some (.ref C)))(b:PySem.W.isClsIn K C=true)(c:PySem.W.typeIn K (.ref C)=some (.type "type")):CN K mg x C:=⟨PySem.W.mg_of X G a,b,c⟩
theorem xcls_mk{K:PySem.W.Frag}{C:Addr}(ga:PySem.W.findIn K (.ref C) "__getattribute__" = some (some (.builtin "BaseException.__getattribute__"))) (ha:PySem.W.findIn K (.ref C) "__getattr__" = some none) (cl:PySem.W.findIn K (.ref C) "__class__" = some (some (.builtin "object.__class__")))
    (hn:PySem.W.specialIn K (.builtin "object.__class__") "__get__" = some (some (.builtin "getset_descriptor.__get__"))) (tk:PySem.W.takesIn K (.builtin "object.__class__")=some true) (ob:PySem.W.mroIn K C (.type "object")=some true) (be:PySem.W.mroIn K C (.type "BaseException")=some true) (hd:PySem.W.hasDictIn K C=true):XCls K C:=⟨ga,ha,cl,hn,tk,ob,be,hd⟩
theorem apart_cons{K:PySem.W.Frag}{C D:Addr}{r:List Addr}(a:PySem.W.mroIn K C (.ref D)=some false)(n:C≠D)(z:ZlH K C r):ZlH K C (D::r):=⟨⟨a,n⟩,z⟩
end My
open PySem PySem.W PyProof.Rows
local macro_rules | `(tactic| walk_at "xcls") => `(tactic| exact My.xcls_mk (by k_is) (by k_is) (by k_is) (by k_is) (by k_is) (by k_is) (by k_is) (by k_is))
local macro_rules | `(tactic| walk_at "apart") => `(tactic| repeat (first | exact True.intro | (refine' My.apart_cons (by k_is) (by decide) ?_)))
set_option maxRecDepth 100000 in
set_option maxHeartbeats 0 in
theorem PySem.Challenge.cw_turnframe_k34_whole_three_ways_holds : PySem.Challenge.rw_turnframe_k34_whole_three_ways.Holds := by
  w_on; o_law; k_head; (case hw=>w_witness2)
  k_fill
  refine My.walk (l:=PySem.Challenge.rw_turnframe_k34_whole_three_ways) rfl rfl (λw h Y=>PySem.W.kIn_of Y) ?F
  case F =>
    intro w mg fa h KX G hmg
    have kd:=by
      refine' My.kd_mk KX G ?e1 ?e2 ?e3 ?e4 ?e5 ?e6 ?e7 ?e8 ?e9 ?e10 ?e11 ?e12 ?e13 ?e14
      (case e1=>k_is); (case e2=>k_is); (case e3=>k_is); (case e4=>k_is); (case e5=>k_is); (case e6=>k_is); (case e7=>k_is)
      (case e8=>k_is); (case e9=>k_is); (case e10=>k_is); (case e11=>k_is); (case e12=>k_is); (case e13=>k_is); (case e14=>k_is)
    have x_xn:=by
      refine' My.cn_mk (x := "NoNumber") KX G ?a ?b ?c
      (case a=>k_is); (case b=>k_is); (case c=>k_is)
    have x_xf:=by
      refine' My.cn_mk (x := "NoFit") KX G ?a ?b ?c
      (case a=>k_is); (case b=>k_is); (case c=>k_is)
    refine My.all_mk hmg ⟨?T,kd,⟨?xnx,x_xn.m,?xni⟩,⟨?xfx,x_xf.m,?xfi⟩,PySem.W.mg_none_of KX G ?nz,PySem.W.mg_none_of KX G ?nsu,PySem.W.mg_none_of KX G ?nmx,PySem.W.mg_none_of KX G ?nmn,PySem.W.mg_none_of KX G ?nrv,PySem.W.mg_none_of KX G ?nen,?d1,?d2,?d3,?d4,?d5,?c1,?c2,?c3,?c4,?c5,?c6,?c7,?c8,?c9,?c10,?c11,?c12,?c13,?c14,?c15,?c16,?c17,?c18,?c19,?c20,?c21,?c22,?c23,?c24,?l1,?l2,?l3,?l4,?l5,?l6,?l7,?l8,?l10,?l11,?l12,?l15,?l16,?l17,?l18,?l19,?l20,?l21,?l22,?m1,?m2,?m3,?m4,?m5,?m6,?r1,?r2,?r3,?r4,?r5,?r6,?m7,?r7,?n1,?n2,?i1,?lw⟩
    case xnx=>walk_at "xcls"
    case xni=>k_exc
    case xfx=>walk_at "xcls"
    case xfi=>k_exc
    case nz=>k_is
    case nsu=>k_is
    case nmx=>k_is
    case nmn=>k_is
    case nrv=>k_is
    case nen=>k_is
    case T =>
      refine' My.nm_mk (PySem.W.mg_of KX G ?e1) ?e2 (PySem.W.mg_none_of KX G ?e3) (PySem.W.mg_none_of KX G ?e4) (PySem.W.mg_none_of KX G ?e5) (PySem.W.mg_none_of KX G ?e6) (PySem.W.mg_none_of KX G ?e7) (PySem.W.mg_none_of KX G ?e8) (PySem.W.mg_none_of KX G ?e9) (PySem.W.mg_none_of KX G ?e10)
      (case e1=>k_is); (case e2=>exact ⟨_,rfl⟩); (case e3=>k_is); (case e4=>k_is); (case e5=>k_is); (case e6=>k_is); (case e7=>k_is); (case e8=>k_is); (case e9=>k_is); (case e10=>k_is)
    case i1 =>
      refine' L2.hereI_mk ?e1 ?e2 ?e3 ?e4 ?e5 ?e6 ?e7
      (case e1=>k_is); (case e2=>k_is); (case e3=>k_is); (case e4=>k_is); (case e5=>k_is); (case e6=>k_is); (case e7=>k_is)
    case n1 =>
      refine' ⟨_,L2.hereD_mk ?x0a ?x0i ?x0l ?x0t ?x0c ?x0k⟩
      (case x0a=>k_is); (case x0i=>k_is); (case x0l=>k_is); (case x0t=>(apply Eq.trans; k_is; rfl)); (case x0c=>k_is); (case x0k=>k_is)
    case n2 =>
      refine' ⟨_,L2.hereD_mk ?x1a ?x1i ?x1l ?x1t ?x1c ?x1k⟩
      (case x1a=>k_is); (case x1i=>k_is); (case x1l=>k_is); (case x1t=>(apply Eq.trans; k_is; rfl)); (case x1c=>k_is); (case x1k=>k_is)
    all_goals first
      | (refine' L2.here_mk KX G ?y1 ?y2 ?y3 ?y4
         (case y1=>k_is); (case y2=>k_is); (case y3=>k_is); (case y4=>k_is))
      | (refine' L2.hereM_mk ?z1 ?z2 ?z3 ?z4 ?z5
         (case z1=>k_is); (case z2=>k_is); (case z3=>k_is); (case z4=>k_is); (case z5=>k_is))
