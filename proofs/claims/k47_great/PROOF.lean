import PyProof.Rows.All
import Wide.All
import OpenK.AllK
import Wide.FinOn
import Lean
import PyProof.EqAt
import PyProof.EqKinds
import PyProof.TupleCall
import PySem.Challenge.RW_turnframe_k47_great
set_option Elab.async false
set_option linter.all false
set_option maxRecDepth 100000
abbrev Q0:=@Nat.le_trans
abbrev Q1:=@List.length_map
abbrev Q2:=@Nat.le_refl
abbrev Q3:=@List.mem_singleton
abbrev Q4:=@List.getD_eq_getElem?_getD
abbrev Q5:=@List.getElem?_eq_getElem
abbrev Q6:=@Nat.lt_of_lt_of_le
abbrev Q7:=@List.length_append
abbrev Q8:=@List.length_take
abbrev Q9:=@Nat.lt_of_le_of_lt
abbrev Qa:=@Nat.ne_of_lt
abbrev Qb:=@Nat.zero_le
abbrev Qc:=@List.getElem?_map
abbrev Qd:=@List.size_toArray
abbrev Qe:=@List.mem_of_getElem?
abbrev Qf:=@Int.natAbs_mul
abbrev Qg:=@Nat.lt_irrefl
abbrev Qh:=@List.mem_cons
abbrev Qi:=@List.getElem?_eq_some_iff
abbrev Qj:=@Int.mul_comm
abbrev Qk:=@Int.mul_pos
abbrev Ql:=@Nat.pow_le_pow_right
abbrev Qm:=@Int.zero_add
abbrev Qn:=@Int.mul_assoc
abbrev Qo:=@Int.natAbs_natCast
abbrev Qp:=@List.getElem?_eq_none
abbrev Qq:=@List.mem_append
abbrev Qr:=@Bool.false_ne_true
abbrev Qs:=@Rat.num_divInt_den
abbrev Qt:=@Rat.divInt_eq_divInt_iff
abbrev Qu:=@List.map_append
abbrev Qv:=@List.getElem?_append_left
abbrev Qw:=@Nat.mul_le_mul_right
abbrev Qx:=@Int.toNat_natCast
abbrev Qy:=@Int.pow_succ
abbrev Qz:=@Int.fmod_eq_emod_of_nonneg
abbrev W0:=@List.length_drop
abbrev W1:=@Nat.mul_le_mul
abbrev W2:=@Int.gcd_dvd_right
abbrev W3:=@List.length_range
abbrev W4:=@List.mem_map
abbrev W5:=@List.getElem?_append_right
abbrev W6:=@List.mem_append_right
abbrev W7:=@List.getElem?_take
abbrev W8:=@List.getElem?_range
abbrev W9:=@List.take_succ
abbrev Wa:=@List.take_length
abbrev Wb:=@Int.natCast_nonneg
abbrev Wc:=@List.length_set
abbrev Wd:=@List.getElem_mem
abbrev We:=@List.mem_of_mem_take
abbrev Wf:=@Int.pow_zero
abbrev Wg:=@List.mem_cons_self
abbrev Wh:=@List.mem_cons_of_mem
abbrev Wi:=@Nat.mul_assoc
abbrev Wj:=@Rat.divInt_mul_divInt
abbrev Wk:=@Int.natAbs_dvd_natAbs
abbrev Wl:=@List.length_cons
abbrev Wm:=@List.lookup_cons
abbrev Wo:=@Int.mul_neg
abbrev Wp:=@Nat.mul_le_mul_left
abbrev Wq:=@Nat.mul_comm
abbrev Wr:=@Int.natCast_emod
abbrev Ws:=@Int.gcd_dvd_left
abbrev Wt:=@Nat.pow_add
abbrev Wu:=@List.getElem?_set
abbrev Wv:=@Int.emod_nonneg
abbrev Ww:=@Int.emod_eq_of_lt
abbrev Wx:=@List.mem_range
abbrev Wy:=@Int.ne_of_gt
abbrev Wz:=@Int.emod_lt_of_pos
abbrev U0:=@Int.natCast_mul
abbrev U1:=@Nat.le_of_dvd
abbrev U2:=@Nat.not_lt_zero
abbrev U3:=@Int.mul_one
abbrev U4:=@List.map_cons
abbrev U7:=@Nat.lt_succ_self
abbrev U8:=@Int.emod_eq_zero_of_dvd
abbrev U9:=@Int.one_mul
abbrev Ua:=@List.ext_getElem?
abbrev Ub:=@Nat.le_of_lt
abbrev Uc:=@List.length_replicate
abbrev Ud:=@Nat.pos_of_ne_zero
abbrev Ue:=@Int.dvd_trans
abbrev Uf:=@List.getElem?_drop
abbrev Ug:=@Nat.pow_succ
abbrev Uh:=@Int.pow_pos
abbrev Ui:=@List.length_reverse
abbrev Uj:=@Nat.succ_mul
abbrev Uk:=@List.map_congr_left
abbrev Ul:=@Nat.ne_of_gt
abbrev Um:=@Int.lt_or_gt_of_ne
abbrev Uo:=@Nat.le_mul_of_pos_left
abbrev Up:=@Int.mul_nonneg
abbrev Uq:=@Int.lt_of_not_ge
abbrev Ur:=@List.not_mem_nil
abbrev Us:=@List.take_of_length_le
abbrev Ut:=@Rat.divInt_add_divInt
abbrev Uu:=@List.mem_or_eq_of_mem_set
abbrev Uv:=@Int.natAbs_pow
abbrev Uw:=@Rat.zero_divInt
abbrev Ux:=@Nat.sub_self
abbrev Uy:=@List.filterMap_cons
abbrev Uz:=@List.mem_append_left
namespace L2
open PySem PySem.Spec PyProof.Rows
abbrev Key:=Sum Int Str
def Znb:Key->Value->Bool
  | .inl k,v=>Value.isInt k v
  | .inr x,v=>Value.isStrOf x v
def Zpn(w:World):Key->Int
  | .inl k=>hashInt k
  | .inr x=>hashStr w x
theorem ZaR:∀ {k:Key} {v:Value},Znb k v=true->(∃i t,k=Sum.inl i/\v=Value.int i t)\/(∃x t,k=Sum.inr x/\v=Value.str x t)
  | .inl i,v,h=>by
    obtain ⟨t,e⟩:=Value.isInt_shape (k:=i) (v:=v) h
    exact .inl ⟨i,t,rfl,e⟩
  | .inr x,v,h=>by
    obtain ⟨t,e⟩:=Value.isStrOf_shape (x:=x) (v:=v) h
    exact .inr ⟨x,t,rfl,e⟩
theorem Znc(a b:Int):decide ((Sum.inl a:Key)=Sum.inl b)=(a==b):=by
  by_cases e:a=b
  · subst e; simp
  · have h:¬(Sum.inl a:Key)=Sum.inl b:=λq=>e (Sum.inl.inj q)
    rw[decide_eq_false h]
    exact (beq_eq_false_iff_ne.mpr e).symm
theorem Znd(a b:Str):decide ((Sum.inr a:Key)=Sum.inr b)=decide (a=b):=by
  by_cases e:a=b
  · subst e; simp
  · have h:¬(Sum.inr a:Key)=Sum.inr b:=λq=>e (Sum.inr.inj q)
    rw[decide_eq_false h,decide_eq_false e]
theorem Zne(a:Int)(b:Str):decide ((Sum.inl a:Key)=Sum.inr b)=false:=decide_eq_false (λq=>nomatch q)
theorem Znf(a:Str)(b:Int):decide ((Sum.inr a:Key)=Sum.inl b)=false:=decide_eq_false (λq=>nomatch q)
def ZcM(prog:Program)(w:World):PySem.KeyKind prog w Key where
  is:=Znb
  hash:=Zpn w
  inj:=λv a b ha hb=>by
    rcases ZaR ha with ⟨i,t,rfl,rfl⟩ | ⟨x,t,rfl,rfl⟩
    · rcases ZaR hb with ⟨j,u,rfl,e⟩ | ⟨y,u,rfl,e⟩
      · injection e with e1 _; rw[e1]
      · exact nomatch e
    · rcases ZaR hb with ⟨j,u,rfl,e⟩ | ⟨y,u,rfl,e⟩
      · exact nomatch e
      · injection e with e1 _; rw[e1]
  byValue:=λk v h=>by
    rcases ZaR h with ⟨i,t,rfl,rfl⟩ | ⟨x,t,rfl,rfl⟩ <;> rfl
  pyHash:=λhv h=>by
    rcases ZaR hv with ⟨i,t,rfl,rfl⟩ | ⟨x,t,rfl,rfl⟩
    · exact wpAny_pyHash_int h
    · exact wpAny_pyHash_str h
  eqBool:=λhu hv h=>by
    rcases ZaR hu with ⟨i,t,rfl,rfl⟩ | ⟨x,t,rfl,rfl⟩
    · rcases ZaR hv with ⟨j,u,rfl,rfl⟩ | ⟨y,u,rfl,rfl⟩
      · rw[Znc] at h; exact wpAny_eqBool_int h
      · rw[Zne] at h; exact SeqAt.EqAt.int_str i t y u _ _ _ _ h
    · rcases ZaR hv with ⟨j,u,rfl,rfl⟩ | ⟨y,u,rfl,rfl⟩
      · rw[Znf] at h; exact SeqAt.EqAt.str_int x t j u _ _ _ _ h
      · rw[Znd] at h; exact wpAny_eqBool_str h
  «strs»:=λk x t v h=>by
    rcases ZaR h with ⟨i,u,rfl,e⟩ | ⟨y,u,rfl,e⟩
    · exact nomatch e
    · injection e with e1 _
      subst e1
      cases v <;> rfl
end L2
namespace L2
open PySem PySem.Spec PyProof.Rows
inductive V where
  | non | bl (b:Bool) | int (i:Int) | str (x:Str) | byt (b:Array UInt8) | flt (b:UInt64) | ref (a:Addr) | ty (n:String)
  deriving DecidableEq
def RelV:V->Value->Prop
  | .non,u=>u=Value.none
  | .bl b,u=>u=Value.bool b
  | .int i,u=>∃t,u=Value.int i t
  | .str x,u=>∃t,u=Value.str x t
  | .byt b,u=>∃t,u=Value.bytes b t
  | .flt b,u=>∃t,u=Value.float b t
  | .ref a,u=>u=Value.ref a
  | .ty n,u=>u=Value.type n
abbrev Vals:List V->List Value->Prop:=Paired RelV
theorem Vals.length{xs:List V}{us:List Value}(r:Vals xs us):xs.length=us.length:=Paired.length r
theorem Vals.get:∀ {xs:List V} {us:List Value} {i:Nat} {x:V},Vals xs us->xs[i]?=some x->∃u,us[i]?=some u/\RelV x u
  | _,_,_,_,.nil,e=>by simp at e
  | _,_,0,_,.cons r _,e=>by simp at e; subst e; exact ⟨_,rfl,r⟩
  | _,_,i+1,x,.cons _ t,e=>by
    obtain ⟨u,h1,h2⟩:=Vals.get (i:=i) (x:=x) t (by simpa using e)
    exact ⟨u,by simpa using h1,h2⟩
theorem Vals.set{x:V}{u:Value}(r:RelV x u):∀ {xs:List V} {us:List Value} (i:Nat),Vals xs us->Vals (xs.set i x) (us.set i u)
  | _,_,_,.nil => .nil
  | _,_,0,.cons _ t => .cons r t
  | _,_,i+1,.cons q t => .cons q (Vals.set r i t)
theorem Vals.append:∀ {xs ys:List V} {us ws:List Value},Vals xs us->Vals ys ws->Vals (xs++ys) (us++ws)
  | _,_,_,_,.nil,s=>s
  | _,_,_,_,.cons r t,s => .cons r (Vals.append t s)
theorem Vals.take:∀ {xs:List V} {us:List Value} (n:Nat),Vals xs us->Vals (xs.take n) (us.take n)
  | _,_,0,_ => .nil
  | _,_,_+1,.nil => .nil
  | _,_,n+1,.cons r t => .cons r (Vals.take n t)
theorem Vals.drop:∀ {xs:List V} {us:List Value} (n:Nat),Vals xs us->Vals (xs.drop n) (us.drop n)
  | _,_,0,r=>r
  | _,_,_+1,.nil => .nil
  | _,_,n+1,.cons _ t=>Vals.drop n t
theorem Vals.none_of:∀ {xs:List V} {us:List Value} {i:Nat},Vals xs us->xs[i]?=none->us[i]?=none:=fun {xs us i} r e=>by
  have h1:=r.length
  have h2:xs.length<=i:=List.getElem?_eq_none_iff.mp e
  exact List.getElem?_eq_none_iff.mpr (by omega)
def RelO:Option V->Option Value->Prop
  | some v,some u=>RelV v u
  | none,none=>True
  | _,_=>False
def KV{κ:Type}:List (κ×V)->List (κ×Value)->Prop:=Paired λ(p:κ×V) (q:κ×Value)=>p.1=q.1/\RelV p.2 q.2
def kV:Key->V
  | .inl i => .int i
  | .inr x => .str x
inductive HO where
    | lst (xs:List V)
    | tup (xs:List V)
    | dK (kvs:List (Key×V)) | dT (kvs:List (List Key×V))
    | set (S:Int->Bool) (n:Nat)
    | ins (C dx:Addr) (fs:List (Str×V))
    | own (x:Addr)
    | xd (fs:List (Str×V))
    | met (f x:Addr)
    | rng (lo hi:Int)
    | frz (o:Obj) (u:HO)
    | tbl (ps:Array Value)
    | ext (φ:Heap->Prop)
abbrev Hp:=Addr->Option HO
def upd(H:Hp)(a:Addr)(o:HO):Hp:=λb=>if b=a then some o else H b
theorem Zaf{H:Hp}{a:Addr}{o:HO}:upd H a o a=some o:=by unfold upd; rw[if_pos rfl]
theorem Zau{H:Hp}{a b:Addr}{o:HO}(h:b≠a):upd H a o b=H b:=by unfold upd; rw[if_neg h]
theorem ZaA{H:Hp}{a b:Addr}{o:HO}(h:H a=some o)(h':H b=none):a≠b:=by
  intro e; subst e; rw[h] at h'; cases h'
section
variable(P:Program)(w:World)
def ObjOk(H:Hp)(h:Heap)(a:Addr):HO->Prop
  | .lst xs=>xs.length<=sizeLine/\∃(its:List Value) (n:Nat),Vals xs its/\h.get? a=some { cls:=.type "list", data:=.seq its.toArray n }
  | .tup xs=>xs.length<=sizeLine/\∃its:List Value,Vals xs its/\IsTup h a its.toArray
  | .dK kvs=>kvs.length<=sizeLine/\(a==sysModules)=false/\∃vs,KV kvs vs/\h.DictOf (ZcM P w) a vs
  | .dT kvs=>kvs.length<=sizeLine/\(a==sysModules)=false/\∃xs:List (List Key×Addr×Value),
      Paired (λ(p:List Key×V) (q:List Key×Addr×Value)=>p.1=q.1/\H q.2.1=some (.tup (p.1.map kV))/\RelV p.2 q.2.2) kvs xs ∧
      ∃o es ep,h.get? a=some o/\o.ExactDict/\o.data = .dict es ep/\es.toList=xs.map (entryOfKey (tupleKind (ZcM P w)))/\(xs.map (·.1)).Nodup
  | .set S n=>h.SetOf (intKind P w) a S n
  | .ins C dx fs=>H dx=some (.own a)/\fs.length<=1000/\dx≠a/\h.get? a=some (PySem.W.instObj C dx) ∧
      ∃mA,h.Ns1 dx mA/\(∀f,RelO (fs.lookup f) (mA f))/\PySem.Within mA (fs.map (·.1))
  | .own _=>∃o,h.get? a=some o
  | .xd fs=>∃mA,h.Ns1 a mA/\∀f,RelO (fs.lookup f) (mA f)
  | .rng lo hi=>∃t u v,h.get? a=some { cls:=.type "range", data:=.fields #[.int lo t,.int hi u,.int 1 v] }
  | .frz o u=>h.get? a=some o/\ObjOk H h a u
  | .tbl ps=>h.get? a=some { cls:=.none,data:=.fields ps }
  | .met f x=>h.get? a=some (PySem.W.methodObj (.ref f) (.ref x))
  | .ext φ=>φ h/\(∃o,h.get? a=some o)/\∀h1 h2:Heap,φ h1->(∀o,h1.get? a=some o->h2.get? a=some o)->φ h2
def HOk(H:Hp)(h:Heap):Prop:=∀a o,H a=some o->ObjOk P w H h a o
end
section
variable{P:Program}{w:World}{H H':Hp}{h h':Heap}{a:Addr}{o:HO}
theorem ObjOk.lt(x:ObjOk P w H h a o):a<h.objs.size:=by
  cases o with
  | lst xs=>obtain ⟨_,_,_,_,e⟩:=x; exact Heap.lt_size e
  | tup xs=>obtain ⟨_,_,_,p⟩:=x; exact p.lt
  | dK kvs=>obtain ⟨_,_,_,_,o,_,_,e,_⟩:=x; exact Heap.lt_size e
  | dT kvs=>obtain ⟨_,_,_,_,o,_,_,e,_⟩:=x; exact Heap.lt_size e
  | set S n=>obtain ⟨o,_,_,_,e,_⟩:=x; exact Heap.lt_size e
  | ins C dx fs=>obtain ⟨_,_,_,e,_⟩:=x; exact Heap.lt_size e
  | own y=>obtain ⟨_,e⟩:=x; exact Heap.lt_size e
  | xd fs=>obtain ⟨_,⟨_,_,_,e,_⟩,_⟩:=x; exact Heap.lt_size e
  | rng lo hi=>obtain ⟨_,_,_,e⟩:=x; exact Heap.lt_size e
  | frz ob u=>obtain ⟨e,_⟩:=x; exact Heap.lt_size e
  | tbl ps=>exact Heap.lt_size (show h.get? a=some _ from x)
  | met f y=>exact Heap.lt_size (show h.get? a=some _ from x)
  | ext φ=>obtain ⟨_,⟨_,e⟩,_⟩:=x; exact Heap.lt_size e
theorem Paired.mapP{α β:Type}{F G:α->β->Prop}:∀ {l₁:List α} {l₂:List β},Paired F l₁ l₂->(∀a b,F a b->G a b)->Paired G l₁ l₂
  | _,_,.nil,_ => .nil
  | _,_,.cons r t,f => .cons (f _ _ r) (Paired.mapP t f)
theorem ObjOk.stay(x:ObjOk P w H h a o)(k:∀b u,(b=a\/H b=some (.own a))->h.get? b=some u->h'.get? b=some u)
    (ho:∀b,H b=some (.own a)->H' b=some (.own a)) (ht:∀b xs,H b=some (.tup xs)->H' b=some (.tup xs)):ObjOk P w H' h' a o:=by
  induction o with
  | lst xs=>obtain ⟨z,its,n,r,e⟩:=x; exact ⟨z,its,n,r,k _ _ (.inl rfl) e⟩
  | tup xs=>obtain ⟨z,its,r,ob,e,c⟩:=x; exact ⟨z,its,r,ob,k _ _ (.inl rfl) e,c⟩
  | dK kvs=>obtain ⟨z,y,vs,r,ob,es,ep,e,c⟩:=x; exact ⟨z,y,vs,r,ob,es,ep,k _ _ (.inl rfl) e,c⟩
  | dT kvs =>
    obtain ⟨z,y,xs,r,ob,es,ep,e,c⟩:=x
    exact ⟨z,y,xs,Paired.mapP r λp q z=>⟨z.1,ht _ _ z.2.1,z.2.2⟩,ob,es,ep,k _ _ (.inl rfl) e,c⟩
  | set S n=>obtain ⟨ob,es,ep,t,e,c⟩:=x; exact ⟨ob,es,ep,t,k _ _ (.inl rfl) e,c⟩
  | ins C dx fs =>
    obtain ⟨d,z,ne,e,mA,⟨od,es,ep,e2,c⟩,r⟩:=x
    exact ⟨ho _ d,z,ne,k _ _ (.inl rfl) e,mA,⟨od,es,ep,k _ _ (.inr d) e2,c⟩,r⟩
  | own y=>obtain ⟨ob,e⟩:=x; exact ⟨ob,k _ _ (.inl rfl) e⟩
  | xd fs=>obtain ⟨mA,⟨od,es,ep,e,c⟩,r⟩:=x; exact ⟨mA,⟨od,es,ep,k _ _ (.inl rfl) e,c⟩,r⟩
  | rng lo hi=>obtain ⟨t,u,v,e⟩:=x; exact ⟨t,u,v,k _ _ (.inl rfl) e⟩
  | frz ob u ih=>obtain ⟨e,q⟩:=x; exact ⟨k _ _ (.inl rfl) e,ih q⟩
  | tbl ps =>
    have e:h.get? a=some { cls:=.none,data:=.fields ps }:=x
    show h'.get? a=some { cls:=.none,data:=.fields ps }
    exact k a _ (.inl rfl) e
  | met f y =>
    have e:h.get? a=some (PySem.W.methodObj (.ref f) (.ref y)):=x
    show h'.get? a=some (PySem.W.methodObj (.ref f) (.ref y))
    exact k a _ (.inl rfl) e
  | ext φ=>obtain ⟨p,⟨o,e⟩,st⟩:=x; exact ⟨st _ _ p λo q=>k _ _ (.inl rfl) q,⟨o,k _ _ (.inl rfl) e⟩,st⟩
theorem HOk.lt(x:HOk P w H h)(e:H a=some o):a<h.objs.size:=(x a o e).lt
theorem HOk.fresh(x:HOk P w H h)(e:h.objs.size<=a):H a=none:=by
  cases q:H a with
  | none=>rfl
  | some u=>exact absurd (Q6 (x.lt q) e) (Qg _)
theorem HOk.kept(x:HOk P w H h)(k:∀b u,h.get? b=some u->h'.get? b=some u):HOk P w H h':=λa o e =>
  (x a o e).stay (λb u _ q=>k b u q) (λ_ q=>q) λ_ _ q=>q
theorem HOk.laid(x:HOk P w H h)(k:∀b u,h.get? b=some u->h'.get? b=some u)(hp:h.objs.size<=a)(new:ObjOk P w (upd H a o) h' a o):HOk P w (upd H a o) h':=λb u e=>by
  have hn:=x.fresh hp
  by_cases hb:b=a
  · subst hb; rw[Zaf] at e; cases e; exact new
  · rw[Zau hb] at e
    exact (x b u e).stay (λc v _ q=>k c v q) (λc q=>by rw[Zau (ZaA q hn)]; exact q) λc xs q=>by rw[Zau (ZaA q hn)]; exact q
end
def Rd(H:Hp)(a:Addr)(u:HO):Prop:=H a=some u\/∃o,H a=some (.frz o u)
theorem Rd.of{H:Hp}{a:Addr}{u:HO}(h:H a=some u):Rd H a u:=.inl h
theorem Rd.ok{P:Program}{w:World}{H:Hp}{h:Heap}{a:Addr}{u:HO}(r:Rd H a u)(x:HOk P w H h):ObjOk P w H h a u:=by
  rcases r with r | ⟨o,r⟩
  · exact x a u r
  · obtain ⟨_,q⟩:=x a _ r
    exact q
def Mut:Option HO->Prop
  | some (.lst _)=>True
  | some (.dK _)=>True
  | some (.dT _)=>True
  | some (.set _ _)=>True
  | some (.ins _ _ _)=>True
  | some (.ext _)=>True
  | _=>False
section
variable{P:Program}{w:World}{H:Hp}{h h':Heap}{x e:Addr}{o':HO}
theorem HOk.write(ok:HOk P w H h)(mu:Mut (H x))(he:e=x\/H e=some (.own x))(k:∀b u,b≠e->h.get? b=some u->h'.get? b=some u)(heo:∃u,h'.get? e=some u)
    (new:ObjOk P w (upd H x o') h' x o'):HOk P w (upd H x o') h':=λb u q=>by
  have nown:∀c y,H c=some (.own y)->c≠x:=λc y r z=>by subst z; rw[r] at mu; exact mu
  have ntup:∀c xs,H c=some (.tup xs)->c≠x:=λc xs r z=>by subst z; rw[r] at mu; exact mu
  by_cases hb:b=x
  · subst hb; rw[Zaf] at q; cases q; exact new
  · rw[Zau hb] at q
    by_cases hbe:b=e
    · have q':H b=some (.own x):=by
        rcases he with z | z
        · exact absurd (hbe.trans z) hb
        · rw[hbe]; exact z
      rw[q] at q'; cases q'
      obtain ⟨v,hv⟩:=heo
      exact ⟨v,by rw[hbe]; exact hv⟩
    · refine (ok b u q).stay (λc v hc r=>k c v ?_ r) (λc r=>by rw[Zau (nown c b r)]; exact r) λc xs r=>by rw[Zau (ntup c xs r)]; exact r
      rcases hc with rfl | hc
      · exact hbe
      · rintro rfl
        rcases he with z | z
        · exact nown c b hc z
        · rw[hc] at z; cases z; exact hb rfl
end
structure Un (fs ex:List Addr) (H H':Hp) (h h':Heap):Prop where
  keep:∀b o,h.get? b=some o->H b=none->b∉fs->b∉ex->h'.get? b=some o
  slot:∀b o,h.get? b=some o->H b=none->b∈fs->b∉ex->∃sl,h'.get? b=some { o with slots:=sl }
  free:∀b o,h.get? b=some o->H b=none->b∉ex->H' b=none
  there:∀b o,h.get? b=some o->b∉ex->∃o',h'.get? b=some o'
  tups:∀b xs,H b=some (.tup xs)->H' b=some (.tup xs)
  frzs:∀b o u,H b=some (.frz o u)->H' b=some (.frz o u)
  tbls:∀b ps,H b=some (.tbl ps)->∃more,H' b=some (.tbl (ps++more))
section
variable{fs fs' ex ex':List Addr}{H H1 H2:Hp}{h h1 h2 h':Heap}{a x e:Addr}{o:HO}
theorem Un.any(u:Un fs ex H H1 h h1){b:Addr}{ob:Obj}(q:h.get? b=some ob)(n:H b=none)(hx:b∉ex):∃sl,h1.get? b=some { ob with slots:=sl }:=by
  by_cases hb:b∈fs
  · exact u.slot b ob q n hb hx
  · exact ⟨ob.slots,u.keep b ob q n hb hx⟩
theorem Un.trans(a:Un fs ex H H1 h h1)(b:Un fs ex H1 H2 h1 h2):Un fs ex H H2 h h2 where
  keep:=λc ob q n hc hx=>b.keep c ob (a.keep c ob q n hc hx) (a.free c ob q n hx) hc hx
  slot:=λc ob q n hc hx=>by
    obtain ⟨sl,e1⟩:=a.slot c ob q n hc hx
    obtain ⟨sl',e2⟩:=b.slot c _ e1 (a.free c ob q n hx) hc hx
    exact ⟨sl',e2⟩
  free:=λc ob q n hx=>by
    obtain ⟨o',e1⟩:=a.there c ob q hx
    exact b.free c o' e1 (a.free c ob q n hx) hx
  there:=λc ob q hx=>by
    obtain ⟨o',e1⟩:=a.there c ob q hx
    exact b.there c o' e1 hx
  tups:=λc xs q=>b.tups c xs (a.tups c xs q)
  frzs:=λc ob xs q=>b.frzs c ob xs (a.frzs c ob xs q)
  tbls:=λc ps q=>by
    obtain ⟨m1,e1⟩:=a.tbls c ps q
    obtain ⟨m2,e2⟩:=b.tbls c _ e1
    exact ⟨m1++m2,by rw[e2,Array.append_assoc]⟩
theorem Un.kept(k:∀b u,h.get? b=some u->h'.get? b=some u):Un fs ex H H h h' :=
  ⟨λb ob q _ _ _=>k b ob q,λb ob q _ _ _=>⟨ob.slots,k b ob q⟩,λ_ _ _ n _=>n,λb ob q _=>⟨ob,k b ob q⟩,λ_ _ q=>q,λ_ _ _ q=>q,λ_ ps q=>⟨#[],by rw[q]; simp⟩⟩
theorem Un.refl:Un fs ex H H h h:=Un.kept λ_ _ q=>q
theorem Un.laid(k:∀b u,h.get? b=some u->h'.get? b=some u)(hp:h.objs.size<=a)(hn:H a=none):Un fs ex H (upd H a o) h h' where
  keep:=λb u q _ _ _=>k b u q
  slot:=λb u q _ _ _=>⟨u.slots,k b u q⟩
  free:=λb u q n _=>by rw[Zau (Qa (Q6 (Heap.lt_size q) hp))]; exact n
  there:=λb u q _=>⟨u,k b u q⟩
  tups:=λb xs q=>by rw[Zau (ZaA q hn)]; exact q
  frzs:=λb u xs q=>by rw[Zau (ZaA q hn)]; exact q
  tbls:=λb ps q=>⟨#[],by rw[Zau (ZaA q hn),q]; simp⟩
theorem Un.write(mu:Mut (H x))(he:e=x\/H e=some (.own x))(k:∀b u,b≠e->h.get? b=some u->h'.get? b=some u)(heo:∃u,h'.get? e=some u):Un fs ex H (upd H x o) h h':=by
  have hx:∀b,H b=none->b≠x:=λb n z=>by subst z; rw[n] at mu; exact mu
  have hb:∀b,H b=none->b≠e:=λb n z=>by
    subst z
    rcases he with r | r
    · exact hx b n r
    · rw[n] at r; cases r
  have hm:∀b u,H b=some u->¬Mut (some u)->b≠x:=λb u q nm z=>by subst z; rw[q] at mu; exact nm mu
  refine ⟨λb u q n _ _=>k b u (hb b n) q,λb u q n _ _=>⟨u.slots,k b u (hb b n) q⟩,λb u q n _=>by rw[Zau (hx b n)]; exact n,λb u q _=>?_,
    λb xs q=>by rw[Zau (hm b _ q λz=>z)]; exact q,λb u xs q=>by rw[Zau (hm b _ q λz=>z)]; exact q,λb ps q=>⟨#[],by rw[Zau (hm b _ q λz=>z),q]; simp⟩⟩
  by_cases hbe:b=e
  · subst hbe; exact heo
  · exact ⟨u,k b u hbe q⟩
theorem Un.mono(u:Un fs ex H H1 h h1)(hs:∀b∈fs,b∈fs')(hx:∀b∈ex,b∈ex'):Un fs' ex' H H1 h h1 :=
  ⟨λb ob q n hb he=>u.keep b ob q n (λz=>hb (hs b z)) λz=>he (hx b z),λ_ _ q n _ he=>u.any q n λz=>he (hx _ z),λb ob q n he=>u.free b ob q n λz=>he (hx b z),λb ob q he=>u.there b ob q λz=>he (hx b z),u.tups,u.frzs,u.tbls⟩
end
def trk(h:Heap)(H:Hp):List Addr:=(List.range h.objs.size).filter λa=>(H a).isSome
def Zkp(h:Heap)(H:Hp):Heap:=PySem.W.hideAll h (trk h H)
theorem ZiW(h:Heap)(H:Hp):(Zkp h H).objs.size=h.objs.size:=PySem.W.hideAll_size _ _
theorem Zkq{h:Heap}{H:Hp}{b:Addr}{o:Obj}(e:h.get? b=some o)(n:H b=none):(Zkp h H).get? b=some o :=
  PySem.W.hideAll_get _ e λhm=>by
    have q:(H b).isSome=true:=(List.mem_filter.mp hm).2
    rw[n] at q; simp at q
theorem ZlN{h:Heap}{H:Hp}{b:Addr}{o:Obj}(e:(Zkp h H).get? b=some o):h.get? b=some o/\H b=none:=by
  have e':h.get? b=some o:=PySem.W.of_hideAll (trk h H) e
  refine ⟨e',?_⟩
  cases q:H b with
  | none=>rfl
  | some x =>
    have hm:b∈trk h H:=List.mem_filter.mpr ⟨Wx.mpr (Heap.lt_size e'),by simp[q]⟩
    have z:(Zkp h H).get? b=none:=PySem.W.hideAll_none (trk h H) hm
    rw[z] at e; cases e
def ZlO(g h:Heap)(L:Addr):List (Addr×Obj):=(List.range h.objs.size).filterMap λa=>if a=L\/(g.get? a).isSome=true then none else (h.get? a).map λo=>(a,o)
def rest(g h:Heap)(L d:Addr):List (Addr×Obj):=(ZlO g h L).filter λp=>decide (p.1≠d)
end L2
namespace L2
open PySem PySem.Spec PyProof.Rows
structure Mod (K:PySem.W.Frag) (mg:Str->Option Value) (base:Heap):Prop where
  kin:K.In base
  glob:base.Ns mainGlobals mg
  blt:∃mb,base.Ns builtinsNs mb/\∀x:Str,x ≠ "__name__" -> mb x=bootBuiltins x
  nolimit:base.NoLimit
structure Cx where
  prog:Program
  w:World
  K:PySem.W.Frag
  mg:Str->Option Value
  base:Heap
  A:Around
  N:List Str
  s₀:Shared
  H₀:Hp
  env:Env
  outer:List Env
  stack:List Env
  ex:List Addr
  fn:Str->Bool
  calm:Bool
  pn:List (Addr×Obj)
  xe:Value->Shared->Prop
def frs(l:List Env):List Addr:=l.filterMap (·.frame)
abbrev Cx.fs(X:Cx):List Addr:=frs X.outer
def Vis(sc:Scope)(x:Str):Prop:=sc.names.lookup x=some .local\/sc.names.lookup x=some .cell\/sc.names.lookup x=some .free
def Loc(sc:Scope)(x:Str):Prop:=sc.names.lookup x=some .local\/sc.names.lookup x=some .cell
def Zo4(env:Env)(h:Heap)(m:Str->Option Value)(x:Str)(u:Value):Prop :=
  (env.kindOf x=some .local/\m x=some u)\/((env.kindOf x=some .cell\/env.kindOf x=some .free)/\∃c,env.cells.lookup x=some c/\h.IsCell c (some u))
structure Cx.Ok (X:Cx):Prop where
  mod:Mod X.K X.mg X.base
  kind:X.env.scope.kind = .function
  glob:X.env.globals=mainGlobals
  blt:X.env.builtins=builtinsNs
  above:X.s₀.heap.objs.size<=X.env.locals
  inj:∀x y c,X.env.cells.lookup x=some c->X.env.cells.lookup y=some c->x=y
  has:∀x,(X.env.kindOf x=some .cell\/X.env.kindOf x=some .free)->∃c,X.env.cells.lookup x=some c
  cab:∀x c,X.fn x=true->X.env.cells.lookup x=some c->X.s₀.heap.objs.size<=c
  hd:X.calm=true->X.A.handled=none
  frames:X.A.frames=some X.stack
  stk:X.stack=X.outer\/(X.stack=X.env::X.outer/\X.env.frame=some X.env.locals)
  exf:∀b∈X.ex,b≠X.env.locals/\∀x c,X.env.cells.lookup x=some c->c≠b
  bs:∀b o,X.base.get? b=some o->X.s₀.heap.get? b=some o/\X.H₀ b=none
  bsz:X.base.objs.size<=X.s₀.heap.objs.size
  noex:∀b o,X.base.get? b=some o->b∉X.ex
  exfs:∀b∈X.ex,b∉X.fs
  funs:X.s₀.heap.FunFrames X.base X.outer
  frf:∀b∈X.fs,X.H₀ b=none
structure Inv (X:Cx) (pins:List (Addr×Obj)) (σ:List (Option V)) (H:Hp) (s:Shared):Prop where
  ok:X.Ok
  os:s.os=X.s₀.os
  bare:AllBare s.gens
  base:Un X.fs X.ex X.H₀ H X.s₀.heap s.heap
  loc:∃m,s.heap.Ns X.env.locals m/\∀(i:Nat) (x:Str) (v:V),X.N[i]?=some x->σ[i]?=some (some v)->Vis X.env.scope x->∃u,RelV v u/\Zo4 X.env s.heap m x u
  cell:∀x c,X.env.cells.lookup x=some c->∃v,s.heap.IsCell c v
  free:H X.env.locals=none
  freeC:∀x c,X.env.cells.lookup x=some c->H c=none
  pin:∀p∈X.pn++pins,s.heap.get? p.1=some p.2/\H p.1=none/\p.1≠X.env.locals/\p.1∉X.fs/\∀v,p.2.data ≠ .cell v
  hok:HOk X.prog X.w H s.heap
  len:σ.length=X.N.length
section
variable{X:Cx}{pins:List (Addr×Obj)}{σ:List (Option V)}{H H':Hp}{s:Shared}{h':Heap}
theorem Cx.Ok.nofr(ok:X.Ok){b:Addr}{o:Obj}(e:X.base.get? b=some o):b∉X.fs:=λhb=>by
  have:=(ok.funs.mem hb).1
  rw[e] at this; cases this
theorem Inv.bs(I:Inv X pins σ H s):∀b o,X.base.get? b=some o->s.heap.get? b=some o/\H b=none:=λb o e =>
  ⟨I.base.keep b o (I.ok.bs b o e).1 (I.ok.bs b o e).2 (I.ok.nofr e) (I.ok.noex b o e),I.base.free b o (I.ok.bs b o e).1 (I.ok.bs b o e).2 (I.ok.noex b o e)⟩
theorem Inv.bk(I:Inv X pins σ H s):∀b o,X.base.get? b=some o->s.heap.get? b=some o:=λb o e=>(I.bs b o e).1
theorem Inv.mod(I:Inv X pins σ H s):Mod X.K X.mg X.base:=I.ok.mod
theorem Inv.kIn(I:Inv X pins σ H s):X.K.In s.heap:=I.ok.mod.kin.keeps I.bk
theorem Inv.nolimit(I:Inv X pins σ H s):s.heap.NoLimit:=I.ok.mod.nolimit.keeps I.bk
theorem Inv.fr(I:Inv X pins σ H s):∃m,Fr X.base X.env.locals s.heap m :=
  let ⟨m,hn,_⟩:=I.loc
  ⟨m,hn,I.bk,Q0 I.ok.bsz I.ok.above⟩
theorem Inv.lt(I:Inv X pins σ H s):X.env.locals<s.heap.objs.size:=let ⟨_,hn,_⟩:=I.loc; hn.lt
theorem Inv.sz(I:Inv X pins σ H s):X.s₀.heap.objs.size<=s.heap.objs.size:=Q0 I.ok.above (Ub I.lt)
theorem Inv.nofs(I:Inv X pins σ H s){a:Addr}(h:s.heap.objs.size<=a):a∉X.fs:=λhb=>by
  obtain ⟨_,o,ho,_⟩:=I.ok.funs.mem hb
  exact absurd (Q6 (Heap.lt_size ho) (Q0 I.sz h)) (Qg _)
theorem Inv.cne(I:Inv X pins σ H s):∀x c,X.env.cells.lookup x=some c->c≠X.env.locals:=λx c e z=>by
  obtain ⟨v,o,ho,hd⟩:=I.cell x c e
  obtain ⟨m,⟨o',es,ep,ho',hd',_⟩,_⟩:=I.loc
  rw[z,ho'] at ho; cases ho; rw[hd'] at hd; cases hd
theorem Inv.funs(I:Inv X pins σ H s):s.heap.FunFrames X.base X.outer:=by
  have all:∀(l:List Env),(∀b∈frs l,b∈X.fs)->X.s₀.heap.FunFrames X.base l->s.heap.FunFrames X.base l:=by
    intro l
    induction l with
    | nil=>intro _ _; trivial
    | cons env r ih =>
      intro hs hl
      obtain ⟨hk,⟨L,o,hf,hn,ho,hd⟩,hr⟩:=hl
      have hL:L∈X.fs:=hs L (by unfold frs; rw[Uy,hf]; exact Wg)
      obtain ⟨sl,e⟩:=I.base.slot L o ho (I.ok.frf L hL) hL λz=>I.ok.exfs L z hL
      exact ⟨hk,⟨L,_,hf,hn,e,hd⟩,ih (λb hb=>hs b (by unfold frs; rw[Uy,hf]; exact Wh _ hb)) hr⟩
  exact all X.outer (λ_ hb=>hb) I.ok.funs
theorem Inv.stack(I:Inv X pins σ H s):s.heap.FunFrames X.base X.stack:=by
  rcases I.ok.stk with e | ⟨e,hf⟩
  · rw[e]; exact I.funs
  · rw[e]
    obtain ⟨m,hn,_⟩:=I.loc
    refine .cons (by rw[I.ok.kind]; decide) hf hn ?_ I.funs
    exact Heap.get?_none_of_le (Q0 I.ok.bsz I.ok.above)
theorem Inv.stkSub(I:Inv X pins σ H s):∀b∈frs X.stack,b∈X.env.locals::X.fs:=λb hb=>by
  rcases I.ok.stk with e | ⟨e,hf⟩
  · rw[e] at hb; exact Wh _ hb
  · rw[e] at hb
    unfold frs at hb
    rw[Uy,hf] at hb
    exact hb
theorem Inv.stkFree(I:Inv X pins σ H s):∀b∈frs X.stack,H b=none:=λb hb=>by
  rcases Qh.mp (I.stkSub b hb) with e | hb
  · rw[e]; exact I.free
  · obtain ⟨_,o,ho,_⟩:=I.ok.funs.mem hb
    exact I.base.free b o ho (I.ok.frf b hb) λz=>I.ok.exfs b z hb
theorem Inv.step{g':Array GenState}{t':Nat}{d':Drawn}{ch:List Addr}(I:Inv X pins σ H s)
    (hch:∀b∈ch,(b∈X.ex\/X.s₀.heap.objs.size<=b)/\b≠X.env.locals/\(∀x c,X.env.cells.lookup x=some c->c≠b)/\∀p∈X.pn++pins,p.1≠b)
    (keep:∀b o,b≠X.env.locals->b∉X.fs->b∉ch->s.heap.get? b=some o->H b=none->h'.get? b=some o)
    (slot:∀b o,b≠X.env.locals->b∈X.fs->b∉ch->s.heap.get? b=some o->H b=none->∃sl,h'.get? b=some { o with slots:=sl }) (free:∀b o,b∉ch->s.heap.get? b=some o->H b=none->H' b=none)
    (there:∀b o,b∉ch->s.heap.get? b=some o->∃o',h'.get? b=some o')
    (tups:∀b xs,H b=some (.tup xs)->H' b=some (.tup xs)) (frzs:∀b o u,H b=some (.frz o u)->H' b=some (.frz o u)) (tbls:∀b ps,H b=some (.tbl ps)->∃more,H' b=some (.tbl (ps++more)))
    (ns:∀m,s.heap.Ns X.env.locals m->h'.Ns X.env.locals m) (hok:HOk X.prog X.w H' h') (hg:AllBare g') :
    Inv X pins σ H' { s with heap:=h',gens:=g',drawn:=d',toks:=t' }:=by
  have neL:∀b o,X.s₀.heap.get? b=some o->b≠X.env.locals:=λb o e=>Qa (Q6 (Heap.lt_size e) I.ok.above)
  have neC:∀b o,X.s₀.heap.get? b=some o->b∉X.ex->b∉ch:=λb o e hx hb=>by
    rcases (hch b hb).1 with z | z
    · exact hx z
    · exact absurd (Q6 (Heap.lt_size e) z) (Qg _)
  have cellK:∀x c,X.env.cells.lookup x=some c->∀v,s.heap.IsCell c v->h'.IsCell c v:=λx c e v ⟨o,ho,hd⟩=>by
    have nch:c∉ch:=λz=>(hch c z).2.2.1 x c e rfl
    by_cases hc:c∈X.fs
    · obtain ⟨sl,q⟩:=slot c o (I.cne x c e) hc nch ho (I.freeC x c e)
      exact ⟨_,q,hd⟩
    · exact ⟨o,keep c o (I.cne x c e) hc nch ho (I.freeC x c e),hd⟩
  refine ⟨I.ok,I.os,hg,⟨λb o e n hb hx=>?_,λb o e n hb hx=>?_,λb o e n hx=>?_,λb o e hx=>?_,λb xs e=>tups b xs (I.base.tups b xs e),λb o xs e=>frzs b o xs (I.base.frzs b o xs e),λb ps e=>?_⟩,?_,λx c e=>?_,?_,λx c e=>?_,λp hp=>?_,hok,I.len⟩
  · exact keep b o (neL b o e) hb (neC b o e hx) (I.base.keep b o e n hb hx) (I.base.free b o e n hx)
  · obtain ⟨sl,e1⟩:=I.base.slot b o e n hb hx
    obtain ⟨sl',e2⟩:=slot b _ (neL b o e) hb (neC b o e hx) e1 (I.base.free b o e n hx)
    exact ⟨sl',e2⟩
  · obtain ⟨o',e1⟩:=I.base.there b o e hx
    exact free b o' (neC b o e hx) e1 (I.base.free b o e n hx)
  · obtain ⟨o',e1⟩:=I.base.there b o e hx
    exact there b o' (neC b o e hx) e1
  · obtain ⟨m1,e1⟩:=I.base.tbls b ps e
    obtain ⟨m2,e2⟩:=tbls b _ e1
    exact ⟨m1++m2,by rw[e2,Array.append_assoc]⟩
  · obtain ⟨m,hn,hl⟩:=I.loc
    refine ⟨m,ns m hn,λi x v e1 e2 e3=>?_⟩
    obtain ⟨u,r,l⟩:=hl i x v e1 e2 e3
    refine ⟨u,r,?_⟩
    rcases l with l | ⟨k,c,e,z⟩
    · exact .inl l
    · exact .inr ⟨k,c,e,cellK x c e _ z⟩
  · obtain ⟨v,z⟩:=I.cell x c e
    exact ⟨v,cellK x c e v z⟩
  · obtain ⟨m,⟨o,_,_,ho,_⟩,_⟩:=I.loc
    exact free _ o (λz=>(hch _ z).2.1 rfl) ho I.free
  · obtain ⟨v,o,ho,hd⟩:=I.cell x c e
    exact free c o (λz=>(hch c z).2.2.1 x c e rfl) ho (I.freeC x c e)
  · obtain ⟨e,n,ne,nf,d⟩:=I.pin p hp
    have nch:p.1∉ch:=λz=>(hch p.1 z).2.2.2 p hp rfl
    exact ⟨keep p.1 p.2 ne nf nch e n,free p.1 p.2 nch e n,ne,nf,d⟩
theorem Inv.un{t':Nat}(I:Inv X pins σ H s)(u:Un X.fs [] H H' s.heap h')(hok:HOk X.prog X.w H' h'):Inv X pins σ H' { s with heap:=h',toks:=t' }:=by
  obtain ⟨m,⟨o,es,ep,ho,r⟩,_⟩:=id I.loc
  obtain ⟨sl,hL⟩:=u.any ho I.free (by simp)
  exact I.step (g':=s.gens) (d':=s.drawn) (ch:=[]) (λ_ z=>nomatch z) (λb o _ hb _ e n=>u.keep b o e n hb (by simp)) (λb o _ hb _ e n=>u.slot b o e n hb (by simp)) (λb o _ e n=>u.free b o e n (by simp)) (λb o _ e=>u.there b o e (by simp)) u.tups u.frzs u.tbls (λm' hm=>by
    obtain ⟨o',es',ep',ho',r'⟩:=hm
    rw[ho] at ho'; cases ho'
    exact ⟨_,es',ep',hL,r'⟩) hok I.bare
theorem Inv.call{g':Array GenState}{t':Nat}{d':Drawn}{ch:List Addr}(I:Inv X pins σ H s)(u:Un (frs X.stack) ch H H' s.heap h')(hok:HOk X.prog X.w H' h')(hg:AllBare g')
    (hch:∀b∈ch,(b∈X.ex\/X.s₀.heap.objs.size<=b)/\b≠X.env.locals/\(∀x c,X.env.cells.lookup x=some c->c≠b)/\∀p∈X.pn++pins,p.1≠b) :
    Inv X pins σ H' { s with heap:=h',gens:=g',drawn:=d',toks:=t' }:=by
  obtain ⟨m,⟨o,es,ep,ho,r⟩,_⟩:=id I.loc
  obtain ⟨sl,hL⟩:=u.any ho I.free λz=>(hch _ z).2.1 rfl
  exact I.step (ch:=ch) hch (λb o hL hb hc e n=>u.keep b o e n (λz=>(Qh.mp (I.stkSub b z)).elim hL hb) hc) (λb o _ _ hc e n=>u.any e n hc) (λb o hc e n=>u.free b o e n hc) (λb o hc e=>u.there b o e hc) u.tups u.frzs u.tbls (λm' hm=>by
    obtain ⟨o',es',ep',ho',r'⟩:=hm
    rw[ho] at ho'; cases ho'
    exact ⟨_,es',ep',hL,r'⟩) hok hg
theorem Inv.turned{t':Nat}{it:Addr}(I:Inv X pins σ H s)(k:∀b o,b≠it->s.heap.get? b=some o->h'.get? b=some o)(hn:H it=none)(hL:it≠X.env.locals)
    (h1:it∈X.ex\/X.s₀.heap.objs.size<=it) (h2:∀x c,X.env.cells.lookup x=some c->c≠it) (h3:∀p∈X.pn++pins,p.1≠it):Inv X pins σ H { s with heap:=h',toks:=t' }:=by
  have nit:∀b u,H b=some u->b≠it:=λb u e z=>by rw[z,hn] at e; cases e
  refine I.step (g':=s.gens) (d':=s.drawn) (ch:=[it]) (λb hb=>?_) (λb o _ _ hc e _=>k b o (λz=>hc (by simp[z])) e) (λb o _ _ hc e _=>⟨o.slots,k b o (λz=>hc (by simp[z])) e⟩) (λ_ _ _ _ n=>n)
    (λb o hc e=>⟨o,k b o (λz=>hc (by simp[z])) e⟩) (λ_ _ e=>e) (λ_ _ _ e=>e) (λb ps e=>⟨#[],by rw[e]; simp⟩) (λm hm=>?_) (λb u e=>?_) I.bare
  · have e:b=it:=by simpa using hb
    subst e
    exact ⟨h1,hL,h2,h3⟩
  · obtain ⟨o,es,ep,ho,r⟩:=hm
    exact ⟨o,es,ep,k _ o (Ne.symm hL) ho,r⟩
  · refine (I.hok b u e).stay (λc v hc q=>k c v ?_ q) (λ_ q=>q) λ_ _ q=>q
    rcases hc with z | z
    · rw[z]; exact nit b u e
    · exact nit c _ z
theorem Inv.tok(I:Inv X pins σ H s)(t:Nat):Inv X pins σ H { s with toks:=t }:=I.un (h':=s.heap) (t':=t) Un.refl I.hok
theorem Inv.kept{t':Nat}(I:Inv X pins σ H s)(k:∀b u,s.heap.get? b=some u->h'.get? b=some u):Inv X pins σ H { s with heap:=h',toks:=t' }:=I.un (Un.kept k) (I.hok.kept k)
theorem Inv.laid{a:Addr}{o:HO}{t':Nat}(I:Inv X pins σ H s)(k:∀b u,s.heap.get? b=some u->h'.get? b=some u)(hp:s.heap.objs.size<=a)(new:ObjOk X.prog X.w (upd H a o) h' a o) :
    Inv X pins σ (upd H a o) { s with heap:=h',toks:=t' }:=I.un (Un.laid k hp (I.hok.fresh hp)) (I.hok.laid k hp new)
theorem Inv.write{x e:Addr}{o:HO}{t':Nat}(I:Inv X pins σ H s)(mu:Mut (H x))(he:e=x\/H e=some (.own x))(k:∀b u,b≠e->s.heap.get? b=some u->h'.get? b=some u)(heo:∃u,h'.get? e=some u)
    (new:ObjOk X.prog X.w (upd H x o) h' x o):Inv X pins σ (upd H x o) { s with heap:=h',toks:=t' }:=I.un (Un.write mu he k heo) (I.hok.write mu he k heo new)
theorem Inv.weak{σ':List (Option V)}(I:Inv X pins σ H s)(hl:σ'.length=σ.length)(w:∀(i:Nat) v,σ'[i]?=some (some v)->σ[i]?=some (some v)):Inv X pins σ' H s :=
  ⟨I.ok,I.os,I.bare,I.base,let ⟨m,hn,hl'⟩:=I.loc; ⟨m,hn,λi x v e1 e2 e3=>hl' i x v e1 (w i v e2) e3⟩,I.cell,I.free,I.freeC,I.pin,I.hok,hl.trans I.len⟩
theorem Inv.pins_of{pins':List (Addr×Obj)}(I:Inv X pins σ H s)(h:∀p∈pins',s.heap.get? p.1=some p.2/\H p.1=none/\p.1≠X.env.locals/\p.1∉X.fs/\∀v,p.2.data ≠ .cell v):Inv X pins' σ H s :=
  ⟨I.ok,I.os,I.bare,I.base,I.loc,I.cell,I.free,I.freeC,λp hp=>(Qq.mp hp).elim (λz=>I.pin p (Uz _ z)) (h p),I.hok,I.len⟩
theorem Zhy{N:List Str}(hN:N.Nodup){i j:Nat}{x:Str}(a:N[i]?=some x)(b:N[j]?=some x):i=j:=by
  obtain ⟨h1,e1⟩:=Qi.mp a
  obtain ⟨h2,e2⟩:=Qi.mp b
  exact (List.getElem_inj hN).mp (e1.trans e2.symm)
theorem Zf4{M:Model}{A:Around}{E:Value->Shared->Prop}{i:Nat}{x:Str}{v:V}{u:Value}{Q:Unit->Shared->Prop}(I:Inv X pins σ H s)(hN:X.N.Nodup)(hi:X.N[i]?=some x)(hx:Loc X.env.scope x)(r:RelV v u)
    (h:∀s',Inv X pins (σ.set i (some v)) H s'->(∃a,Heap.SameBut a s.heap s'.heap/\(a=X.env.locals\/X.env.cells.lookup x=some a))->Q () s') (hf:X.fn x=true\/X.env.scope.names.lookup x=some .local:=by first | exact .inl rfl | exact .inr rfl | assumption):wpAny M A (storeName X.env x u) Q E s:=by
  obtain ⟨m,hn,hl⟩:=id I.loc
  have hcls:(X.env.scope.kind == .class||(X.env.scope.kind == .module&&X.env.locals != X.env.globals))=false:=by rw[I.ok.kind]; rfl
  have hiσ:i<σ.length:=by rw[I.len]; exact (Qi.mp hi).1
  have cne:=I.cne
  have tracked:∀ {a:Addr} {h':Heap},(∃o,s.heap.get? a=some o/\H a=none)->Heap.SameBut a s.heap h'->HOk X.prog X.w H h':=fun {a h'} ha hs b ob e=>by
    obtain ⟨_,_,hfree⟩:=ha
    refine (I.hok b ob e).stay (λc w' hc q=>(hs.2 c ?_).trans q) (λ_ q=>q) λ_ _ q=>q
    rintro rfl
    rcases hc with rfl | hc
    · rw[hfree] at e; cases e
    · rw[hfree] at hc; cases hc
  rcases hx with hk | hk
  · refine wpAny_storeName_local hk hn (λh' hn' hs=>?_) hcls
    obtain ⟨oL,_,_,hoL,_⟩:=id hn
    refine h _ ⟨I.ok,I.os,I.bare,⟨λb o e n hb hx=>?_,λb o e n hb hx=>?_,I.base.free,λb o e hx=>?_,I.base.tups,I.base.frzs,I.base.tbls⟩,⟨_,hn',λj y v' e1 e2 e3=>?_⟩,λy c e=>?_,I.free,I.freeC,λp hp=>?_,tracked ⟨oL,hoL,I.free⟩ hs,by simpa using I.len⟩ ⟨_,hs,.inl rfl⟩
    · exact (hs.2 b (Qa (Q6 (Heap.lt_size e) I.ok.above))).trans (I.base.keep b o e n hb hx)
    · obtain ⟨sl,e1⟩:=I.base.slot b o e n hb hx
      exact ⟨sl,(hs.2 b (Qa (Q6 (Heap.lt_size e) I.ok.above))).trans e1⟩
    · obtain ⟨o',e1⟩:=I.base.there b o e hx
      exact ⟨o',(hs.2 b (Qa (Q6 (Heap.lt_size e) I.ok.above))).trans e1⟩
    · by_cases hj:j=i
      · subst hj
        rw[hi] at e1; cases e1
        rw[List.getElem?_set_self hiσ] at e2
        cases e2
        exact ⟨u,r,.inl ⟨hk,by simp⟩⟩
      · rw[List.getElem?_set_ne (Ne.symm hj)] at e2
        obtain ⟨u',r',q⟩:=hl j y v' e1 e2 e3
        refine ⟨u',r',?_⟩
        rcases q with ⟨k,e⟩ | ⟨k,c,e,z⟩
        · refine .inl ⟨k,?_⟩
          have:y≠x:=λe=>hj (Zhy hN e1 (e ▸ hi))
          simp[this,e]
        · exact .inr ⟨k,c,e,z.sameBut hs (cne y c e)⟩
    · obtain ⟨w',z⟩:=I.cell y c e
      exact ⟨w',z.sameBut hs (cne y c e)⟩
    · obtain ⟨e,n,ne,nf,d⟩:=I.pin p hp
      exact ⟨(hs.2 p.1 ne).trans e,n,ne,nf,d⟩
  · have hfn:X.fn x=true:=by
      rcases hf with z | z
      · exact z
      · rw[z] at hk; cases hk
    obtain ⟨c,hc⟩:=I.ok.has x (.inl hk)
    obtain ⟨w',z⟩:=I.cell x c hc
    refine wpAny_storeName_cell I.ok.kind hk hc z (λh' hc' hs=>?_)
    obtain ⟨oc,hoc,hocd⟩:=id z
    refine h { s with heap:=h' } ⟨I.ok,I.os,I.bare,⟨λb o e n hb hx=>?_,λb o e n hb hx=>?_,I.base.free,λb o e hx=>?_,I.base.tups,I.base.frzs,I.base.tbls⟩,⟨m,hn.sameBut hs (Ne.symm (cne x c hc)),λj y v' e1 e2 e3=>?_⟩,λy c' e=>?_,I.free,I.freeC,λp hp=>?_,tracked ⟨oc,hoc,I.freeC x c hc⟩ hs,by simpa using I.len⟩ ⟨c,hs,.inr hc⟩
    · exact (hs.2 b (Qa (Q6 (Heap.lt_size e) (I.ok.cab x c hfn hc)))).trans (I.base.keep b o e n hb hx)
    · obtain ⟨sl,e1⟩:=I.base.slot b o e n hb hx
      exact ⟨sl,(hs.2 b (Qa (Q6 (Heap.lt_size e) (I.ok.cab x c hfn hc)))).trans e1⟩
    · obtain ⟨o',e1⟩:=I.base.there b o e hx
      exact ⟨o',(hs.2 b (Qa (Q6 (Heap.lt_size e) (I.ok.cab x c hfn hc)))).trans e1⟩
    · by_cases hj:j=i
      · subst hj
        rw[hi] at e1; cases e1
        rw[List.getElem?_set_self hiσ] at e2
        cases e2
        exact ⟨u,r,.inr ⟨.inl hk,c,hc,hc'⟩⟩
      · rw[List.getElem?_set_ne (Ne.symm hj)] at e2
        obtain ⟨u',r',q⟩:=hl j y v' e1 e2 e3
        refine ⟨u',r',?_⟩
        rcases q with q | ⟨k,c',e,z'⟩
        · exact .inl q
        · refine .inr ⟨k,c',e,z'.sameBut hs ?_⟩
          rintro rfl
          exact hj (Zhy hN e1 (I.ok.inj _ _ _ e hc ▸ hi))
    · by_cases hcc:c'=c
      · subst hcc; exact ⟨_,hc'⟩
      · obtain ⟨w2,z2⟩:=I.cell y c' e
        exact ⟨w2,z2.sameBut hs hcc⟩
    · obtain ⟨e,n,ne,nf,d⟩:=I.pin p hp
      refine ⟨(hs.2 p.1 ?_).trans e,n,ne,nf,d⟩
      intro q
      rw[q,hoc] at e
      have q':oc=p.2:=Option.some.inj e
      exact d w' (by rw[<-q']; exact hocd)
theorem Zcy{M:Model}{A:Around}{E:Value->Shared->Prop}{i:Nat}{x:Str}{v:V}{u:Value}{Q:Unit->Shared->Prop}(I:Inv X pins σ H s)(hN:X.N.Nodup)(hi:X.N[i]?=some x)(hx:Loc X.env.scope x)(r:RelV v u)
    (h:∀s',Inv X pins (σ.set i (some v)) H s'->Q () s') (hf:X.fn x=true\/X.env.scope.names.lookup x=some .local:=by first | exact .inl rfl | exact .inr rfl | assumption):wpAny M A (storeName X.env x u) Q E s :=
  Zf4 I hN hi hx r (λs' I' _=>h s' I') hf
theorem Inv.call'{s':Shared}{ch:List Addr}(I:Inv X pins σ H s)(ho:s'.os=s.os)(u:Un (frs X.stack) ch H H' s.heap s'.heap)(hok:HOk X.prog X.w H' s'.heap)(hg:AllBare s'.gens)
    (hch:∀b∈ch,(b∈X.ex\/X.s₀.heap.objs.size<=b)/\b≠X.env.locals/\(∀x c,X.env.cells.lookup x=some c->c≠b)/\∀p∈X.pn++pins,p.1≠b):Inv X pins σ H' s':=by
  obtain ⟨h',g',d',t',o'⟩:=s'
  have e:o'=s.os:=ho
  subst e
  exact I.call (g':=g') (t':=t') (d':=d') u hok hg hch
end
abbrev XK:=Value->Option Addr->Hp->Prop
abbrev St:=List (Option V)
abbrev VK:=V->Hp->Prop
abbrev TE:=St->Hp->VK->Prop
abbrev TT:=St->Hp->(Bool->Hp->Prop)->Prop
abbrev TA:=St->Hp->(List V->Hp->Prop)->Prop
structure Ends where
  nx:St->Hp->Prop
  rt:VK
  bk:St->Hp->Prop:=λ_ _=>False
  ct:St->Hp->Prop:=λ_ _=>False
abbrev TS:=Ends->St->Hp->Prop
def EP(X:Cx)(pins:List (Addr×Obj))(σ:St)(Q:VK)(u:Value)(s':Shared):Prop:=∃v H',Inv X pins σ H' s'/\RelV v u/\Q v H'
def TP(X:Cx)(pins:List (Addr×Obj))(σ:St)(Q:Bool->Hp->Prop)(b:Bool)(s':Shared):Prop:=∃H',Inv X pins σ H' s'/\Q b H'
def AP(X:Cx)(pins:List (Addr×Obj))(σ:St)(Q:List V->Hp->Prop)(us:List Value)(s':Shared):Prop:=∃vs H',Inv X pins σ H' s'/\Vals vs us/\Q vs H'
def SP(X:Cx)(pins:List (Addr×Obj))(D:Ends)(f:Flow)(s':Shared):Prop :=
  match f with
  | .next=>∃σ' H',Inv X pins σ' H' s'/\D.nx σ' H'
  | .brk=>∃σ' H',Inv X pins σ' H' s'/\D.bk σ' H'
  | .cont=>∃σ' H',Inv X pins σ' H' s'/\D.ct σ' H'
  | .ret u=>∃v σ' H',Inv X pins σ' H' s'/\RelV v u/\D.rt v H'
def PE(X:Cx)(e:Expr)(t:TE):Prop :=
  ∀(pins:List (Addr×Obj)) (s:Shared) (σ:St) (H:Hp) (Q:VK),Inv X pins σ H s->t σ H Q->wpAny (model X.prog X.w) X.A (eval e X.env) (EP X pins σ Q) X.xe s
def PT(X:Cx)(e:Expr)(t:TT):Prop :=
  ∀(pins:List (Addr×Obj)) (s:Shared) (σ:St) (H:Hp) (Q:Bool->Hp->Prop),Inv X pins σ H s->t σ H Q->wpAny (model X.prog X.w) X.A (isTrue e X.env (eval e X.env)) (TP X pins σ Q) X.xe s
def PW(X:Cx)(e:Expr)(t:TT):Prop :=
  ∀(whole:Sem Value) (pins:List (Addr×Obj)) (s:Shared) (σ:St) (H:Hp) (Q:Bool->Hp->Prop),Inv X pins σ H s->t σ H Q->wpAny (model X.prog X.w) X.A (isTrue e X.env whole) (TP X pins σ Q) X.xe s
theorem PW.pt{X:Cx}{e:Expr}{t:TT}(h:PW X e t):PT X e t:=h _
def PA(X:Cx)(es:List Expr)(t:TA):Prop :=
  ∀(pos:Pos) (pins:List (Addr×Obj)) (s:Shared) (σ:St) (H:Hp) (Q:List V->Hp->Prop),Inv X pins σ H s->t σ H Q->wpAny (model X.prog X.w) X.A (spliced (backTo pos (starEach es X.env))) (AP X pins σ Q) X.xe s
def PS(X:Cx)(st:Stmt)(t:TS):Prop :=
  ∀(pins:List (Addr×Obj)) (s:Shared) (σ:St) (H:Hp) (D:Ends),Inv X pins σ H s->t D σ H->wpAny (model X.prog X.w) X.A (exec st X.env) (SP X pins D) X.xe s
def PSs(X:Cx)(st:List Stmt)(t:TS):Prop :=
  ∀(pins:List (Addr×Obj)) (s:Shared) (σ:St) (H:Hp) (D:Ends),Inv X pins σ H s->t D σ H->wpAny (model X.prog X.w) X.A (execs st X.env) (SP X pins D) X.xe s
theorem thn{α:Type}{t:Sem α}{Q Q':α->Shared->Prop}{M:Model}{A:Around}{E:Value->Shared->Prop}{s:Shared}(h:wpAny M A t Q E s)(hQ:∀a s,Q a s->Q' a s):wpAny M A t Q' E s:=wpAny_mono h hQ λ_ _ x=>x
end L2
namespace L2
open PySem PySem.Spec PyProof.Rows
section
variable{X:Cx}
theorem bin{a b:Expr}{ta tb:TE}(ha:PE X a ta)(hb:PE X b tb){pins:List (Addr×Obj)}{s:Shared}{σ:St}{H:Hp}{R:V->V->Hp->Prop}(I:Inv X pins σ H s)(h:ta σ H λx H1=>tb σ H1 λy H2=>R x y H2)
    {α:Type} {Q:α->Shared->Prop} {f:Value->Value->Sem α}
    (hf:∀v u s2 x y H2,Inv X pins σ H2 s2->RelV x v->RelV y u->R x y H2->wpAny (model X.prog X.w) X.A (f v u) Q X.xe s2) :
    wpAny (model X.prog X.w) X.A (eval a X.env) (λv s₁=>wpAny (model X.prog X.w) X.A (eval b X.env) (λu s₂=>wpAny (model X.prog X.w) X.A (f v u) Q X.xe s₂) X.xe s₁) X.xe s:=by
  refine thn (ha pins s σ H _ I h) λv s1 ⟨x,H1,I1,r1,q1⟩=>?_
  refine thn (hb pins s1 σ H1 _ I1 q1) λu s2 ⟨y,H2,I2,r2,q2⟩=>?_
  exact hf v u s2 x y H2 I2 r1 r2 q2
def Zo5(i:Nat):TE:=λσ H Q=>∃v,σ[i]?=some (some v)/\Q v H
def tC(v:V):TE:=λ_ H Q=>Q v H
theorem Zng{i:Nat}{x:Str}{pos:Pos}(hN:X.N[i]?=some x)(hv:Vis X.env.scope x)(hd:(x==("__debug__" : Str))=false:=by decide) (hcd:(x==("__classdict__" : Str))=false:=by decide):PE X (.Name x pos) (Zo5 i):=by
  intro pins s σ H Q I h
  obtain ⟨v,e,h⟩:=h
  obtain ⟨m,hn,hl⟩:=I.loc
  obtain ⟨u,r,l⟩:=hl i x v hN e hv
  have fin:EP X pins σ Q u s:=⟨v,H,I,r,h⟩
  rcases l with ⟨hk,hm⟩ | ⟨hk,c,hc,hcell⟩
  · exact wpAny_Name (wpAny_loadName_local I.ok.kind hk hn hm fin) hd
  · rcases hk with hk | hk
    · exact wpAny_Name (wpAny_loadName_cell I.ok.kind hk hc hcell fin) hd
    · exact wpAny_Name (wpAny_loadName_free I.ok.kind hk hc hcell fin hcd) hd
theorem Zad{i j pos}:PE X (.Constant (.int i) j pos) (tC (.int i)):=λ_ _ _ H _ I h=>wpAny_Constant_int ⟨.int i,H,I.tok _,⟨_,rfl⟩,h⟩
theorem Zdl{b j pos}:PE X (.Constant (.bool b) j pos) (tC (.bl b)):=λ_ _ _ H _ I h=>Constant_bool ⟨.bl b,H,I,rfl,h⟩
theorem Zhz{j pos}:PE X (.Constant .none j pos) (tC .non):=λ_ _ _ H _ I h=>Constant_none ⟨.non,H,I,rfl,h⟩
theorem ZhA{x j pos}:PE X (.Constant (.str x) j pos) (tC (.str x)):=λ_ _ _ H _ I h=>Calls.Constant_str ⟨.str x,H,I.tok _,⟨_,rfl⟩,h⟩
def Gl(X:Cx)(x:Str):Prop:=X.env.kindOf x=some .globalImplicit
theorem ZcN{E:Value->Shared->Prop}{pins:List (Addr×Obj)}{s:Shared}{σ:St}{H:Hp}{x:Str}{u:Value}{pos:Pos}{Q:Value->Shared->Prop}(I:Inv X pins σ H s)(hg:Gl X x)(hm:X.mg x=some u)(h:Q u s)
    (hd:(x==("__debug__" : Str))=false:=by decide):wpAny (model X.prog X.w) X.A (eval (.Name x pos) X.env) Q E s :=
  Calls.Name_function_global I.ok.kind hg (Calls.loadGlobal_global (by rw[I.ok.glob]; exact I.mod.glob.keeps I.bk) hm h) hd
theorem ZdC{E:Value->Shared->Prop}{pins:List (Addr×Obj)}{s:Shared}{σ:St}{H:Hp}{x:Str}{u:Value}{pos:Pos}{Q:Value->Shared->Prop}(I:Inv X pins σ H s)(hg:Gl X x)(hm:X.mg x=none)(hv:bootBuiltins x=some u)(h:Q u s)
    (hn:x ≠ "__name__" := by decide) (hd:(x==("__debug__" : Str))=false:=by decide):wpAny (model X.prog X.w) X.A (eval (.Name x pos) X.env) Q E s:=by
  obtain ⟨mb,h1,h2⟩:=I.mod.blt
  exact Calls.Name_function_global I.ok.kind hg (Calls.loadGlobal_builtin (by rw[I.ok.glob]; exact I.mod.glob.keeps I.bk) hm (by rw[I.ok.blt]; exact h1.keeps I.bk) ((h2 x hn).trans hv) h) hd
theorem Zb0{x:Str}{v:V}{u:Value}{pos:Pos}(hg:Gl X x)(hm:X.mg x=some u)(r:RelV v u)(hd:(x==("__debug__" : Str))=false:=by decide):PE X (.Name x pos) (tC v) :=
  λ_ _ _ H _ I h=>ZcN I hg hm ⟨v,H,I,r,h⟩ hd
theorem ZlP{x:Str}{v:V}{u:Value}{pos:Pos}(hg:Gl X x)(hm:X.mg x=none)(hv:bootBuiltins x=some u)(r:RelV v u)(hn:x ≠ "__name__" := by decide) (hd:(x==("__debug__" : Str))=false:=by decide):PE X (.Name x pos) (tC v) :=
  λ_ _ _ H _ I h=>ZdC I hg hm hv ⟨v,H,I,r,h⟩ hn hd
variable{a b:Expr}{ta tb:TE}{pos:Pos}
def tB(t:TE):TT:=λσ H Q=>t σ H λx H1=>∃c,x = .bl c/\Q c H1
theorem ZaL{e:Expr}{t:TE}(h:PE X e t)(he:∀whole,isTrue e X.env whole=(do let v ← whole; standAt e.pos; holding [v] (truthy v)):=by intro _; rfl):PT X e (tB t):=by
  intro pins s σ H Q I hw
  refine isTrue_plain (thn (h pins s σ H _ I hw) λv s1 ⟨x,H1,I1,r1,q1⟩=>?_) (he _)
  obtain ⟨d,rfl,q⟩:=q1
  cases r1
  exact wpAny_truthy_bool ⟨H1,I1,q⟩
variable{tA tB':TT}{rest:List Expr}
def Zpo(t u:TT):TT:=λσ H Q=>t σ H λc H1=>if c=true then u σ H1 Q else Q false H1
def tOr(t u:TT):TT:=λσ H Q=>t σ H λc H1=>if c=true then Q true H1 else u σ H1 Q
def Zpp(t:TT):TT:=λσ H Q=>t σ H λc H1=>Q (!c) H1
theorem ZiX(ha:PT X a tA):PW X (.BoolOp .And [a] pos) tA:=by
  intro wh pins s σ H Q I h
  refine isTrue_and (thn (ha pins s σ H Q I h) λc s1 e=>?_)
  cases c with
  | true=>exact isTrue_and_nil e
  | false=>exact e
theorem Zc0(ha:PT X a tA):PW X (.BoolOp .Or [a] pos) tA:=by
  intro wh pins s σ H Q I h
  refine isTrue_or (thn (ha pins s σ H Q I h) λc s1 e=>?_)
  cases c with
  | false=>exact isTrue_or_nil e
  | true=>exact e
theorem Zla(ha:PT X a tA)(hb:PW X (.BoolOp .And (b::rest) pos) tB'):PW X (.BoolOp .And (a::b::rest) pos) (Zpo tA tB'):=by
  intro wh pins s σ H Q I h
  refine isTrue_and (thn (ha pins s σ H _ I h) λc s1 ⟨H1,I1,q1⟩=>?_)
  cases c with
  | true=>exact hb wh pins s1 σ H1 Q I1 q1
  | false=>exact ⟨H1,I1,q1⟩
theorem Zc1(ha:PT X a tA)(hb:PW X (.BoolOp .Or (b::rest) pos) tB'):PW X (.BoolOp .Or (a::b::rest) pos) (tOr tA tB'):=by
  intro wh pins s σ H Q I h
  refine isTrue_or (thn (ha pins s σ H _ I h) λc s1 ⟨H1,I1,q1⟩=>?_)
  cases c with
  | true=>exact ⟨H1,I1,q1⟩
  | false=>exact hb wh pins s1 σ H1 Q I1 q1
theorem Zci(ha:PT X a tA):PT X (.UnaryOp .Not a pos) (Zpp tA):=by
  intro pins s σ H Q I h
  exact isTrue_not (ha pins s σ H (λc H1=>Q (!c) H1) I h)
def Zol(ta tb:TE):TE:=λσ H Q=>ta σ H λx H1=>∃c,x = .bl c/\if c=true then tb σ H1 Q else Q (.bl false) H1
def Zom(ta:TE):TE:=λσ H Q=>ta σ H λx H1=>∃c,x = .bl c/\Q (.bl (!c)) H1
theorem ZeY{op}{t:TE}(h:PE X a t):PE X (.BoolOp op [a] pos) t:=λpins s σ H Q I hw=>BoolOp_one (h pins s σ H Q I hw)
theorem Zd4(ha:PE X a ta)(hb:PE X (.BoolOp .And (b::rest) pos) tb):PE X (.BoolOp .And (a::b::rest) pos) (Zol ta tb):=by
  intro pins s σ H Q I h
  refine BoolOp_and (thn (ha pins s σ H _ I h) λv s1 ⟨x,H1,I1,r1,q1⟩=>?_)
  obtain ⟨c,rfl,q1⟩:=q1
  cases r1
  refine wpAny_truthy_bool ?_
  cases c with
  | true=>exact hb pins s1 σ H1 Q I1 q1
  | false=>exact ⟨.bl false,H1,I1,rfl,q1⟩
theorem Zlb(ha:PE X a ta):PE X (.UnaryOp .Not a pos) (Zom ta):=by
  intro pins s σ H Q I h
  refine UnaryOp_ (thn (ha pins s σ H _ I h) λv s1 ⟨x,H1,I1,r1,q1⟩=>?_)
  obtain ⟨c,rfl,q1⟩:=q1
  cases r1
  exact not_of (wpAny_truthy_bool ⟨.bl (!c),H1,I1,rfl,q1⟩)
end
end L2
namespace L2
open PySem PySem.Spec PyProof.Rows
def SqL(K:PySem.W.Frag)(H:Hp)(a:Addr)(xs:List V):Prop :=
  Rd H a (.lst xs) ∨
    ∃(o:Obj) (its:Array Value) (n:Nat),K.lookup a=some o/\o.cls = .type "list" /\ o.dict=none/\o.data = .seq its n/\its.size<=sizeLine/\Vals xs its.toList
def SqT(K:PySem.W.Frag)(H:Hp)(a:Addr)(xs:List V):Prop :=
  Rd H a (.tup xs) ∨
    ∃(o:Obj) (its:Array Value) (n:Nat),K.lookup a=some o/\o.cls = .type "tuple" /\ o.data = .seq its n/\its.size<=sizeLine/\Vals xs its.toList
def Zpq:Value->Option V
  | .none=>some .non
  | .bool b=>some (.bl b)
  | .int i _=>some (.int i)
  | .str x _=>some (.str x)
  | .bytes b _=>some (.byt b)
  | .float b _=>some (.flt b)
  | .ref a=>some (.ref a)
  | .type n=>some (.ty n)
  | _=>none
theorem RelV.abs{x:V}{u:Value}(r:RelV x u):Zpq u=some x:=by
  cases x with
  | non=>cases r; rfl
  | bl _=>cases r; rfl
  | int _=>obtain ⟨t,rfl⟩:=r; rfl
  | str _=>obtain ⟨t,rfl⟩:=r; rfl
  | byt _=>obtain ⟨t,rfl⟩:=r; rfl
  | flt _=>obtain ⟨t,rfl⟩:=r; rfl
  | ref _=>cases r; rfl
  | ty _=>cases r; rfl
theorem RelV.inj{x y:V}{u:Value}(r:RelV x u)(q:RelV y u):x=y:=Option.some.inj (r.abs.symm.trans q.abs)
theorem Vals.inj:∀ {xs ys:List V} {us:List Value},Vals xs us->Vals ys us->xs=ys
  | _,_,_,.nil,.nil=>rfl
  | _,_,_,.cons r t,.cons r' t'=>by rw[r.inj r',Vals.inj t t']
section
variable{X:Cx}{pins:List (Addr×Obj)}{σ:St}{H:Hp}{s:Shared}{a:Addr}{xs ys:List V}
theorem SqL.of{K:PySem.W.Frag}(h:H a=some (.lst xs)):SqL K H a xs:=.inl (.inl h)
theorem SqT.of{K:PySem.W.Frag}(h:H a=some (.tup xs)):SqT K H a xs:=.inl (.inl h)
theorem Inv.list(I:Inv X pins σ H s)(h:SqL X.K H a xs):∃its:List Value,Vals xs its/\PlainL s.heap a its.toArray/\xs.length<=sizeLine:=by
  rcases h with h | ⟨o,its,n,hk,hc,hd,hs,hz,r⟩
  · obtain ⟨z,its,n,r,e⟩:=h.ok I.hok
    exact ⟨its,r,⟨_,n,e,rfl,rfl,rfl⟩,z⟩
  · refine ⟨its.toList,r,⟨o,n,I.kIn a o hk,hc,hd,by simpa using hs⟩,?_⟩
    have e:=r.length
    simp only[Array.length_toList] at e
    omega
theorem Inv.tuple(I:Inv X pins σ H s)(h:SqT X.K H a xs):∃its:List Value,Vals xs its/\IsTup s.heap a its.toArray/\xs.length<=sizeLine:=by
  rcases h with h | ⟨o,its,n,hk,hc,hs,hz,r⟩
  · obtain ⟨z,its,r,p⟩:=h.ok I.hok
    exact ⟨its,r,p,z⟩
  · refine ⟨its.toList,r,⟨o,I.kIn a o hk,hc,n,by simpa using hs⟩,?_⟩
    have e:=r.length
    simp only[Array.length_toList] at e
    omega
theorem Inv.list_inj(I:Inv X pins σ H s)(h:SqL X.K H a xs)(h':SqL X.K H a ys):xs=ys:=by
  obtain ⟨its,r,⟨o,n,e,_,_,d⟩,_⟩:=I.list h
  obtain ⟨its',r',⟨o',n',e',_,_,d'⟩,_⟩:=I.list h'
  rw[e] at e'; cases e'
  rw[d] at d'
  injection d' with d1 _
  have:its=its':=by simpa using congrArg Array.toList d1
  subst this
  exact r.inj r'
theorem Inv.tuple_inj(I:Inv X pins σ H s)(h:SqT X.K H a xs)(h':SqT X.K H a ys):xs=ys:=by
  obtain ⟨its,r,⟨o,e,_,n,d⟩,_⟩:=I.tuple h
  obtain ⟨its',r',⟨o',e',_,n',d'⟩,_⟩:=I.tuple h'
  rw[e] at e'; cases e'
  rw[d] at d'
  injection d' with d1 _
  have:its=its':=by simpa using congrArg Array.toList d1
  subst this
  exact r.inj r'
end
abbrev Cx.wish(X:Cx)(E:Value->Shared->Prop):Cx:={ X with xe:=E }
abbrev Cx.nox(X:Cx):Cx:=X.wish λ_ _=>False
theorem Cx.Ok.wish{X:Cx}(ok:X.Ok)(E:Value->Shared->Prop):(X.wish E).Ok :=
  ⟨ok.mod,ok.kind,ok.glob,ok.blt,ok.above,ok.inj,ok.has,ok.cab,ok.hd,ok.frames,ok.stk,ok.exf,ok.bs,ok.bsz,ok.noex,ok.exfs,ok.funs,ok.frf⟩
theorem Cx.Ok.unwish{X:Cx}{E:Value->Shared->Prop}(ok:(X.wish E).Ok):X.Ok :=
  ⟨ok.mod,ok.kind,ok.glob,ok.blt,ok.above,ok.inj,ok.has,ok.cab,ok.hd,ok.frames,ok.stk,ok.exf,ok.bs,ok.bsz,ok.noex,ok.exfs,ok.funs,ok.frf⟩
section
variable{X:Cx}{pins:List (Addr×Obj)}{σ:St}{H:Hp}{s:Shared}{E:Value->Shared->Prop}
theorem Inv.wish(I:Inv X pins σ H s)(E:Value->Shared->Prop):Inv (X.wish E) pins σ H s:=⟨I.ok.wish E,I.os,I.bare,I.base,I.loc,I.cell,I.free,I.freeC,I.pin,I.hok,I.len⟩
theorem Inv.unwish(I:Inv (X.wish E) pins σ H s):Inv X pins σ H s:=⟨I.ok.unwish,I.os,I.bare,I.base,I.loc,I.cell,I.free,I.freeC,I.pin,I.hok,I.len⟩
theorem SP.unwish{D:Ends}{f:Flow}{s':Shared}(h:SP (X.wish E) pins D f s'):SP X pins D f s':=by
  cases f with
  | next=>obtain ⟨σ',H',I,q⟩:=h; exact ⟨σ',H',I.unwish,q⟩
  | brk=>obtain ⟨σ',H',I,q⟩:=h; exact ⟨σ',H',I.unwish,q⟩
  | cont=>obtain ⟨σ',H',I,q⟩:=h; exact ⟨σ',H',I.unwish,q⟩
  | ret u=>obtain ⟨v,σ',H',I,r,q⟩:=h; exact ⟨v,σ',H',I.unwish,r,q⟩
theorem PE.nox{e:Expr}{t:TE}(h:PE X.nox e t):PE X e t:=λpins s σ H Q I hw =>
  wpAny_mono (h pins s σ H Q (I.wish _) hw) (λ_ _ ⟨v,H',I',r,q⟩=>⟨v,H',I'.unwish,r,q⟩) λ_ _ z=>False.elim z
theorem PT.nox{e:Expr}{t:TT}(h:PT X.nox e t):PT X e t:=λpins s σ H Q I hw =>
  wpAny_mono (h pins s σ H Q (I.wish _) hw) (λ_ _ ⟨H',I',q⟩=>⟨H',I'.unwish,q⟩) λ_ _ z=>False.elim z
theorem PSs.nox{st:List Stmt}{t:TS}(h:PSs X.nox st t):PSs X st t:=λpins s σ H D I hw =>
  wpAny_mono (h pins s σ H D (I.wish _) hw) (λ_ _ q=>q.unwish) λ_ _ z=>False.elim z
end
section
variable{X:Cx}{st:Stmt}{rest:List Stmt}{t u:TS}{e:Expr}{te:TE}{pos:Pos}
def Zon:TS:=λD σ H=>D.nx σ H
def Zoh(t u:TS):TS:=λD σ H=>t { D with nx:=u D } σ H
theorem Zar:PSs X [] Zon:=λ_ _ σ H _ I h=>wpAny_execs_nil ⟨σ,H,I,h⟩
theorem Zac(h1:PS X st t)(h2:PSs X rest u):PSs X (st::rest) (Zoh t u):=by
  intro pins s σ H D I h
  refine wpAny_execs_cons (thn (h1 pins s σ H { D with nx:=u D } I h) λf s1 q=>?_)
  cases f with
  | next =>
    obtain ⟨σ',H',I',q⟩:=q
    exact h2 pins s1 σ' H' D I' q
  | ret v=>exact q
  | brk=>exact q
  | cont=>exact q
theorem Zae(h1:PS X st t):PSs X [st] t:=by
  intro pins s σ H D I h
  refine wpAny_execs_cons (thn (h1 pins s σ H D I h) λf s1 q=>?_)
  cases f with
  | next=>exact wpAny_execs_nil q
  | ret v=>exact q
  | brk=>exact q
  | cont=>exact q
def Znh:TS:=λD σ H=>D.bk σ H
theorem Zkr:PS X (.Break pos) Znh:=λ_ _ σ H _ I h=>wpAny_Break ⟨σ,H,I,h⟩
theorem Inv.quiet{pins:List (Addr×Obj)}{σ:St}{H:Hp}{s:Shared}(I:Inv X pins σ H s):interactive X.env=false:=by simp[interactive,I.ok.kind]
def Zoo(te:TE):TS:=λD σ H=>te σ H λ_ H1=>D.nx σ H1
theorem ZaZ(he:PE X e te)(hs:swapsWith e none pos.line X.env=pure false:=by rfl):PS X (.Expr e pos) (Zoo te):=by
  intro pins s σ H D I h
  exact wpAny_Expr_any (thn (he pins s σ H _ I h) λv s1 ⟨x,H1,I1,r1,q1⟩=>⟨σ,H1,I1,q1⟩) I.quiet hs
def Zpr(te:TE):TS:=λD σ H=>te σ H D.rt
theorem Zan(he:PE X e te):PS X (.Return (some e) pos) (Zpr te):=by
  intro pins s σ H D I h
  exact wpAny_Return_some (thn (he pins s σ H _ I h) λv s1 ⟨x,H1,I1,r1,q1⟩=>⟨x,σ,H1,I1,r1,q1⟩)
def Zps(c:TT)(t u:TS):TS:=λD σ H=>c σ H λb H1=>if b=true then t D σ H1 else u D σ H1
theorem ZaD{c:Expr}{a b:List Stmt}{tc:TT}(hc:PT X c tc)(ha:PSs X a t)(hb:PSs X b u):PS X (.If c a b pos) (Zps tc t u):=by
  intro pins s σ H D I h
  refine wpAny_If (thn (hc pins s σ H _ I h) λd s1 ⟨H1,I1,q1⟩=>?_)
  cases d with
  | true=>exact ha pins s1 σ H1 D I1 q1
  | false=>exact hb pins s1 σ H1 D I1 q1
def Zni:TS:=λ_ _ _=>False
theorem Zks:PS X st Zni:=λ_ _ _ _ _ _ h=>h.elim
end
abbrev TG:=V->St->Hp->(St->Hp->Prop)->Prop
abbrev TGs:=List V->St->Hp->(St->Hp->Prop)->Prop
def PG(X:Cx)(target:Expr)(t:TG):Prop :=
  ∀(pins:List (Addr×Obj)) (s:Shared) (σ:St) (H:Hp) (v:V) (u:Value) (Q:St->Hp->Prop),Inv X pins σ H s->RelV v u->t v σ H Q →
    wpAny (model X.prog X.w) X.A (assign target X.env u) (λ_ s'=>∃σ' H',Inv X pins σ' H' s'/\Q σ' H') X.xe s
def PGs(X:Cx)(ts:List Expr)(t:TGs):Prop :=
  ∀(pins:List (Addr×Obj)) (s:Shared) (σ:St) (H:Hp) (vs:List V) (us:List Value) (Q:St->Hp->Prop),Inv X pins σ H s->Vals vs us->t vs σ H Q →
    wpAny (model X.prog X.w) X.A (assignInOrder ((assignEach ts X.env).map (·.2)) us) (λ_ s'=>∃σ' H',Inv X pins σ' H' s'/\Q σ' H') X.xe s
abbrev Zop:=V->V->V->Hp->(Hp->Prop)->Prop
def Zo6(X:Cx)(t:Zop):Prop :=
  ∀(pins:List (Addr×Obj)) (s:Shared) (σ:St) (H:Hp) (o i v:V) (ov iv u:Value) (Q:Hp->Prop),Inv X pins σ H s->RelV o ov->RelV i iv->RelV v u->t o i v H Q →
    wpAny (model X.prog X.w) X.A (setItem ov iv u) (λ_ s'=>∃H',Inv X pins σ H' s'/\Q H') X.xe s
abbrev TIp:=V->V->Hp->VK->Prop
def PIp(X:Cx)(op:Operator)(t:TIp):Prop :=
  ∀(pins:List (Addr×Obj)) (s:Shared) (σ:St) (H:Hp) (x y:V) (v u:Value) (Q:VK),Inv X pins σ H s->RelV x v->RelV y u->t x y H Q →
    wpAny (model X.prog X.w) X.A (inplaceOp op v u) (EP X pins σ Q) X.xe s
section
variable{X:Cx}{pos:Pos}
def ZcO(i:Nat):TG:=λv σ H Q=>Q (σ.set i (some v)) H
theorem Zap{i:Nat}{x:Str}(hN:X.N.Nodup)(hi:X.N[i]?=some x)(hx:Loc X.env.scope x)(hf:X.fn x=true\/X.env.scope.names.lookup x=some .local:=by first | exact .inl rfl | exact .inr rfl | assumption):PG X (.Name x pos) (ZcO i):=by
  intro pins s σ H v u Q I r h
  exact wpAny_assign_Name (Zcy I hN hi hx r (λs' I'=>⟨_,H,I',h⟩) hf)
def Zo7:TGs:=λvs σ H Q=>vs=[]/\Q σ H
def ZlQ(t:TG)(u:TGs):TGs:=λvs σ H Q=>∃v r,vs=v::r/\t v σ H λσ' H'=>u r σ' H' Q
theorem ZiY:PGs X [] Zo7:=by
  intro pins s σ H vs us Q I r h
  obtain ⟨e,h⟩:=h
  subst e
  cases r
  exact assignInOrder_nil ⟨σ,H,I,h⟩
theorem ZdO{e:Expr}{es:List Expr}{t:TG}{u:TGs}(h1:PG X e t)(h2:PGs X es u)
    (hs:(assignEach (e::es) X.env).map (·.2)=assign e X.env::(assignEach es X.env).map (·.2):=by rfl):PGs X (e::es) (ZlQ t u):=by
  intro pins s σ H vs us Q I r h
  obtain ⟨v,vr,e1,h⟩:=h
  subst e1
  cases r with
  | cons r rr =>
    rw[hs]
    refine assignInOrder_cons (thn (h1 pins s σ H _ _ _ I r h) λ_ s1 ⟨σ1,H1,I1,q1⟩=>?_)
    exact h2 pins s1 σ1 H1 _ _ Q I1 rr q1
def Zoq(K:PySem.W.Frag)(n:Nat)(t:TGs):TG:=λv σ H Q=>∃a xs,v = .ref a/\SqT K H a xs/\xs.length=n/\t xs σ H Q
theorem Zlc{es:List Expr}{k:Nat}{t:TGs}{n:Nat}(hc:X.calm=true)(h:PGs X es t)
    (hn:(assignEach es X.env).length=n:=by rfl) (hst:(assignEach es X.env).findIdx? (·.1)=none:=by rfl):PG X (.Tuple es k pos) (Zoq X.K n t):=by
  intro pins s σ H v u Q I r hw
  obtain ⟨a,xs,e1,hq,hl,hw⟩:=hw
  subst e1
  cases r
  obtain ⟨its,rv,ht,hz⟩:=I.tuple hq
  refine assign_Tuple_tuple (I.ok.hd hc) ht (by simp[hn,<-hl,rv.length]) hst λh' hx=>?_
  have I1:Inv X pins σ H { s with heap:=h' }:=I.kept (t':=s.toks) λb o e=>hx b o (Qa (Heap.lt_size e)) e
  exact h pins _ σ H xs _ Q I1 (by simpa using rv) hw
def Zpt(to ti:TE)(t:Zop):TG:=λv σ H Q=>to σ H λo H1=>ti σ H1 λi H2=>t o i v H2 λH3=>Q σ H3
theorem Zcf{o i:Expr}{to ti:TE}{t:Zop}(ho:PE X o to)(hi:PE X i ti)(hs:Zo6 X t)
    (ha:∀v,assign (.Subscript o i pos) X.env v=(do
      let ov ← holding [v] (eval o X.env)
      let iv ← holding [v,ov] (eval i X.env)
      standAt pos
      holding [v,ov,iv] (setItem ov iv v)
      release [v,ov,iv] []):=by intro _; rfl):PG X (.Subscript o i pos) (Zpt to ti t):=by
  intro pins s σ H v u Q I r h
  rw[ha]
  refine wpAny_bind (wpAny_holding (thn (ho pins s σ H _ I h) λov s1 ⟨x,H1,I1,r1,q1⟩=>?_))
  refine wpAny_bind (wpAny_holding (thn (hi pins s1 σ H1 _ I1 q1) λiv s2 ⟨y,H2,I2,r2,q2⟩=>?_))
  refine wpAny_bind (wpAny_standAt (wpAny_bind (wpAny_holding (thn (hs pins s2 σ H2 x y v ov iv u _ I2 r1 r2 r q2) λ_ s3 ⟨H3,I3,q3⟩=>?_))))
  exact wpAny_release ⟨σ,H3,I3,q3⟩
def Zor(te:TE)(g:TG):TS:=λD σ H=>te σ H λx H1=>g x σ H1 D.nx
theorem Zcg{tg e:Expr}{te:TE}{g:TG}(he:PE X e te)(hg:PG X tg g)(hs:swapsWithSole [tg] e pos.line X.env=pure false:=by rfl)(hw:swappedStores [tg] e X.env=pure none:=by rfl)
    (h1:(assignEach [tg] X.env).map (·.2)=[assign tg X.env]:=by rfl):PS X (.Assign [tg] e pos) (Zor te g):=by
  intro pins s σ H D I h
  refine wpAny_Assign_stores (thn (he pins s σ H _ I h) λv s1 ⟨x,H1,I1,r1,q1⟩=>?_) hs hw
  rw[h1]
  exact thn (hg pins s1 σ H1 x v _ I1 r1 q1) λ_ s2 q=>q
theorem Zal{i:Nat}{x:Str}{e:Expr}{te:TE}{pos':Pos}(hN:X.N.Nodup)(hi:X.N[i]?=some x)(hx:Loc X.env.scope x)(he:PE X e te)(hs:swapsWith e (some (.Name x pos')) pos.line X.env=pure false:=by rfl)(hf:X.fn x=true\/X.env.scope.names.lookup x=some .local:=by first | exact .inl rfl | exact .inr rfl | assumption) :
    PS X (.Assign [.Name x pos'] e pos) (Zor te (ZcO i)):=by
  intro pins s σ H D I h
  refine wpAny_Assign_Name (thn (he pins s σ H _ I h) λv s1 ⟨y,H1,I1,r1,q1⟩=>?_) hs
  exact Zcy I1 hN hi hx r1 (λs2 I2=>⟨_,H1,I2,q1⟩) hf
def Zpu(i j:Nat)(ta:TA):TS:=λD σ H=>ta σ H λvs H1=>∃v w,vs=[v,w]/\D.nx ((σ.set i (some v)).set j (some w)) H1
theorem Znj{i j:Nat}{x y:Str}{a b:Expr}{ta:TA}{px py pt:Pos}{kt k2 pt2}(hc:X.calm=true)(hN:X.N.Nodup)(hi:X.N[i]?=some x)(hj:X.N[j]?=some y)(hij:i≠j)
    (hx:X.env.scope.names.lookup x=some .local) (hy:X.env.scope.names.lookup y=some .local) (ha:PA X [a,b] ta)
    (hw:swappedStores [.Tuple [.Name x px,.Name y py] kt pt] (.Tuple [a,b] k2 pt2) X.env=pure (some [x,y]))
    (hs:swapsWithSole [.Tuple [.Name x px,.Name y py] kt pt] (.Tuple [a,b] k2 pt2) pos.line X.env=pure false:=by rfl) :
    PS X (.Assign [.Tuple [.Name x px,.Name y py] kt pt] (.Tuple [a,b] k2 pt2) pos) (Zpu i j ta):=by
  intro pins s σ H D I h
  rw[exec_Assign_arm]
  refine wpAny_bind (wpAny_standAt ?_)
  rw[hs]
  refine wpAny_bind (wpAny_pure ?_)
  rw[if_neg (by decide)]
  refine wpAny_bind (Tuple_ (thn (ha _ pins s σ H _ I h) λus s1 ⟨vs,H1,I1,r1,q1⟩=>?_))
  obtain ⟨v,w,e1,q1⟩:=q1
  subst e1
  obtain ⟨u1,u2,rfl,rv,rw'⟩:∃u1 u2,us=[u1,u2]/\RelV v u1/\RelV w u2:=by
    cases r1 with
    | cons p q =>
      cases q with
      | cons p' q' =>
        cases q'
        exact ⟨_,_,rfl,p,p'⟩
  refine wpAny_newObj_type ?_ (by show 2<=sizeLine; decide)
  have I2:Inv X pins σ H1 { s1 with heap:=s1.heap.push { cls:=.type "tuple", data:=.seq [u1,u2].toArray } }:=I1.kept (t':=s1.toks) λb o e=>Heap.get?_push_of_some _ e
  rw[hw]
  refine wpAny_bind (wpAny_pure ?_)
  show wpAny (model X.prog X.w) X.A (do rule "assign.swapped-stores"; let items ← unpackItems (.ref s1.heap.objs.size) 2 none; assignInOrder [λv=>bindName X.env y v,λv=>bindName X.env x v] items.reverse; pure Flow.next) _ _ _
  refine wpAny_bind (wpAny_rule (wpAny_bind (unpackItems_tuple (items:=#[u1,u2]) (I.ok.hd hc) (IsTup.new s1.heap _) λh' hx'=>?_)))
  have I3:=I2.kept (h':=h') (t':=s1.toks) λb o e=>hx' b o (Qa (Heap.lt_size e)) e
  show wpAny _ _ (assignInOrder [λv=>bindName X.env y v,λv=>bindName X.env x v] [u2,u1] >>= λ_=>pure Flow.next) _ _ _
  refine wpAny_bind (assignInOrder_cons (wpAny_bindName (Zcy I3 hN hj (.inl hy) rw' (λs2 I4=>?_) (.inr hy))))
  refine assignInOrder_cons (wpAny_bindName (Zcy I4 hN hi (.inl hx) rv (λs3 I5=>assignInOrder_nil (wpAny_pure ?_)) (.inr hx)))
  rw[List.set_comm _ _ (Ne.symm hij)] at I5
  exact ⟨_,H1,I5,q1⟩
def Zpv(i:Nat)(te:TE)(ti:TIp):TS:=λD σ H=>∃x,σ[i]?=some (some x)/\te σ H λy H1=>ti x y H1 λz H2=>D.nx (σ.set i (some z)) H2
theorem ZiZ{i:Nat}{x:Str}{e:Expr}{te:TE}{op:Operator}{ti:TIp}{pos':Pos}(hN:X.N.Nodup)(hi:X.N[i]?=some x)(hx:Loc X.env.scope x)(he:PE X e te)(ho:PIp X op ti)(hf:X.fn x=true\/X.env.scope.names.lookup x=some .local:=by first | exact .inl rfl | exact .inr rfl | assumption) :
    PS X (.AugAssign (.Name x pos') op e pos) (Zpv i te ti):=by
  intro pins s σ H D I h
  obtain ⟨v,e1,h⟩:=h
  obtain ⟨m,hn,hl⟩:=I.loc
  have vis:Vis X.env.scope x:=by rcases hx with k | k; exact .inl k; exact .inr (.inl k)
  obtain ⟨u,r,l⟩:=hl i x v hi e1 vis
  refine wpAny_AugAssign_Name ?_
  have go:wpAny (model X.prog X.w) X.A (eval e X.env) (λw s₂=>wpAny (model X.prog X.w) X.A (inplaceOp op u w) (λr s₃=>wpAny (model X.prog X.w) X.A (storeName X.env x r) (λ_=>SP X pins D .next) X.xe s₃) X.xe s₂) X.xe s:=by
    refine thn (he pins s σ H _ I h) λw s1 ⟨y,H1,I1,r1,q1⟩=>?_
    refine thn (ho pins s1 σ H1 v y u w _ I1 r r1 q1) λz s2 ⟨zv,H2,I2,r2,q2⟩=>?_
    exact Zcy I2 hN hi hx r2 (λs3 I3=>⟨_,H2,I3,q2⟩) hf
  rcases l with ⟨hk,hm⟩ | ⟨hk,c,hc,hcell⟩
  · exact wpAny_loadName_local I.ok.kind hk hn hm go
  · rcases hk with hk | hk
    · exact wpAny_loadName_cell I.ok.kind hk hc hcell go
    · rcases hx with k | k
      · have:X.env.scope.names.lookup x=some .free:=hk
        rw[k] at this; cases this
      · have:X.env.scope.names.lookup x=some .free:=hk
        rw[k] at this; cases this
def ipI(f:Int->Int->Int):TIp:=λx y H Q=>∃i j,x = .int i/\y = .int j/\Q (.int (f i j)) H
theorem Zld:PIp X .Add (ipI λi j=>i+j):=by
  intro pins s σ H x y v u Q I r1 r2 h
  obtain ⟨i,j,e1,e2,q⟩:=h
  subst e1; subst e2
  obtain ⟨t,rfl⟩:=r1
  obtain ⟨t',rfl⟩:=r2
  exact iadd_int ⟨.int _,H,I.tok _,⟨_,rfl⟩,q⟩
end
section
variable{X:Cx}{pos:Pos}
def Znk(c:TT)(tb:TS):TS:=λD σ H=>∃W:Nat->St->Hp->Prop,(∃m,W m σ H)/\∀m σ H,W m σ H →
  c σ H λb H1=>if b=true then ∃N:St->Hp->Prop,(∀σ' H',N σ' H'->∃m',m'<m/\W m' σ' H')/\tb { D with nx:=N,ct:=N,bk:=D.nx } σ H1 else D.nx σ H1
theorem ZbM{c:Expr}{body:List Stmt}{tc:TT}{tb:TS}(hp:PassesOwn (model X.prog X.w) X.A X.env X.xe)(hc:PT X c tc)(hb:PSs X body tb):PS X (.While c body [] pos) (Znk tc tb):=by
  intro pins s σ H D I h
  obtain ⟨W,⟨m0,w0⟩,turn⟩:=h
  refine wpAny_While (codeAny_whileLoop (λn s'=>∃σ' H',Inv X pins σ' H' s'/\W n σ' H') ?_ m0 ⟨σ,H,I,w0⟩)
  rintro n s1 ⟨σ1,H1,I1,w1⟩
  refine wpAny_passesOwn hp (thn (hc pins s1 σ1 H1 _ I1 (turn n σ1 H1 w1)) λb s2 ⟨H2,I2,q2⟩=>?_)
  cases b with
  | true =>
    obtain ⟨N,hN,q2⟩:=q2
    rw[if_pos rfl]
    refine wpAny_passesOwn hp (thn (hb pins s2 σ1 H2 _ I2 q2) λf s3 q3=>?_)
    cases f with
    | next =>
      obtain ⟨σ3,H3,I3,n3⟩:=q3
      obtain ⟨m',hm,w3⟩:=hN σ3 H3 n3
      exact ⟨m',hm,σ3,H3,I3,w3⟩
    | cont =>
      obtain ⟨σ3,H3,I3,n3⟩:=q3
      obtain ⟨m',hm,w3⟩:=hN σ3 H3 n3
      exact ⟨m',hm,σ3,H3,I3,w3⟩
    | brk=>exact q3
    | ret v=>exact q3
  | false =>
    rw[if_neg Qr]
    exact wpAny_execs_nil ⟨σ1,H2,I2,q2⟩
end
structure It where
  go:Nat->Hp->Prop
  yld:Nat->Hp->V->Hp->Prop
  stop:Nat->Hp->Prop
def Zi0(X:Cx)(pins:List (Addr×Obj))(H:Hp)(b:Addr):Prop :=
  H b=none/\b≠X.env.locals/\b∉X.fs/\(b∈X.ex\/X.s₀.heap.objs.size<=b)/\(∀x c,X.env.cells.lookup x=some c->c≠b)/\∀p∈X.pn++pins,p.1≠b
theorem Inv.fpOk{X:Cx}{pins:List (Addr×Obj)}{σ:St}{H H':Hp}{s:Shared}{b:Addr}(I:Inv X pins σ H s)(hb:s.heap.objs.size<=b)(hn:H' b=none):Zi0 X pins H' b:=by
  refine ⟨hn,Ul (Q6 I.lt hb),I.nofs hb,.inr (Q0 I.sz hb),λx c e z=>?_,λp hp z=>?_⟩
  · obtain ⟨v,q⟩:=I.cell x c e
    exact absurd (Q6 q.lt (by rw[z]; exact hb)) (Qg _)
  · exact absurd (Q6 (Heap.lt_size (I.pin p hp).1) (by rw[z]; exact hb)) (Qg _)
structure Turn (P:Program) (w:World) (K:PySem.W.Frag) (tg:Expr) (J:It) (fp:List Addr) (it:Addr) (tn:Nat->Heap->Prop):Prop where
  mem:it∈fp
  obj:∀i h,tn i h->∀b∈fp,∃o,h.get? b=some o/\∀v,o.data ≠ .cell v
  keep:∀i h h',tn i h->(∀b∈fp,∀o,h.get? b=some o->h'.get? b=some o)->tn i h'
  item:∀(X:Cx),X.prog=P->X.w=w->X.K=K->X.calm=true->∀(i:Nat) (pins:List (Addr×Obj)) (s:Shared) (σ:St) (H:Hp) (E:Value->Shared->Prop),Inv X pins σ H s->(∀b∈fp,Zi0 X pins H b)->tn i s.heap->J.go i H →
    wpAny (model P w) X.A (pyNext (.ref it)) (λr s1=>∃u,r=some u ∧
      wpAny (model P w) X.A (letOwnedTupleGo tg (.ref it) u) (λ_ s2=>∃x H',Inv X pins σ H' s2/\RelV x u/\J.yld i H x H'/\tn (i+1) s2.heap/\∀b∈fp,H' b=none) E s1) E s
  done:∀(X:Cx),X.prog=P->X.w=w->X.K=K->X.calm=true->∀(i:Nat) (pins:List (Addr×Obj)) (s:Shared) (σ:St) (H:Hp) (E:Value->Shared->Prop),Inv X pins σ H s->(∀b∈fp,Zi0 X pins H b)->tn i s.heap->J.stop i H →
    wpAny (model P w) X.A (pyNext (.ref it)) (λr s1=>r=none/\Inv X pins σ H s1) E s
  self:∀(A:Around) (i:Nat) (s:Shared) (Q:Value->Shared->Prop) (E:Value->Shared->Prop),tn i s.heap->Q (.ref it) s->wpAny (model P w) A (pyIter (.ref it)) Q E s
abbrev TI:=St->Hp->(It->Hp->Prop)->Prop
def PIE(X:Cx)(pins:List (Addr×Obj))(σ:St)(tg:Expr)(R:It->Hp->Prop)(itv:Value)(s2:Shared):Prop :=
  ∃(it:Addr) (fp:List Addr) (tn:Nat->Heap->Prop) (J:It) (H':Hp),itv = .ref it/\Inv X pins σ H' s2/\Turn X.prog X.w X.K tg J fp it tn/\tn 0 s2.heap/\(∀b∈fp,Zi0 X pins H' b)/\R J H'
def PI(X:Cx)(tg iter:Expr)(wi:TI):Prop :=
  ∀(pins:List (Addr×Obj)) (s:Shared) (σ:St) (H:Hp) (R:It->Hp->Prop),Inv X pins σ H s->wi σ H R →
    wpAny (model X.prog X.w) X.A (eval iter X.env) (λv s1=>wpAny (model X.prog X.w) X.A (pyIter v) (PIE X pins σ tg R) X.xe s1) X.xe s
theorem ZlR{M:Model}{A:Around}{E:Value->Shared->Prop}{s:Shared}{tg:Expr}{it:Addr}{u:Value}{o:Obj}{n:String}{vs:Array Value}{Q:Unit->Shared->Prop}(ho:s.heap.get? it=some o)(hc:o.cls = .type n)(hd:o.data = .fields vs)
    (hn:["enumerate", "zip", "dict_itemiterator", "dict_reverseitemiterator", "odict_iterator", "itertools.zip_longest", "itertools.pairwise"].contains n=false) (hQ:Q () s):wpAny M A (letOwnedTupleGo tg (.ref it) u) Q E s:=by
  unfold letOwnedTupleGo
  cases tg <;> first
    | exact wpAny_pure hQ
    | (cases u <;> first
        | exact wpAny_pure hQ
        | (refine wpAny_bind (wpAny_load ho ?_)
           rw[hc,hd]
           show wpAny M A (if (["enumerate", "zip", "dict_itemiterator", "dict_reverseitemiterator", "odict_iterator", "itertools.zip_longest", "itertools.pairwise"].contains n&&vs[0]?==some (rawInt _))=true then _ else _) Q E s
           rw[if_neg (by intro h; rw[hn,Bool.false_and] at h; cases h)]
           exact wpAny_pure hQ))
def Itl(K:PySem.W.Frag)(a:Addr):It :=
  ⟨λi H=>∃xs x,SqL K H a xs/\xs[i]?=some x,λi H x H'=>H'=H/\∀xs,SqL K H a xs->xs[i]?=some x,λi H=>∃xs,SqL K H a xs/\xs.length<=i⟩
def Itt(K:PySem.W.Frag)(a:Addr):It :=
  ⟨λi H=>∃xs x,SqT K H a xs/\xs[i]?=some x,λi H x H'=>H'=H/\∀xs,SqT K H a xs->xs[i]?=some x,λi H=>∃xs,SqT K H a xs/\xs.length<=i⟩
def Itr(lo:Int)(n:Nat):It:=⟨λi _=>i<n,λi H x H'=>H'=H/\x = .int (lo+i),λi _=>n<=i⟩
theorem Zi1{P:Program}{w:World}{K:PySem.W.Frag}{tg:Expr}(a it:Addr):Turn P w K tg (Itl K a) [it] it (λi h=>h.IsListIter it a i) where
  mem:=by simp
  obj:=λi h st b hb=>by
    have e:b=it:=by simpa using hb
    subst e
    obtain ⟨o,e,c,d⟩:=st
    exact ⟨o,e,λv z=>by rw[d] at z; cases z⟩
  keep:=λi h h' st k=>st.at λo e=>k it (by simp) o e
  item:=by
    intro X hP hw hK hc i pins s σ H E I hf st hg
    subst hP hw hK
    obtain ⟨xs,x,hq,hx⟩:=hg
    obtain ⟨its,rv,p,hz⟩:=I.list hq
    obtain ⟨u,hu,ru⟩:=rv.get hx
    obtain ⟨f0,f1,f2,f3,f4,f5⟩:=hf it (by simp)
    refine wpAny_pyNext_list_item st p.isList (x:=u) (by simpa using hu) λh' st' sb=>?_
    have I1:Inv X pins σ H { s with heap:=h' }:=I.turned (t':=s.toks) (λb o hb e=>(sb.2 b hb).trans e) f0 f1 f3 f4 f5
    obtain ⟨o,e,c,d⟩:=id st'
    exact ⟨u,rfl,ZlR (s:={ s with heap:=h' }) e c d (by decide) ⟨x,H,I1,ru,⟨rfl,λys hy=>by rw[I.list_inj hy hq]; exact hx⟩,st',λb hb=>(hf b hb).1⟩⟩
  done:=by
    intro X hP hw hK hc i pins s σ H E I hf st hg
    subst hP hw hK
    obtain ⟨xs,hq,hx⟩:=hg
    obtain ⟨its,rv,p,hz⟩:=I.list hq
    obtain ⟨f0,f1,f2,f3,f4,f5⟩:=hf it (by simp)
    have hl:=rv.length
    exact wpAny_pyNext_list_end (I.ok.hd hc) st p.isList (by simp; omega) λh' eb=>⟨rfl,I.turned (t':=s.toks) (λb o hb e=>eb b o hb e) f0 f1 f3 f4 f5⟩
  self:=λ_ _ _ _ _ st h=>wpAny_pyIter_listiter st h
theorem Zil{P:Program}{w:World}{K:PySem.W.Frag}{tg:Expr}(a it:Addr):Turn P w K tg (Itt K a) [it] it (λi h=>h.IsTupleIter it a i) where
  mem:=by simp
  obj:=λi h st b hb=>by
    have e:b=it:=by simpa using hb
    subst e
    obtain ⟨o,e,c,d⟩:=st
    exact ⟨o,e,λv z=>by rw[d] at z; cases z⟩
  keep:=λi h h' st k=>st.at λo e=>k it (by simp) o e
  item:=by
    intro X hP hw hK hc i pins s σ H E I hf st hg
    subst hP hw hK
    obtain ⟨xs,x,hq,hx⟩:=hg
    obtain ⟨its,rv,p,hz⟩:=I.tuple hq
    obtain ⟨u,hu,ru⟩:=rv.get hx
    obtain ⟨f0,f1,f2,f3,f4,f5⟩:=hf it (by simp)
    refine wpAny_pyNext_tuple_item st (show s.heap.IsTuple a its.toArray from p) (x:=u) (by simpa using hu) λh' st' sb=>?_
    have I1:Inv X pins σ H { s with heap:=h' }:=I.turned (t':=s.toks) (λb o hb e=>(sb.2 b hb).trans e) f0 f1 f3 f4 f5
    obtain ⟨o,e,c,d⟩:=id st'
    exact ⟨u,rfl,ZlR (s:={ s with heap:=h' }) e c d (by decide) ⟨x,H,I1,ru,⟨rfl,λys hy=>by rw[I.tuple_inj hy hq]; exact hx⟩,st',λb hb=>(hf b hb).1⟩⟩
  done:=by
    intro X hP hw hK hc i pins s σ H E I hf st hg
    subst hP hw hK
    obtain ⟨xs,hq,hx⟩:=hg
    obtain ⟨its,rv,p,hz⟩:=I.tuple hq
    obtain ⟨f0,f1,f2,f3,f4,f5⟩:=hf it (by simp)
    have hl:=rv.length
    exact wpAny_pyNext_tuple_end (I.ok.hd hc) st (show s.heap.IsTuple a its.toArray from p) (by simp; omega) λh' eb=>⟨rfl,I.turned (t':=s.toks) (λb o hb e=>eb b o hb e) f0 f1 f3 f4 f5⟩
  self:=λ_ _ _ _ _ st h=>wpAny_pyIter_tupleiter st h
theorem Zim{P:Program}{w:World}{K:PySem.W.Frag}{tg:Expr}(it:Addr)(lo:Int)(n:Nat):Turn P w K tg (Itr lo n) [it] it (λi h=>IsRangeIter h it (lo+(i:Nat)*1) ((n:Int)-(i:Nat)) 1) where
  mem:=by simp
  obj:=λi h st b hb=>by
    have e:b=it:=by simpa using hb
    subst e
    exact ⟨_,st,λv z=>by
      have z':Data.fields _=Data.cell v:=z
      cases z'⟩
  keep:=λi h h' st k=>k it (by simp) _ st
  item:=by
    intro X hP hw hK hc i pins s σ H E I hf st hg
    subst hP hw hK
    obtain ⟨f0,f1,f2,f3,f4,f5⟩:=hf it (by simp)
    have W:=Walks.range (prog:=X.prog) (w:=X.w) (I.ok.hd hc) it lo 1 n
    refine W.item i s _ _ hg st λv h' tk hv st' kk=>?_
    obtain ⟨t,rfl⟩:=hv
    have I1:Inv X pins σ H { s with heap:=h',toks:=tk }:=I.turned (λb o hb e=>kk b o (by simpa using hb) e) f0 f1 f3 f4 f5
    refine ⟨_,rfl,ZlR (s:={ s with heap:=h',toks:=tk }) (n := "range_iterator") st' rfl rfl (by decide) ⟨.int (lo+i),H,I1,⟨t,?_⟩,⟨rfl,rfl⟩,st',λb hb=>(hf b hb).1⟩⟩
    rw[U3]
  done:=by
    intro X hP hw hK hc i pins s σ H E I hf st hg
    subst hP hw hK
    obtain ⟨f0,f1,f2,f3,f4,f5⟩:=hf it (by simp)
    exact wpAny_pyNext_range_end (I.ok.hd hc) st (by have:n<=i:=hg; omega) λh' eb=>⟨rfl,I.turned (t':=s.toks) (λb o hb e=>eb b o hb e) f0 f1 f3 f4 f5⟩
  self:=λ_ _ _ _ _ st h=>wpAny_pyIter_rangeiter st h
end L2
namespace L2
open PySem PySem.Spec PyProof.Rows
section
variable{X:Cx}{tg:Expr}
def Znl(K:PySem.W.Frag)(tl:TE):TI:=λσ H R=>tl σ H λx H1=>∃a,x = .ref a/\(∃xs,SqL K H1 a xs)/\R (Itl K a) H1
def Zpw(K:PySem.W.Frag)(tl:TE):TI:=λσ H R=>tl σ H λx H1=>∃a,x = .ref a/\(∃xs,SqT K H1 a xs)/\R (Itt K a) H1
theorem ZaC{l:Expr}{tl:TE}(hl:PE X l tl):PI X tg l (Znl X.K tl):=by
  intro pins s σ H R I h
  refine thn (hl pins s σ H _ I h) λv s1 ⟨x,H1,I1,r1,q1⟩=>?_
  obtain ⟨a,e,⟨xs,hq⟩,q⟩:=q1
  subst e
  cases r1
  obtain ⟨its,rv,p,hz⟩:=I1.list hq
  refine wpAny_pyIter_list p.isList ?_
  refine ⟨s1.heap.objs.size,[s1.heap.objs.size],_,_,H1,rfl,I1.kept (t':=s1.toks) λb o e=>Heap.get?_push_of_some _ e,Zi1 a _,⟨_,Heap.get?_push_size _ rfl,rfl,rfl⟩,λb hb=>?_,q⟩
  have e:b=s1.heap.objs.size:=by simpa using hb
  subst e
  exact I1.fpOk (Q2 _) (I1.hok.fresh (Q2 _))
theorem Znm{l:Expr}{tl:TE}(hl:PE X l tl):PI X tg l (Zpw X.K tl):=by
  intro pins s σ H R I h
  refine thn (hl pins s σ H _ I h) λv s1 ⟨x,H1,I1,r1,q1⟩=>?_
  obtain ⟨a,e,⟨xs,hq⟩,q⟩:=q1
  subst e
  cases r1
  obtain ⟨its,rv,p,hz⟩:=I1.tuple hq
  refine wpAny_pyIter_tuple (show s1.heap.IsTuple a its.toArray from p) ?_
  refine ⟨s1.heap.objs.size,[s1.heap.objs.size],_,_,H1,rfl,I1.kept (t':=s1.toks) λb o e=>Heap.get?_push_of_some _ e,Zil a _,⟨_,Heap.get?_push_size _ rfl,rfl,rfl⟩,λb hb=>?_,q⟩
  have e:b=s1.heap.objs.size:=by simpa using hb
  subst e
  exact I1.fpOk (Q2 _) (I1.hok.fresh (Q2 _))
theorem ZhB{pins:List (Addr×Obj)}{σ:St}{H:Hp}{s:Shared}{R:It->Hp->Prop}{E:Value->Shared->Prop}{lo hi:Int}{t u v:Tok}{tk:Nat}(I:Inv X pins σ H s)(h1:-(2^62)<=lo)(h2:lo<2^62)(h3:-(2^62)<=hi)(h4:hi<2^62)
    (q:R (Itr lo (hi-lo).toNat) H):wpAny (model X.prog X.w) X.A (pyIter (.ref s.heap.objs.size)) (PIE X pins σ tg R) E { s with heap:=s.heap.push { cls:=.type "range", data:=.fields #[.int lo t,.int hi u,.int 1 v] },toks:=tk }:=by
  refine wpAny_pyIter_range (IsRange.new ..) (small_one h1 h2 h3 h4) ?_
  have I1:Inv X pins σ H { s with heap:=s.heap.push { cls:=.type "range", data:=.fields #[.int lo t,.int hi u,.int 1 v] },toks:=tk }:=I.kept λb o e=>Heap.get?_push_of_some _ e
  refine ⟨(s.heap.push { cls:=.type "range", data:=.fields #[.int lo t,.int hi u,.int 1 v] }).objs.size,[(s.heap.push { cls:=.type "range", data:=.fields #[.int lo t,.int hi u,.int 1 v] }).objs.size],_,_,H,rfl,
    I1.kept (t':=tk) λb o e=>Heap.get?_push_of_some _ e,Zim _ lo (hi-lo).toNat,?_,λb hb=>?_,q⟩
  · have e1:lo+((0:Nat):Int)*1=lo:=by simp
    have e2:(((hi-lo).toNat:Nat):Int)-((0:Nat):Int)=Builtin.Range.rangeSize lo hi 1:=by rw[rangeSize_one]; split <;> omega
    show IsRangeIter _ _ (lo+((0:Nat):Int)*1) ((((hi-lo).toNat:Nat):Int)-((0:Nat):Int)) 1
    rw[e1,e2]
    exact Heap.get?_push_size _ rfl
  · have e:b=(s.heap.push { cls:=.type "range", data:=.fields #[.int lo t,.int hi u,.int 1 v] }).objs.size:=by simpa using hb
    subst e
    exact I1.fpOk (Q2 _) (I1.hok.fresh (Q2 _))
def Zos(ta:TA):TI:=λσ H R=>ta σ H λvs H1=>∃j:Int,vs=[.int j] /\ -(2^62)<=j/\j<2^62/\R (Itr 0 j.toNat) H1
def Zot(ta:TA):TI:=λσ H R=>ta σ H λvs H1=>∃i j:Int,vs=[.int i,.int j]/\(-(2^62)<=i/\i<2^62 /\ -(2^62)<=j/\j<2^62)/\R (Itr i (j-i).toNat) H1
theorem ZaB{a:Expr}{ta:TA}{p pos:Pos}(hg:Gl X "range") (hm:X.mg "range" = none) (ha:PA X [a] ta) (hs:starEach [a] X.env=[(false,eval a X.env)]:=by rfl):PI X tg (.Call (.Name "range" p) [a] [] pos) (Zos ta):=by
  intro pins s σ H R I h
  refine Call_ (ZdC I hg hm boot_range (PyProof.Rows.callWith_type1 (thn (ha pos pins s σ H _ I h) λus s1 ⟨vs,H1,I1,r1,q1⟩=>?_) hs rfl))
  obtain ⟨j,e,q1,q2,q⟩:=q1
  subst e
  cases r1 with
  | cons r rr =>
    cases rr
    obtain ⟨t,rfl⟩:=r
    exact call_range_1 (ZhB I1 (by omega) (by omega) q1 q2 (by simpa using q))
theorem Zi2{a b:Expr}{ta:TA}{p pos:Pos}(hg:Gl X "range") (hm:X.mg "range" = none) (ha:PA X [a,b] ta) (hs:starEach [a,b] X.env=[(false,eval a X.env),(false,eval b X.env)]:=by rfl) (hs2:starEach [b] X.env=[(false,eval b X.env)]:=by rfl) :
    PI X tg (.Call (.Name "range" p) [a,b] [] pos) (Zot ta):=by
  intro pins s σ H R I h
  refine Call_ (ZdC I hg hm boot_range (PyProof.Rows.callWith_type1 (thn (ha pos pins s σ H _ I h) λus s1 ⟨vs,H1,I1,r1,q1⟩=>?_) (by rw[hs,hs2]) (by rw[hs2]; rfl)))
  obtain ⟨i,j,e,⟨q1,q2,q3,q4⟩,q⟩:=q1
  subst e
  cases r1 with
  | cons r rr =>
    cases rr with
    | cons r' rr =>
      cases rr
      obtain ⟨t,rfl⟩:=r
      obtain ⟨t',rfl⟩:=r'
      exact call_range_2 (ZhB I1 q1 q2 q3 q4 q)
def Zpx(wi:TI)(g:TG)(tb:TS):TS:=λD σ H=>wi σ H λJ H1=>∃W:Nat->Nat->St->Hp->Prop,(∃m,W 0 m σ H1)/\∀i m σ H,W i m σ H →
  (J.stop i H/\D.nx σ H)\/(J.go i H/\∃N:St->Hp->Prop,(∀σ' H',N σ' H'->∃m',m'<m/\W (i+1) m' σ' H')/\∀x H',J.yld i H x H'->g x σ H' λσ2 H2=>tb { D with nx:=N,ct:=N,bk:=D.nx } σ2 H2)
def ZhC(fp:List Addr)(h:Heap):List (Addr×Obj):=fp.filterMap λb=>(h.get? b).map λo=>(b,o)
theorem Zcz{fp:List Addr}{h:Heap}{b:Addr}{o:Obj}(hb:b∈fp)(e:h.get? b=some o):(b,o)∈ZhC fp h:=List.mem_filterMap.mpr ⟨b,hb,by rw[e]; rfl⟩
theorem Zi3{fp:List Addr}{h:Heap}{p:Addr×Obj}(hp:p∈ZhC fp h):p.1∈fp/\h.get? p.1=some p.2:=by
  obtain ⟨b,hb,e⟩:=List.mem_filterMap.mp hp
  cases q:h.get? b with
  | none=>rw[q] at e; cases e
  | some o =>
    rw[q] at e
    have e':(b,o)=p:=Option.some.inj e
    subst e'
    exact ⟨hb,q⟩
theorem Inv.pinned{pins:List (Addr×Obj)}{σ:St}{H:Hp}{s:Shared}{fp:List Addr}(I:Inv X pins σ H s)(hf:∀b∈fp,Zi0 X pins H b)(ho:∀b∈fp,∃o,s.heap.get? b=some o/\∀v,o.data ≠ .cell v):Inv X (pins++ZhC fp s.heap) σ H s :=
  I.pins_of λp hp=>(Qq.mp hp).elim (λz=>I.pin p (W6 _ z)) λz=>by
    obtain ⟨hb,e⟩:=Zi3 z
    obtain ⟨f0,f1,f2,_⟩:=hf p.1 hb
    obtain ⟨o,e',d⟩:=ho p.1 hb
    rw[e] at e'; cases e'
    exact ⟨e,f0,f1,f2,d⟩
theorem Inv.unpinned{pins pl:List (Addr×Obj)}{σ:St}{H:Hp}{s:Shared}(I:Inv X (pins++pl) σ H s):Inv X pins σ H s:=I.pins_of λp hp=>I.pin p (W6 _ (Uz _ hp))
theorem ZaQ{iter:Expr}{body:List Stmt}{wi:TI}{g:TG}{tb:TS}{pos:Pos}(hp:PassesOwn (model X.prog X.w) X.A X.env X.xe)(hc:X.calm=true)(hi:PI X tg iter wi)(hg:PG X tg g)(hb:PSs X body tb)
    (hs:∀x,foldedSetIterable iter X.env x=pure x:=by intro _; rfl):PS X (.For tg iter body [] pos) (Zpx wi g tb):=by
  intro pins s σ H D I h
  refine wpAny_For (thn (hi pins s σ H _ I h) λv s1 h1=>thn h1 λitv s2 h2=>?_) hs
  obtain ⟨it,fp,tn,J,H2,e,I2,T,st2,f2,W,⟨m0,w0⟩,turn⟩:=h2
  subst e
  have stat:∀ {H':Hp},(∀b∈fp,H' b=none)->∀b∈fp,Zi0 X pins H' b:=λhn b hb=>⟨hn b hb,(f2 b hb).2⟩
  refine codeAny_forLoop_any (λn s'=>∃i σ' H',Inv X pins σ' H' s'/\tn i s'.heap/\(∀b∈fp,H' b=none)/\W i n σ' H') ?_ m0 ⟨0,σ,H2,I2,st2,λb hb=>(f2 b hb).1,w0⟩
  rintro n s3 ⟨i,σ3,H3,I3,st3,fr3,w3⟩
  rcases turn i n σ3 H3 w3 with ⟨stop,qn⟩ | ⟨go,N,hN,step⟩
  · refine wpAny_passesOwn hp (thn (T.done X rfl rfl rfl hc i pins s3 σ3 H3 X.xe I3 (stat fr3) st3 stop) λr s4 ⟨hr,I4⟩=>?_)
    subst hr
    exact wpAny_execs_nil ⟨σ3,H3,I4,qn⟩
  · refine wpAny_passesOwn hp (thn (T.item X rfl rfl rfl hc i pins s3 σ3 H3 X.xe I3 (stat fr3) st3 go) λr s4 ⟨u,hr,h4⟩=>?_)
    subst hr
    refine wpAny_passesOwn hp (thn h4 λ_ s5 ⟨x,H5,I5,r5,y5,st5,fr5⟩=>?_)
    have I5':=I5.pinned (stat fr5) (T.obj _ _ st5)
    refine wpAny_passesOwn hp (thn (hg _ s5 σ3 H5 x u _ I5' r5 (step x H5 y5)) λ_ s6 ⟨σ6,H6,I6,q6⟩=>?_)
    refine wpAny_passesOwn hp (thn (hb _ s6 σ6 H6 _ I6 q6) λf s7 q7=>?_)
    have again:∀ {σ7:St} {H7:Hp},Inv X (pins++ZhC fp s5.heap) σ7 H7 s7->N σ7 H7->∃m,m<n/\∃i σ' H',Inv X pins σ' H' s7/\tn i s7.heap/\(∀b∈fp,H' b=none)/\W i m σ' H':=fun {σ7 H7} I7 n7=>by
      obtain ⟨m',hm,w7⟩:=hN σ7 H7 n7
      refine ⟨m',hm,i+1,σ7,H7,I7.unpinned,T.keep _ _ _ st5 λb hb o e=>(I7.pin (b,o) (W6 _ (W6 _ (Zcz hb e)))).1,λb hb=>?_,w7⟩
      obtain ⟨o,e,d⟩:=T.obj _ _ st5 b hb
      exact (I7.pin (b,o) (W6 _ (W6 _ (Zcz hb e)))).2.1
    cases f with
    | next=>obtain ⟨σ7,H7,I7,n7⟩:=q7; exact again I7 n7
    | cont=>obtain ⟨σ7,H7,I7,n7⟩:=q7; exact again I7 n7
    | brk=>obtain ⟨σ7,H7,I7,q7⟩:=q7; exact ⟨σ7,H7,I7.unpinned,q7⟩
    | ret v=>obtain ⟨x7,σ7,H7,I7,r7,q7⟩:=q7; exact ⟨x7,σ7,H7,I7.unpinned,r7,q7⟩
end
theorem Zbf{K:PySem.W.Frag}{a:Addr}{xs:List V}{g:TG}{tb:TS}{D:Ends}{σ:St}{H:Hp}(Pv:Nat->St->Hp->Prop)(h0:Pv 0 σ H)(hl:∀i σ H,i<=xs.length->Pv i σ H->SqL K H a xs)
    (hs:∀i x σ H,xs[i]?=some x->Pv i σ H->g x σ H λσ2 H2=>tb { D with nx:=Pv (i+1),ct:=Pv (i+1),bk:=D.nx } σ2 H2) (hd:∀σ H,Pv xs.length σ H->D.nx σ H) :
    ∃W:Nat->Nat->St->Hp->Prop,(∃m,W 0 m σ H)/\∀i m σ H,W i m σ H →
      ((Itl K a).stop i H/\D.nx σ H)\/((Itl K a).go i H/\∃N:St->Hp->Prop,(∀σ' H',N σ' H'->∃m',m'<m/\W (i+1) m' σ' H')/\∀x H',(Itl K a).yld i H x H'->g x σ H' λσ2 H2=>tb { D with nx:=N,ct:=N,bk:=D.nx } σ2 H2):=by
  refine ⟨λi m σ H=>m=xs.length-i/\i<=xs.length/\Pv i σ H,⟨xs.length,by simp,Qb _,h0⟩,?_⟩
  rintro i m σ H ⟨rfl,hi,p⟩
  have q:=hl i σ H hi p
  by_cases hlt:i<xs.length
  · refine .inr ⟨⟨xs,xs[i],q,by simp[hlt]⟩,Pv (i+1),λσ' H' p'=>⟨xs.length-(i+1),by omega,rfl,hlt,p'⟩,λx H' y=>?_⟩
    obtain ⟨e,y⟩:=y
    subst e
    exact hs i x σ _ (y xs q) p
  · have e:i=xs.length:=by omega
    subst e
    exact .inl ⟨⟨xs,q,Q2 _⟩,hd σ H p⟩
theorem ZlS{K:PySem.W.Frag}{a:Addr}{xs:List V}{g:TG}{tb:TS}{D:Ends}{σ:St}{H:Hp}(Pv:Nat->St->Hp->Prop)(h0:Pv 0 σ H)(hl:∀i σ H,i<=xs.length->Pv i σ H->SqT K H a xs)
    (hs:∀i x σ H,xs[i]?=some x->Pv i σ H->g x σ H λσ2 H2=>tb { D with nx:=Pv (i+1),ct:=Pv (i+1),bk:=D.nx } σ2 H2) (hd:∀σ H,Pv xs.length σ H->D.nx σ H) :
    ∃W:Nat->Nat->St->Hp->Prop,(∃m,W 0 m σ H)/\∀i m σ H,W i m σ H →
      ((Itt K a).stop i H/\D.nx σ H)\/((Itt K a).go i H/\∃N:St->Hp->Prop,(∀σ' H',N σ' H'->∃m',m'<m/\W (i+1) m' σ' H')/\∀x H',(Itt K a).yld i H x H'->g x σ H' λσ2 H2=>tb { D with nx:=N,ct:=N,bk:=D.nx } σ2 H2):=by
  refine ⟨λi m σ H=>m=xs.length-i/\i<=xs.length/\Pv i σ H,⟨xs.length,by simp,Qb _,h0⟩,?_⟩
  rintro i m σ H ⟨rfl,hi,p⟩
  have q:=hl i σ H hi p
  by_cases hlt:i<xs.length
  · refine .inr ⟨⟨xs,xs[i],q,by simp[hlt]⟩,Pv (i+1),λσ' H' p'=>⟨xs.length-(i+1),by omega,rfl,hlt,p'⟩,λx H' y=>?_⟩
    obtain ⟨e,y⟩:=y
    subst e
    exact hs i x σ _ (y xs q) p
  · have e:i=xs.length:=by omega
    subst e
    exact .inl ⟨⟨xs,q,Q2 _⟩,hd σ H p⟩
theorem ZaT{lo:Int}{n:Nat}{g:TG}{tb:TS}{D:Ends}{σ:St}{H:Hp}(Pv:Nat->St->Hp->Prop)(h0:Pv 0 σ H)
    (hs:∀i σ H,i<n->Pv i σ H->g (.int (lo+i)) σ H λσ2 H2=>tb { D with nx:=Pv (i+1),ct:=Pv (i+1),bk:=D.nx } σ2 H2) (hd:∀σ H,Pv n σ H->D.nx σ H) :
    ∃W:Nat->Nat->St->Hp->Prop,(∃m,W 0 m σ H)/\∀i m σ H,W i m σ H →
      ((Itr lo n).stop i H/\D.nx σ H)\/((Itr lo n).go i H/\∃N:St->Hp->Prop,(∀σ' H',N σ' H'->∃m',m'<m/\W (i+1) m' σ' H')/\∀x H',(Itr lo n).yld i H x H'->g x σ H' λσ2 H2=>tb { D with nx:=N,ct:=N,bk:=D.nx } σ2 H2):=by
  refine ⟨λi m σ H=>m=n-i/\i<=n/\Pv i σ H,⟨n,by simp,Qb _,h0⟩,?_⟩
  rintro i m σ H ⟨rfl,hi,p⟩
  by_cases hlt:i<n
  · refine .inr ⟨hlt,Pv (i+1),λσ' H' p'=>⟨n-(i+1),by omega,rfl,hlt,p'⟩,λx H' y=>?_⟩
    obtain ⟨e,y⟩:=y
    subst e y
    exact hs i σ _ hlt p
  · have e:i=n:=by omega
    subst e
    exact .inl ⟨Q2 _,hd σ H p⟩
end L2
namespace L2
open PySem PySem.Spec PyProof.Rows
abbrev R2:=V->V->Hp->VK->Prop
def OpR(X:Cx)(f:Value->Value->Sem Value)(r:R2):Prop :=
  ∀(pins:List (Addr×Obj)) (s:Shared) (σ:St) (H:Hp) (x y:V) (v u:Value) (Q:VK),Inv X pins σ H s->RelV x v->RelV y u->r x y H Q →
    wpAny (model X.prog X.w) X.A (f v u) (EP X pins σ Q) X.xe s
def UnR(X:Cx)(f:Value->Sem Value)(r:V->Hp->VK->Prop):Prop :=
  ∀(pins:List (Addr×Obj)) (s:Shared) (σ:St) (H:Hp) (x:V) (v:Value) (Q:VK),Inv X pins σ H s->RelV x v->r x H Q →
    wpAny (model X.prog X.w) X.A (f v) (EP X pins σ Q) X.xe s
def CallR(X:Cx)(f:Value)(r:List V->Hp->VK->Prop):Prop :=
  ∀(pins:List (Addr×Obj)) (s:Shared) (σ:St) (H:Hp) (xs:List V) (us:List Value) (Q:VK),Inv X pins σ H s->Vals xs us->r xs H Q →
    wpAny (model X.prog X.w) X.A (call f us) (EP X pins σ Q) X.xe s
def tOp(r:R2)(ta tb:TE):TE:=λσ H Q=>ta σ H λx H1=>tb σ H1 λy H2=>r x y H2 Q
def tUn(r:V->Hp->VK->Prop)(ta:TE):TE:=λσ H Q=>ta σ H λx H1=>r x H1 Q
def rI(C:Int->Int->Prop)(g:Int->Int->V):R2:=λx y H Q=>∃i j,x = .int i/\y = .int j/\C i j/\Q (g i j) H
def rI0(g:Int->Int->V):R2:=λx y H Q=>∃i j,x = .int i/\y = .int j/\Q (g i j) H
def rU(g:Int->V):V->Hp->VK->Prop:=λx H Q=>∃i,x = .int i/\Q (g i) H
section
variable{X:Cx}{a b c:Expr}{ta tb tc:TE}{pos:Pos}
theorem Zou(ha:PE X a ta)(hb:PE X b tb){pins:List (Addr×Obj)}{s:Shared}{σ:St}{H:Hp}{R:V->V->Hp->Prop}(I:Inv X pins σ H s)
    (h:ta σ H λx H1=>tb σ H1 λy H2=>R x y H2) {Q:Value->Shared->Prop} {f:Value->Value->Sem Value}
    (hf:∀v u s2 x y H2,Inv X pins σ H2 s2->RelV x v->RelV y u->R x y H2->wpAny (model X.prog X.w) X.A (f v u) Q X.xe s2) :
    wpAny (model X.prog X.w) X.A (eval a X.env) (λv s₁=>wpAny (model X.prog X.w) X.A (eval b X.env) (λu s₂=>wpAny (model X.prog X.w) X.A (f v u) Q X.xe s₂) X.xe s₁) X.xe s:=by
  refine thn (ha pins s σ H _ I h) λv s1 ⟨x,H1,I1,r1,q1⟩=>?_
  refine thn (hb pins s1 σ H1 _ I1 q1) λu s2 ⟨y,H2,I2,r2,q2⟩=>?_
  exact hf v u s2 x y H2 I2 r1 r2 q2
theorem Zai{op:Operator}{r:R2}(ho:OpR X (binaryOp op) r)(ha:PE X a ta)(hb:PE X b tb):PE X (.BinOp a op b pos) (tOp r ta tb):=by
  intro pins s σ H Q I h
  exact wpAny_BinOp (Zou ha hb I h λv u s2 x y H2 I2 rx ry q=>ho pins s2 σ H2 x y v u Q I2 rx ry q)
theorem ZeJ{op:UnaryOp}{r:V->Hp->VK->Prop}(ho:UnR X (unaryOp op) r)(ha:PE X a ta):PE X (.UnaryOp op a pos) (tUn r ta):=by
  intro pins s σ H Q I h
  exact UnaryOp_ (thn (ha pins s σ H _ I h) λv s1 ⟨x,H1,I1,r1,q1⟩=>ho pins s1 σ H1 x v Q I1 r1 q1)
theorem opI{f:Value->Value->Sem Value}{C:Int->Int->Prop}{g:Int->Int->Int}
    (rule:∀(i j:Int) (t u:Tok) (s:Shared) (Q:Value->Shared->Prop) (E:Value->Shared->Prop),C i j->Q (.int (g i j) s.toks) { s with toks:=s.toks+1 }->wpAny (model X.prog X.w) X.A (f (.int i t) (.int j u)) Q E s) :
    OpR X f (rI C λi j => .int (g i j)):=by
  intro pins s σ H x y v u Q I rx ry h
  obtain ⟨i,j,rfl,rfl,hc,q⟩:=h
  obtain ⟨t,rfl⟩:=rx
  obtain ⟨t',rfl⟩:=ry
  exact rule i j t t' s _ _ hc ⟨.int (g i j),H,I.tok _,⟨_,rfl⟩,q⟩
theorem Zo8{f:Value->Value->Sem Value}{g:Int->Int->Int}
    (rule:∀(i j:Int) (t u:Tok) (s:Shared) (Q:Value->Shared->Prop) (E:Value->Shared->Prop),Q (.int (g i j) s.toks) { s with toks:=s.toks+1 }->wpAny (model X.prog X.w) X.A (f (.int i t) (.int j u)) Q E s) :
    OpR X f (rI0 λi j => .int (g i j)):=by
  intro pins s σ H x y v u Q I rx ry h
  obtain ⟨i,j,rfl,rfl,q⟩:=h
  obtain ⟨t,rfl⟩:=rx
  obtain ⟨t',rfl⟩:=ry
  exact rule i j t t' s _ _ ⟨.int (g i j),H,I.tok _,⟨_,rfl⟩,q⟩
theorem Zoi{f:Value->Value->Sem Value}{g:Int->Int->Bool}
    (rule:∀(i j:Int) (t u:Tok) (s:Shared) (Q:Value->Shared->Prop) (E:Value->Shared->Prop),Q (.bool (g i j)) s->wpAny (model X.prog X.w) X.A (f (.int i t) (.int j u)) Q E s) :
    OpR X f (rI0 λi j => .bl (g i j)):=by
  intro pins s σ H x y v u Q I rx ry h
  obtain ⟨i,j,rfl,rfl,q⟩:=h
  obtain ⟨t,rfl⟩:=rx
  obtain ⟨t',rfl⟩:=ry
  exact rule i j t t' s _ _ ⟨.bl (g i j),H,I,rfl,q⟩
def Zpy(i j:Int):Prop:=0<j/\j<1073741824
def CMul(i j:Int):Prop:=(-(2^64)<i/\i<2^64)\/(-(2^64)<j/\j<2^64)
theorem CMul.ok{i j:Int}(h:CMul i j):IntMulOk i j:=by
  rcases h with ⟨h1,h2⟩ | ⟨h1,h2⟩
  · exact .of_left (intBits_le_64 h1 h2)
  · exact .of_right (intBits_le_64 h1 h2)
theorem ZaE:OpR X (binaryOp .Add) (rI0 λi j => .int (i+j)):=Zo8 λ_ _ _ _ _ _ _ q=>add_int q
theorem Zbb:OpR X (binaryOp .Sub) (rI0 λi j => .int (i-j)):=Zo8 λ_ _ _ _ _ _ _ q=>sub_int q
theorem ZdD:OpR X (binaryOp .Mult) (rI CMul λi j => .int (i*j)):=opI λ_ _ _ _ _ _ _ hc q=>mul_int q hc.ok
theorem Zbg:OpR X (binaryOp .FloorDiv) (rI Zpy λi j => .int (i/j)):=opI λi j _ _ _ _ _ hc q=>by
  have h1:(0:Int)<j:=hc.1
  have h2:j<1073741824:=hc.2
  exact floordiv_int (by omega) (by rw[Int.fdiv_eq_ediv_of_nonneg i (by omega)]; exact q) (.inl (PyProof.noPylong_small (by omega)))
theorem Za0:OpR X (binaryOp .Mod) (rI (λ_ j=>0<j) λi j => .int (i%j)):=opI λi j _ _ _ _ _ hc q=>by
  have h1:(0:Int)<j:=hc
  exact mod_int' (by omega) (by rw[Qz i (by omega)]; exact q)
theorem ZaN:OpR X (binaryOp .Mod) (rI (λ_ j=>j≠0) λi j => .int (i.fmod j)):=opI λ_ _ _ _ _ _ _ hc q=>mod_int' hc q
theorem unI{f:Value->Sem Value}{g:Int->Int}
    (rule:∀(i:Int) (t:Tok) (s:Shared) (Q:Value->Shared->Prop) (E:Value->Shared->Prop),Q (.int (g i) s.toks) { s with toks:=s.toks+1 }->wpAny (model X.prog X.w) X.A (f (.int i t)) Q E s) :
    UnR X f (rU λi => .int (g i)):=by
  intro pins s σ H x v Q I rx h
  obtain ⟨i,rfl,q⟩:=h
  obtain ⟨t,rfl⟩:=rx
  exact rule i t s _ _ ⟨.int (g i),H,I.tok _,⟨_,rfl⟩,q⟩
theorem ZcI:UnR X (unaryOp .USub) (rU λi => .int (-i)):=unI λ_ _ _ _ _ q=>neg_int q
end
def Zo9:V->V->Bool
  | .non,.non=>true | .non,.int _=>true | .int _,.non=>true | .non,.bl _=>true | .bl _,.non=>true | .non,.str _=>true | .str _,.non=>true
  | .int _,.int _=>true | .bl _,.bl _=>true | .str _,.str _=>true | .byt _,.byt _=>true
  | .int _,.str _=>true | .str _,.int _=>true | .bl _,.str _=>true | .str _,.bl _=>true
  | _,_=>false
def rEq:R2:=λx y H Q=>Zo9 x y=true/\Q (.bl (decide (x=y))) H
def rNe:R2:=λx y H Q=>Zo9 x y=true/\Q (.bl (!decide (x=y))) H
theorem ZgQ{i j:Int}:decide (V.int i=V.int j)=(i==j):=by
  rw[Bool.eq_iff_iff]
  simp
theorem Zle{i j:Bool}:decide (V.bl i=V.bl j)=(i==j):=by
  rw[Bool.eq_iff_iff]
  simp
theorem Zi4{i j:Str}:decide (V.str i=V.str j)=(i==j):=by
  rw[Bool.eq_iff_iff]
  simp
theorem Zi5{i j:Array UInt8}:decide (V.byt i=V.byt j)=(i.toList==j.toList):=by
  rw[Bool.eq_iff_iff]
  cases i
  cases j
  simp
section
variable{X:Cx}{a b c:Expr}{ta tb tc:TE}{pos:Pos}
theorem ZaI{pins:List (Addr×Obj)}{σ:St}{H:Hp}{s:Shared}{Q:VK}{k k':Bool}(I:Inv X pins σ H s)(q:Q (.bl k) H)(e:k=k'):EP X pins σ Q (.bool k') s:=by
  subst e
  exact ⟨.bl k,H,I,rfl,q⟩
theorem Zbz:OpR X (compareOp .Eq) rEq:=by
  intro pins s σ H x y v u Q I rx ry h
  obtain ⟨hs,q⟩:=h
  cases x with
  | non =>
    cases rx
    cases y with
    | non=>cases ry; exact PySem.EqNone.eq_none_none (ZaI I q (by simp))
    | bl j=>cases ry; exact PySem.EqNone.eq_none_bool (ZaI I q (by simp))
    | int j=>obtain ⟨t',rfl⟩:=ry; exact PySem.EqNone.eq_none_int (ZaI I q (by simp))
    | str j=>obtain ⟨t',rfl⟩:=ry; exact PySem.EqNone.eq_none_str (ZaI I q (by simp))
    | _=>exact absurd (show false=true from hs) Qr
  | bl i =>
    cases rx
    cases y with
    | non=>cases ry; exact PySem.EqNone.eq_bool_none (ZaI I q (by simp))
    | bl j=>cases ry; exact eq_bool (ZaI I q Zle)
    | str j=>obtain ⟨t',rfl⟩:=ry; exact PySem.EqMixed.eq_bool_str (ZaI I q (by simp))
    | _=>exact absurd (show false=true from hs) Qr
  | int i =>
    obtain ⟨t,rfl⟩:=rx
    cases y with
    | non=>cases ry; exact PySem.EqNone.eq_int_none (ZaI I q (by simp))
    | int j=>obtain ⟨t',rfl⟩:=ry; exact eq_int (ZaI I q ZgQ)
    | str j=>obtain ⟨t',rfl⟩:=ry; exact PySem.EqMixed.eq_int_str (ZaI I q (by simp))
    | _=>exact absurd (show false=true from hs) Qr
  | str i =>
    obtain ⟨t,rfl⟩:=rx
    cases y with
    | non=>cases ry; exact PySem.EqNone.eq_str_none (ZaI I q (by simp))
    | bl j=>cases ry; exact PySem.EqMixed.eq_str_bool (ZaI I q (by simp))
    | int j=>obtain ⟨t',rfl⟩:=ry; exact PySem.EqMixed.eq_str_int (ZaI I q (by simp))
    | str j=>obtain ⟨t',rfl⟩:=ry; exact eq_str (ZaI I q Zi4)
    | _=>exact absurd (show false=true from hs) Qr
  | byt i =>
    obtain ⟨t,rfl⟩:=rx
    cases y with
    | byt j=>obtain ⟨t',rfl⟩:=ry; exact PySem.W.eq_bytes (ZaI I q Zi5)
    | _=>exact absurd (show false=true from hs) Qr
  | _=>cases y <;> exact absurd (show false=true from hs) Qr
theorem Zin:OpR X (compareOp .NotEq) rNe:=by
  intro pins s σ H x y v u Q I rx ry h
  obtain ⟨hs,q⟩:=h
  cases x with
  | non =>
    cases rx
    cases y with
    | non=>cases ry; exact PySem.EqNone.ne_none_none (ZaI I q (by simp))
    | bl j=>cases ry; exact PySem.EqNone.ne_none_bool (ZaI I q (by simp))
    | int j=>obtain ⟨t',rfl⟩:=ry; exact PySem.EqNone.ne_none_int (ZaI I q (by simp))
    | str j=>obtain ⟨t',rfl⟩:=ry; exact PySem.EqNone.ne_none_str (ZaI I q (by simp))
    | _=>exact absurd (show false=true from hs) Qr
  | bl i =>
    cases rx
    cases y with
    | non=>cases ry; exact PySem.EqNone.ne_bool_none (ZaI I q (by simp))
    | bl j=>cases ry; exact ne_bool (ZaI I q (congrArg not Zle))
    | str j=>obtain ⟨t',rfl⟩:=ry; exact PySem.EqMixed.ne_bool_str (ZaI I q (by simp))
    | _=>exact absurd (show false=true from hs) Qr
  | int i =>
    obtain ⟨t,rfl⟩:=rx
    cases y with
    | non=>cases ry; exact PySem.EqNone.ne_int_none (ZaI I q (by simp))
    | int j=>obtain ⟨t',rfl⟩:=ry; exact ne_int (ZaI I q (congrArg not ZgQ))
    | str j=>obtain ⟨t',rfl⟩:=ry; exact PySem.EqMixed.ne_int_str (ZaI I q (by simp))
    | _=>exact absurd (show false=true from hs) Qr
  | str i =>
    obtain ⟨t,rfl⟩:=rx
    cases y with
    | non=>cases ry; exact PySem.EqNone.ne_str_none (ZaI I q (by simp))
    | bl j=>cases ry; exact PySem.EqMixed.ne_str_bool (ZaI I q (by simp))
    | int j=>obtain ⟨t',rfl⟩:=ry; exact PySem.EqMixed.ne_str_int (ZaI I q (by simp))
    | str j=>obtain ⟨t',rfl⟩:=ry; exact ne_str (ZaI I q (congrArg not Zi4))
    | _=>exact absurd (show false=true from hs) Qr
  | byt i =>
    obtain ⟨t,rfl⟩:=rx
    cases y with
    | byt j=>obtain ⟨t',rfl⟩:=ry; exact PySem.W.ne_bytes (ZaI I q (congrArg not Zi5))
    | _=>exact absurd (show false=true from hs) Qr
  | _=>cases y <;> exact absurd (show false=true from hs) Qr
theorem Zio:OpR X (compareOp .Lt) (rI0 λi j => .bl (decide (i<j))):=Zoi λ_ _ _ _ _ _ _ q=>lt_int q
theorem ZlT:OpR X (compareOp .LtE) (rI0 λi j => .bl (decide (i<=j))):=Zoi λ_ _ _ _ _ _ _ q=>le_int q
theorem ZdM:OpR X (compareOp .Gt) (rI0 λi j => .bl (decide (j<i))):=Zoi λ_ _ _ _ _ _ _ q=>gt_int q
theorem ZlU:OpR X (compareOp .GtE) (rI0 λi j => .bl (decide (j<=i))):=Zoi λ_ _ _ _ _ _ _ q=>ge_int q
theorem OpR.or{f:Value->Value->Sem Value}{r r':R2}(h:OpR X f r)(h':OpR X f r'):OpR X f (λx y H Q=>r x y H Q\/r' x y H Q):=by
  intro pins s σ H x y v u Q I rx ry q
  rcases q with q | q
  · exact h pins s σ H x y v u Q I rx ry q
  · exact h' pins s σ H x y v u Q I rx ry q
theorem Zaw(b:Expr){op:CmpOp}(h:op ≠ .In:=by decide)(h2:op ≠ .NotIn:=by decide):behindInMarks op b=false:=by
  have e1:(op==CmpOp.In)=false:=by cases op <;> first | rfl | exact absurd rfl h
  have e2:(op==CmpOp.NotIn)=false:=by cases op <;> first | rfl | exact absurd rfl h2
  cases b <;> simp[behindInMarks,e1,e2]
theorem Zcj{op:CmpOp}{r:R2}(ho:OpR X (compareOp op) r)(ha:PE X a ta)(hb:PE X b tb)(hm:behindInMarks op b=false):PE X (.Compare a [op] [b] pos) (tOp r ta tb):=by
  intro pins s σ H Q I h
  exact wpAny_Compare1 (Zou ha hb I h λv u s2 x y H2 I2 rx ry q=>ho pins s2 σ H2 x y v u Q I2 rx ry q) hm
def Zov(t:TE):TT:=λσ H Q=>t σ H λx H'=>∃k,x = .bl k/\Q k H'
theorem Zaq{op:CmpOp}{r:R2}(ho:OpR X (compareOp op) r)(ha:PE X a ta)(hb:PE X b tb)(hm:behindInMarks op b=false):PT X (.Compare a [op] [b] pos) (Zov (tOp r ta tb)):=by
  intro pins s σ H Q I h
  refine wpAny_isTrue_Compare1 (thn (ha pins s σ H _ I h) λv s1 ⟨x,H1,I1,r1,q1⟩=>thn (hb pins s1 σ H1 _ I1 q1) λu s2 ⟨y,H2,I2,r2,q2⟩ =>
    thn (ho pins s2 σ H2 x y v u _ I2 r1 r2 q2) λc s3 ⟨z,H3,I3,r3,k,e,q3⟩=>?_) hm
  subst e
  cases r3
  exact wpAny_truthy_bool ⟨H3,I3,q3⟩
def Znn(r r':R2)(ta tb tc:TE):TE:=λσ H Q=>ta σ H λx H1=>tb σ H1 λy H2=>r x y H2 λz H3=>∃k,z = .bl k ∧
  (if k=true then tc σ H3 λw' H4=>r' y w' H4 Q else Q (.bl false) H3)
theorem Zkt{op op':CmpOp}{r r':R2}(ho:OpR X (compareOp op) r)(ho':OpR X (compareOp op') r')(ha:PE X a ta)(hb:PE X b tb)(hc:PE X c tc)
    (hm:lastMarks [op,op'] [b,c]=false:=by with_unfolding_all rfl):PE X (.Compare a [op,op'] [b,c] pos) (Znn r r' ta tb tc):=by
  intro pins s σ H Q I h
  refine Compare_chain (thn (ha pins s σ H _ I h) λv s1 ⟨x,H1,I1,r1,q1⟩=>chain_link (thn (hb pins s1 σ H1 _ I1 q1) λu s2 ⟨y,H2,I2,r2,q2⟩ =>
    thn (ho pins s2 σ H2 x y v u _ I2 r1 r2 q2) λd s3 ⟨z,H3,I3,r3,k,e,q3⟩=>?_)) hm
  subst e
  cases r3
  refine wpAny_truthy_bool ?_
  cases k with
  | false=>exact ite_ff ⟨.bl false,H3,I3,rfl,q3⟩
  | true=>exact ite_tt (chain_last (thn (hc pins s3 σ H3 _ I3 q3) λw' s4 ⟨z',H4,I4,r4,q4⟩=>ho' pins s4 σ H4 y z' u w' Q I4 r2 r4 q4))
theorem ZhD:(sizeLine:Nat)<2^63:=by rw[sizeLine_eq]; decide
theorem Zip{x:V}{us:List Value}(r:Vals [x] us):∃u,us=[u]/\RelV x u:=by
  cases r with
  | cons r1 r2=>cases r2; exact ⟨_,rfl,r1⟩
theorem Zi6{x y:V}{us:List Value}(r:Vals [x,y] us):∃u w',us=[u,w']/\RelV x u/\RelV y w':=by
  cases r with
  | cons r1 r2 =>
    cases r2 with
    | cons r3 r4=>cases r4; exact ⟨_,_,rfl,r1,r3⟩
theorem Zfj:CallR X (.builtin "abs") (λxs H Q=>∃i,xs=[.int i]/\Q (.int (if i<0 then -i else i)) H):=by
  intro pins s σ H xs us Q I r h
  obtain ⟨i,rfl,q⟩:=h
  obtain ⟨u,rfl,t,rfl⟩:=Zip r
  exact call_abs_int λu tk=>⟨.int (if i<0 then -i else i),H,I.tok _,⟨_,rfl⟩,q⟩
theorem Zd5(hc:X.calm=true):CallR X (.builtin "max") (λxs H Q=>∃i j,xs=[.int i,.int j]/\Q (.int (if j>i then j else i)) H):=by
  intro pins s σ H xs us Q I r h
  obtain ⟨i,j,rfl,q⟩:=h
  obtain ⟨u,w',rfl,⟨t,rfl⟩,⟨t',rfl⟩⟩:=Zi6 r
  refine max_two_ints (I.ok.hd hc) λh' tk k=>⟨_,H,I.kept k,?_,q⟩
  by_cases hj:j>i
  · rw[if_pos hj,if_pos hj]; exact ⟨_,rfl⟩
  · rw[if_neg hj,if_neg hj]; exact ⟨_,rfl⟩
theorem Zi7(hc:X.calm=true):CallR X (.builtin "min") (λxs H Q=>∃i j,xs=[.int i,.int j]/\Q (.int (if j<i then j else i)) H):=by
  intro pins s σ H xs us Q I r h
  obtain ⟨i,j,rfl,q⟩:=h
  obtain ⟨u,w',rfl,⟨t,rfl⟩,⟨t',rfl⟩⟩:=Zi6 r
  refine min_two_ints (I.ok.hd hc) λh' tk k=>⟨_,H,I.kept k,?_,q⟩
  by_cases hj:j<i
  · rw[if_pos hj,if_pos hj]; exact ⟨_,rfl⟩
  · rw[if_neg hj,if_neg hj]; exact ⟨_,rfl⟩
end
end L2
namespace L2
open PySem PySem.Spec PyProof.Rows
structure ObjM (h:Heap) (x dx C:Addr) (mA:Str->Option Value):Prop where
  obj:h.get? x=some (PySem.W.instObj C dx)
  ns:h.Ns1 dx mA
  ne:dx≠x
theorem Zi8{h:Heap}{dx:Addr}{mA:Str->Option Value}(n:h.Ns1 dx mA):∃od,h.get? dx=some od/\∀name,PySem.W.lookIn name od=some (mA name):=by
  obtain ⟨o,es,ep,ho,hd,hk,_,hm⟩:=n
  refine ⟨o,ho,λname=>?_⟩
  have e:=hm name
  unfold nsFind findBy at e
  rw[<-Array.find?_toList] at e
  unfold PySem.W.lookIn
  rw[hd]
  dsimp only
  split
  · rename_i y q
    rw[q] at e
    exact congrArg some e
  · rename_i q
    rw[q] at e
    have a:es.toList.any (·.refKey)=false:=by
      rw[List.any_eq_false]
      intro y hy
      obtain ⟨z,t,hkey⟩:=hk y (Array.mem_toList_iff.mp hy)
      simp[DictEntry.refKey,hkey]
    have a':¬es.toList.any (·.refKey)=true:=by rw[a]; exact Qr
    rw[if_neg a']
    exact congrArg some e
theorem ObjM.look{h:Heap}{x dx C:Addr}{mA:Str->Option Value}(I:ObjM h x dx C mA):∃od,PySem.W.InstAt h x (PySem.W.instObj C dx) C (some od)/\∀name,PySem.W.lookIn name od=some (mA name) :=
  let ⟨od,ho,hl⟩:=Zi8 I.ns
  ⟨od,⟨I.obj,rfl,rfl,ho⟩,hl⟩
section
variable{prog:Program}{w:World}{A:Around}{E:Value->Shared->Prop}{s:Shared}{K:PySem.W.Frag}{x dx C f:Addr}{mA:Str->Option Value}{name:Str}{v:Value}
theorem ZlV{expr:Bool}{Q:Value->Shared->Prop}(X:K.In s.heap)(I:ObjM s.heap x dx C mA)(hg:PySem.W.plainGet K C name=true)(hh:PySem.W.hasDictIn K C=true)
    (ha:PySem.W.findIn K (.ref C) name=some none) (hv:mA name=some v) (hv':PySem.W.handedIn v=true) (h:Q v { s with toks:=s.toks+1 }) :
    wpAny (model prog w) A (getAttr (.ref x) name expr) Q E s:=by
  obtain ⟨od,J,hl⟩:=I.look
  exact PySem.W.get_value X J (PySem.W.plainGet_of hg).1 (PySem.W.findObj_own hh ha rfl (by rw[hl,hv])) hv' h
theorem Zku{pl:Sem Bool}{Q:Value×List Value->Shared->Prop}(X:K.In s.heap)(I:ObjM s.heap x dx C mA)(hg:PySem.W.plainGet K C name=true)
    (hf:PySem.W.findIn K (.ref C) name=some (some (.ref f))) (ht:PySem.W.isFn K (.ref f)=true) (hv:mA name=none) (h:Q (.ref f,[.ref x]) s) :
    wpAny (model prog w) A (getMethod (.ref x) name pl) Q E s:=by
  obtain ⟨od,J,hl⟩:=I.look
  exact PySem.W.method_fn X J (PySem.W.plainGet_of hg).1 (PySem.W.plainGet_of hg).2 hf (beq_iff_eq.mp ht) (by show (PySem.W.lookIn name od).map (·.isSome)=some false; rw[hl,hv]; rfl) h
theorem ZlW{ns:List Str}{Q:Unit->Shared->Prop}(X:K.In s.heap)(I:ObjM s.heap x dx C mA)
    (hs:PySem.W.findIn K (.ref C) "__setattr__" = some (some (.builtin "object.__setattr__"))) (hp:PySem.W.plainOver K C=true) (ht:PySem.W.takerIn K C name=some none) (hh:PySem.W.hasDictIn K C=true)
    (hw:PySem.Within mA ns) (hsz:ns.length<=sizeLine)
    (h:∀h',ObjM h' x dx C (λy=>if y=name then some v else mA y)->Heap.SameBut dx s.heap h'->Q () { s with heap:=h',toks:=s.toks+2 }) :
    wpAny (model prog w) A (setAttr (.ref x) name v) Q E s:=by
  obtain ⟨od,J,hl⟩:=I.look
  refine PySem.W.set_plain X J hs (PySem.W.osa_open (s:={ s with toks:=s.toks+1 }) (r:=none) X J hp ht λb=>?_)
  obtain ⟨cd,hc,hd'⟩:=PySem.W.any_some hh
  have hx:s.heap.get? x=some ⟨.ref C,some dx,.plain,#[]⟩:=I.obj
  refine wpAny_bind (wpAny_pure (wpAny_bind (wpAny_bind (wpAny_loadPart hx (wpAny_bind (PySem.W.Looks.here (s:={ s with toks:=s.toks+1 }) (PySem.W.looks_clsIn X hc) ?_))))))
  rw[hd']
  refine wpAny_pure (a:=some dx) (wpAny_bind (wpAny_pure (wpAny_bind ?_)))
  refine wpAny_nsSet1 (s:={ s with toks:=s.toks+1 }) I.ns λh' hn2 hs2=>?_
  obtain ⟨oD,esD,epD,hoD,hdD,hcD⟩:=hn2.count (PySem.Within.cons name v hw)
  refine wpAny_bind (wpAny_lookBehind hoD (by rw[hdD]; exact pastItsLine_dict (Q0 hcD (by rw[Wl]; omega))) ?_)
  exact wpAny_pure (h _ ⟨(hs2.2 _ (Ne.symm I.ne)).trans I.obj,hn2,I.ne⟩ hs2)
theorem Zkv{R:Result->Shared->Prop}{vs:List Value}{kw:List (Str×Value)}(X:K.In s.heap)(hm:PySem.W.makesIn K C=true)
    (hi:PySem.W.findIn K (.ref C) "__init__" = some (some (.ref f))) (hf:PySem.W.typeIn K (.ref f)=some (.type "function"))
    (h:codeAny (model prog w) (A.under (.builtin "type.__call__" ⟨.ref C::vs,kw⟩)) (.call (.ref f) ⟨.ref (s.heap.objs.size+1)::vs,kw⟩) (PySem.W.InitBack (s.heap.objs.size+1) R)
      { s with heap:=(s.heap.push PySem.W.emptyDict).push (PySem.W.instObj C s.heap.objs.size) }) :
    codeAny (model prog w) A (.call (.ref C) ⟨vs,kw⟩) R s:=by
  obtain ⟨hh,g,d,t,os⟩:=s
  exact PySem.W.make_core (PySem.W.makes_of X hm) (PySem.W.looks_findIn X hi) (λself=>PySem.W.bind_fn X self hf) (.inl rfl) h
theorem Zi9{R:Result->Shared->Prop}(X:K.In s.heap)(hm:PySem.W.makesIn K C=true)
    (hi:PySem.W.findIn K (.ref C) "__init__" = some (some (.builtin "object.__init__")))
    (hb:∀self,PySem.W.Looks (model prog w) s.heap (bindSpecial (.builtin "object.__init__") self) (.builtin "object.__init__", [self]))
    (h:codeAny (model prog w) (A.under (.builtin "type.__call__" ⟨[.ref C],[]⟩)) (.call (.builtin "object.__init__") ⟨[.ref (s.heap.objs.size+1)],[]⟩) (PySem.W.InitBack (s.heap.objs.size+1) R)
      { s with heap:=(s.heap.push PySem.W.emptyDict).push (PySem.W.instObj C s.heap.objs.size) }) :
    codeAny (model prog w) A (.call (.ref C) ⟨[],[]⟩) R s:=by
  obtain ⟨hh,g,d,t,os⟩:=s
  exact PySem.W.make_core (PySem.W.makes_of X hm) (PySem.W.looks_findIn X hi) hb (.inr ⟨rfl,rfl⟩) h
end
def Zf5(f:Str)(v:V):List (Str×V)->List (Str×V)
  | []=>[(f,v)]
  | (g,x)::r=>if g=f then (g,v)::r else (g,x)::Zf5 f v r
theorem Zb1(f g:Str)(v:V):∀fs:List (Str×V),(Zf5 f v fs).lookup g=if g=f then some v else fs.lookup g
  | []=>by
    show List.lookup g [(f,v)]=_
    by_cases h:g=f
    · have hb:(g==f)=true:=beq_iff_eq.mpr h
      simp only[List.lookup,hb,if_pos h]
    · have hb:(g==f)=false:=beq_eq_false_iff_ne.mpr h
      simp only[List.lookup,hb,if_neg h]
  | (k,x)::r=>by
    have ih:=Zb1 f g v r
    rw[show Zf5 f v ((k,x)::r)=(if k=f then (k,v)::r else (k,x)::Zf5 f v r) from rfl]
    by_cases hk:k=f
    · rw[if_pos hk]
      by_cases h:g=k
      · have hb:(g==k)=true:=beq_iff_eq.mpr h
        simp only[List.lookup,hb,if_pos (h.trans hk)]
      · have hb:(g==k)=false:=beq_eq_false_iff_ne.mpr h
        simp only[List.lookup,hb,if_neg (λe:g=f=>h (e.trans hk.symm))]
    · rw[if_neg hk]
      by_cases h:g=k
      · have hb:(g==k)=true:=beq_iff_eq.mpr h
        simp only[List.lookup,hb,if_neg (λe:g=f=>hk (h.symm.trans e))]
      · have hb:(g==k)=false:=beq_eq_false_iff_ne.mpr h
        simp only[List.lookup,hb]
        exact ih
theorem Zd6(f:Str)(v:V):∀fs:List (Str×V),f∈(Zf5 f v fs).map (·.1)/\∀g,g∈fs.map (·.1)->g∈(Zf5 f v fs).map (·.1)
  | []=>⟨by simp[Zf5],λg h=>by simp at h⟩
  | (k,x)::r=>by
    obtain ⟨i1,i2⟩:=Zd6 f v r
    rw[show Zf5 f v ((k,x)::r)=(if k=f then (k,v)::r else (k,x)::Zf5 f v r) from rfl]
    by_cases hk:k=f
    · rw[if_pos hk]
      subst hk
      exact ⟨by simp,λg h=>by simpa using h⟩
    · rw[if_neg hk]
      refine ⟨?_,λg h=>?_⟩
      · rw[U4]
        exact Wh _ i1
      · rw[U4] at h ⊢
        rcases Qh.mp h with e | e
        · exact Qh.mpr (.inl e)
        · exact Wh _ (i2 g e)
theorem Zd7(f:Str)(v:V):∀fs:List (Str×V),(Zf5 f v fs).length<=fs.length+1
  | []=>by simp[Zf5]
  | (k,x)::r=>by
    have ih:=Zd7 f v r
    rw[show Zf5 f v ((k,x)::r)=(if k=f then (k,v)::r else (k,x)::Zf5 f v r) from rfl]
    by_cases hk:k=f
    · rw[if_pos hk,Wl,Wl]; omega
    · rw[if_neg hk,Wl,Wl]; omega
theorem RelO.some_of{v:V}{o:Option Value}(r:RelO (some v) o):∃u,o=some u/\RelV v u:=by
  cases o with
  | none=>exact (show False from r).elim
  | some u=>exact ⟨u,rfl,r⟩
theorem RelO.none_of{o:Option Value}(r:RelO none o):o=none:=by
  cases o with
  | none=>rfl
  | some u=>exact (show False from r).elim
theorem Zja{v:V}{u:Value}(r:RelV v u):PySem.W.handedIn u=true:=by
  cases v with
  | non=>cases (show u=Value.none from r); rfl
  | bl b=>cases (show u=Value.bool b from r); rfl
  | int i=>obtain ⟨t,e⟩:=(show ∃t,u=Value.int i t from r); cases e; rfl
  | str x=>obtain ⟨t,e⟩:=(show ∃t,u=Value.str x t from r); cases e; rfl
  | byt b=>obtain ⟨t,e⟩:=(show ∃t,u=Value.bytes b t from r); cases e; rfl
  | flt b=>obtain ⟨t,e⟩:=(show ∃t,u=Value.float b t from r); cases e; rfl
  | ref a=>cases (show u=Value.ref a from r); rfl
  | ty n=>cases (show u=Value.type n from r); rfl
section
variable{P:Program}{w:World}{H H':Hp}{h h':Heap}{a C dx:Addr}{fs fs':List (Str×V)}
theorem Zd8(hok:HOk P w H h)(e:H a=some (.ins C dx fs)):∃mA,ObjM h a dx C mA/\(∀f,RelO (fs.lookup f) (mA f))/\PySem.Within mA (fs.map (·.1))/\fs.length<=1000/\H dx=some (.own a):=by
  obtain ⟨d,z,ne,ob,mA,n,r,q⟩:=(show ObjOk P w H h a (.ins C dx fs) from hok a _ e)
  exact ⟨mA,⟨ob,n,ne⟩,r,q,z,d⟩
end
structure Cls (K:PySem.W.Frag) (C:Addr):Prop where
  pg:PySem.W.plainGet K C Str.empty=true
  hd:PySem.W.hasDictIn K C=true
  po:PySem.W.plainOver K C=true
  sa:PySem.W.findIn K (.ref C) "__setattr__" = some (some (.builtin "object.__setattr__"))
theorem Cls.get{K:PySem.W.Frag}{C:Addr}(c:Cls K C)(f:Str):PySem.W.plainGet K C f=true:=c.pg
def NoAttr(K:PySem.W.Frag)(C:Addr)(f:Str):Prop:=PySem.W.findIn K (.ref C) f=some none
theorem NoAttr.taker{K:PySem.W.Frag}{C:Addr}{f:Str}(n:NoAttr K C f):PySem.W.takerIn K C f=some none:=by
  unfold PySem.W.takerIn
  rw[show PySem.W.findIn K (.ref C) f=some none from n]
  rfl
structure Con (K:PySem.W.Frag) (C:Addr) (f:Str) (v:V) (u:Value):Prop where
  at_:PySem.W.findIn K (.ref C) f=some (some u)
  rel:RelV v u
  get:PySem.W.specialIn K u "__get__" = some none
  cp:PySem.W.copiedNames.contains f=false
structure Meth (K:PySem.W.Frag) (C:Addr) (m:Str) (f:Addr):Prop where
  at_:PySem.W.findIn K (.ref C) m=some (some (.ref f))
  fn:PySem.W.isFn K (.ref f)=true
  kp:PySem.W.keepIn K (.ref f)=true
section
variable{X:Cx}{pins:List (Addr×Obj)}{σ:St}{H:Hp}{s:Shared}{a C dx:Addr}{fs:List (Str×V)}{f:Str}{v:V}{A:Around}{E:Value->Shared->Prop}
theorem Ziq{b:Bool}{Q:Value->Shared->Prop}(I:Inv X pins σ H s)(e:H a=some (.ins C dx fs))(c:Cls X.K C)(n:NoAttr X.K C f)(l:fs.lookup f=some v)
    (h:∀u s',Inv X pins σ H s'->RelV v u->Q u s'):wpAny (model X.prog X.w) A (getAttr (.ref a) f b) Q E s:=by
  obtain ⟨mA,O,r,_,_,_⟩:=Zd8 I.hok e
  obtain ⟨u,hu,ru⟩:=RelO.some_of (v:=v) (o:=mA f) (by rw[<-l]; exact r f)
  exact ZlV I.kIn O (c.get f) c.hd n hu (Zja ru) (h u _ (I.tok _) ru)
theorem ZeZ{m:Str}{g:Addr}{pl:Sem Bool}{Q:Value×List Value->Shared->Prop}(I:Inv X pins σ H s)(e:H a=some (.ins C dx fs))(c:Cls X.K C)(k:Meth X.K C m g)(l:fs.lookup m=none)
    (h:Q (.ref g,[.ref a]) s):wpAny (model X.prog X.w) A (getMethod (.ref a) m pl) Q E s:=by
  obtain ⟨mA,O,r,_,_,_⟩:=Zd8 I.hok e
  have hn:mA m=none:=RelO.none_of (by rw[<-l]; exact r m)
  exact Zku I.kIn O (c.get m) k.at_ k.fn hn h
theorem Zir{y:V}{u:Value}{Q:Unit->Shared->Prop}(I:Inv X pins σ H s)(e:H a=some (.ins C dx fs))(c:Cls X.K C)(n:NoAttr X.K C f)(hl:fs.length<1000)(ry:RelV y u)
    (h:∀s',Inv X pins σ (upd H a (.ins C dx (Zf5 f y fs))) s'->Q () s'):wpAny (model X.prog X.w) A (setAttr (.ref a) f u) Q E s:=by
  obtain ⟨mA,O,r,wi,_,ho⟩:=Zd8 I.hok e
  have hz:(fs.map (·.1)).length<=sizeLine:=by rw[Q1,sizeLine_eq]; omega
  refine ZlW I.kIn O c.sa c.po n.taker c.hd wi hz λh' O' sb=>h _ ?_
  have hd:∃o,h'.get? dx=some o:=let ⟨o,_,_,e',_⟩:=O'.ns; ⟨o,e'⟩
  refine I.write (x:=a) (e:=dx) (by rw[e]; exact True.intro) (.inr ho) (λb q hb z=>(sb.2 b hb).trans z) hd ?_
  refine ⟨by rw[Zau O.ne]; exact ho,?_,O.ne,O'.obj,_,O'.ns,λg=>?_,λg hg=>?_⟩
  · have:=Zd7 f y fs; omega
  · show RelO ((Zf5 f y fs).lookup g) (if g=f then some u else mA g)
    rw[Zb1]
    by_cases q:g=f
    · rw[if_pos q,if_pos q]; exact ry
    · rw[if_neg q,if_neg q]; exact r g
  · by_cases q:g=f
    · rw[q]; exact (Zd6 f y fs).1
    · refine (Zd6 f y fs).2 g (wi g λz=>hg ?_)
      show (if g=f then some u else mA g)=none
      rw[if_neg q]; exact z
theorem Inv.made(I:Inv X pins σ H s):Inv X pins σ (upd (upd H s.heap.objs.size (.own (s.heap.objs.size+1))) (s.heap.objs.size+1) (.ins C s.heap.objs.size []))
    { s with heap:=(s.heap.push PySem.W.emptyDict).push (PySem.W.instObj C s.heap.objs.size) }:=by
  have e1:(s.heap.push PySem.W.emptyDict).get? s.heap.objs.size=some PySem.W.emptyDict:=Heap.get?_push_size s.heap rfl
  have e2:((s.heap.push PySem.W.emptyDict).push (PySem.W.instObj C s.heap.objs.size)).get? (s.heap.objs.size+1)=some (PySem.W.instObj C s.heap.objs.size):=by
    have:=Heap.get?_push_size (s.heap.push PySem.W.emptyDict) (o:=PySem.W.instObj C s.heap.objs.size) rfl
    rwa [Heap.size_push] at this
  have e3:(s.heap.push PySem.W.emptyDict).Ns s.heap.objs.size (λ_=>none):=⟨PySem.W.emptyDict,#[],_,e1,rfl,(λe he=>absurd he (by simp)),λ_=>rfl⟩
  have I1:=I.laid (a:=s.heap.objs.size) (o:=.own (s.heap.objs.size+1)) (h':=s.heap.push PySem.W.emptyDict) (t':=s.toks) (λb u q=>Heap.get?_push_of_some _ q) (Q2 _) ⟨_,e1⟩
  refine I1.laid (a:=s.heap.objs.size+1) (o:=.ins C s.heap.objs.size []) (t':=s.toks) (λb u q=>Heap.get?_push_of_some _ q) (Nat.le_of_eq (Heap.size_push _ _)) ?_
  have ne:s.heap.objs.size≠s.heap.objs.size+1:=Qa (U7 _)
  refine ⟨by rw[Zau ne,Zaf],Qb _,ne,e2,λ_=>none,(Heap.Ns1.of_empty e3).at λo q=>Heap.get?_push_of_some _ q,λ_=>True.intro,λy hy=>absurd rfl hy⟩
theorem ZlX{prog:Program}{w:World}{env:Env}{e:Expr}{f:Str}{pos:Pos}{s:Shared}{Q:Value->Shared->Prop}(hb:attributeBase e f env (eval e env)=eval e env)
    (h:wpAny (model prog w) A (eval e env) (λo s₁=>wpAny (model prog w) A (getAttr o f true) Q E s₁) E s):wpAny (model prog w) A (eval (.Attribute e f pos) env) Q E s :=
  Attribute_any_ h (by rw[arm_eval_Attribute,hb])
end
def Zpz(K:PySem.W.Frag)(ta:TE)(f:Str):TE:=λσ H Q=>ta σ H λx H1=>∃a C dx fs v,x = .ref a/\H1 a=some (.ins C dx fs)/\Cls K C/\NoAttr K C f/\fs.lookup f=some v/\Q v H1
def ZpA(K:PySem.W.Frag)(ta tv:TE)(f:Str):TS:=λD σ H=>tv σ H λy H1=>ta σ H1 λx H2=>∃a C dx fs,x = .ref a/\H2 a=some (.ins C dx fs)/\Cls K C/\NoAttr K C f/\fs.length<1000 ∧
  D.nx σ (upd H2 a (.ins C dx (Zf5 f y fs)))
section
variable{X:Cx}{o e value:Expr}{f:Str}{pos pos' tpos:Pos}{ta tv:TE}
theorem Ze0(he:PE X e ta)(hb:attributeBase e f X.env (eval e X.env)=eval e X.env):PE X (.Attribute e f pos) (Zpz X.K ta f):=by
  intro pins s σ H Q I h
  refine ZlX hb (thn (he pins s σ H _ I h) λu s1 ⟨x,H1,I1,rx,a,C,dx,fs,v,ex,ea,c,n,l,q⟩=>?_)
  subst ex
  obtain rfl:u=Value.ref a:=rx
  exact Ziq I1 ea c n l λu' s2 I2 ru=>⟨v,H1,I2,ru,q⟩
theorem Zno(ha:PE X o ta)(hv:PE X value tv)(hs:swapsWith value (some (.Attribute o f pos')) pos.line X.env=pure false):PS X (.Assign [.Attribute o f pos'] value pos) (ZpA X.K ta tv f):=by
  intro pins s σ H D I h
  refine plainObj_wpAny_Assign_Attribute (thn (hv pins s σ H _ I h) λu s1 ⟨y,H1,I1,ry,q⟩=>thn (ha pins s1 σ H1 _ I1 q) λov s2 ⟨x,H2,I2,rx,a,C,dx,fs,ex,ea,c,n,l,q2⟩=>?_) hs
  subst ex
  obtain rfl:ov=Value.ref a:=rx
  exact Zir I2 ea c n l ry λs3 I3=>⟨σ,_,I3,q2⟩
end
section
variable{X:Cx}{pins:List (Addr×Obj)}{σ:St}{H:Hp}{s:Shared}{A:Around}{E:Value->Shared->Prop}{Q:Value->Shared->Prop}{c:Value}{b:Bool}
inductive TyOf (K:PySem.W.Frag) (H:Hp):V->Value->Prop where
  | non:TyOf K H .non (.type "NoneType")
  | bl (x:Bool):TyOf K H (.bl x) (.type "bool")
  | int (i:Int):TyOf K H (.int i) (.type "int")
  | str (x:Str):TyOf K H (.str x) (.type "str")
  | flt (x:UInt64):TyOf K H (.flt x) (.type "float")
  | lst {a:Addr} {xs:List V} (e:H a=some (.lst xs)):TyOf K H (.ref a) (.type "list")
  | frz {a:Addr} {o:Obj} {xs:List V} (e:H a=some (.frz o (.lst xs))):TyOf K H (.ref a) (.type "list")
  | tup {a:Addr} {xs:List V} (e:H a=some (.tup xs)):TyOf K H (.ref a) (.type "tuple")
  | dK {a:Addr} {kvs:List (Key×V)} (e:H a=some (.dK kvs)):TyOf K H (.ref a) (.type "dict")
  | dT {a:Addr} {kvs:List (List Key×V)} (e:H a=some (.dT kvs)):TyOf K H (.ref a) (.type "dict")
  | ins {a C dx:Addr} {fs:List (Str×V)} (e:H a=some (.ins C dx fs)) (cl:Cls K C) (ha:PySem.W.findIn K (.ref C) "__class__" = some (some (.builtin "object.__class__")))
      (hn:PySem.W.specialIn K (.builtin "object.__class__") "__get__" = some (some (.builtin "getset_descriptor.__get__"))) (htk:PySem.W.takesIn K (.builtin "object.__class__")=some true)
      (hm:PySem.W.mroIn K C (.type "object")=some true):TyOf K H (.ref a) (.ref C)
theorem Zjb{x:V}{u t:Value}(I:Inv X pins σ H s)(rx:RelV x u)(ty:TyOf X.K H x t)(e:PySem.W.kitOne X.K t c=some b)(h:∀tk,Q (.bool b) { s with toks:=tk }) :
    wpAny (model X.prog X.w) A (call (.builtin "isinstance") [u,c]) Q E s:=by
  cases ty with
  | non=>cases (show u=Value.none from rx); exact PySem.W.kia_one PySem.W.kitx_none I.kIn True.intro e (λz=>nomatch z) h
  | bl y=>cases (show u=Value.bool y from rx); exact PySem.W.kia_one PySem.W.kitx_bool I.kIn True.intro e (λz=>nomatch z) h
  | int i=>obtain ⟨t,q⟩:=(show ∃t,u=Value.int i t from rx); cases q; exact PySem.W.kia_one PySem.W.kitx_int I.kIn True.intro e (λz=>nomatch z) h
  | str y=>obtain ⟨t,q⟩:=(show ∃t,u=Value.str y t from rx); cases q; exact PySem.W.kia_one PySem.W.kitx_str I.kIn True.intro e (λz=>nomatch z) h
  | flt y=>obtain ⟨t,q⟩:=(show ∃t,u=Value.float y t from rx); cases q; exact PySem.W.kia_one PySem.W.kitx_float I.kIn True.intro e (λz=>nomatch z) h
  | @lst a xs ea =>
    cases (show u=Value.ref a from rx)
    obtain ⟨_,_,n,_,h1⟩:=(show ObjOk X.prog X.w H s.heap a (.lst xs) from I.hok a _ ea)
    exact PySem.W.kia_one PySem.W.kitx_list I.kIn ⟨_,h1,rfl⟩ e (λz=>nomatch z) h
  | @frz a ob xs ea =>
    cases (show u=Value.ref a from rx)
    obtain ⟨_,_,_,n,_,h1⟩:=(show ObjOk X.prog X.w H s.heap a (.frz ob (.lst xs)) from I.hok a _ ea)
    exact PySem.W.kia_one PySem.W.kitx_list I.kIn ⟨_,h1,rfl⟩ e (λz=>nomatch z) h
  | @tup a xs ea =>
    cases (show u=Value.ref a from rx)
    obtain ⟨_,_,_,p⟩:=(show ObjOk X.prog X.w H s.heap a (.tup xs) from I.hok a _ ea)
    obtain ⟨o,h1,h2,_⟩:=p
    exact PySem.W.kia_one PySem.W.kitx_tuple I.kIn ⟨o,h1,h2⟩ e (λz=>nomatch z) h
  | @dK a kvs ea =>
    cases (show u=Value.ref a from rx)
    obtain ⟨_,_,vs,_,p⟩:=(show ObjOk X.prog X.w H s.heap a (.dK kvs) from I.hok a _ ea)
    obtain ⟨o,es,ep,h1,h2,_⟩:=p
    exact PySem.W.kia_one PySem.W.kitx_dict I.kIn ⟨o,h1,h2.1⟩ e (λz=>nomatch z) h
  | @dT a kvs ea =>
    cases (show u=Value.ref a from rx)
    obtain ⟨_,_,xs,_,o,es,ep,h1,h2,_⟩:=(show ObjOk X.prog X.w H s.heap a (.dT kvs) from I.hok a _ ea)
    exact PySem.W.kia_one PySem.W.kitx_dict I.kIn ⟨o,h1,h2.1⟩ e (λz=>nomatch z) h
  | @ins a C dx fs ea cl ha hn htk hm =>
    cases (show u=Value.ref a from rx)
    obtain ⟨mA,O,_⟩:=Zd8 I.hok ea
    obtain ⟨od,J,_⟩:=O.look
    exact PySem.W.kia_one (PySem.W.kitx_own (cl.get _) cl.hd ha hn htk hm) I.kIn J e (λz=>nomatch z) h
end
end L2
namespace L2
open PySem PySem.Spec PyProof.Rows
structure Room (k:Nat) (A:Around):Prop where
  hd:A.handled=none
  dp:A.depth+3*k+5<recursionLimit
  un:A.units+16*k+200<cLine
theorem Room.mono{j k:Nat}{A:Around}(r:Room k A)(h:j<=k):Room j A:=⟨r.hd,by have:=r.dp; omega,by have:=r.un; omega⟩
theorem Room.deeper{k:Nat}{A:Around}(r:Room (k+1) A)(env:Env):Room k (A.deeper env) :=
  ⟨r.hd,by have:=r.dp; show A.depth+1+3*k+5<_; omega,by have:=r.un; show A.units+3+16*k+200<_; omega⟩
theorem Room.in1{k:Nat}{A:Around}(r:Room (k+1) A):Room k A.in1 :=
  ⟨r.hd,by have:=r.dp; show A.depth+3*k+5<_; omega,by have:=r.un; show A.units+1+16*k+200<_; omega⟩
theorem Zis{A:Around}{C:Addr}{us:List Value}{kw:List (Str×Value)}:(A.under (.builtin "type.__call__" ⟨.ref C::us,kw⟩)).depth=A.depth+1:=by
  first | rfl | simp[Around.under,Code.weight,Code.isCreation,Code.isGuard,Code.isCaller,Code.frames,Code.isFrame,guardIds]
theorem Zit{A:Around}{C:Addr}{us:List Value}{kw:List (Str×Value)}:(A.under (.builtin "type.__call__" ⟨.ref C::us,kw⟩)).units=A.units+1:=by
  first | rfl | simp[Around.under,Code.cUnits,Code.frames,Code.isFrame]
theorem Room.make{k:Nat}{A:Around}(r:Room (k+1) A)(C:Addr)(us:List Value)(kw:List (Str×Value)):Room k (A.under (.builtin "type.__call__" ⟨.ref C::us,kw⟩)) :=
  ⟨r.hd,by have:=r.dp; rw[Zis]; omega,by have:=r.un; rw[Zit]; omega⟩
theorem Room.depth{k:Nat}{A:Around}(r:Room k A):A.depth<recursionLimit:=by have:=r.dp; omega
theorem Room.units{k:Nat}{A:Around}(r:Room k A):A.units+64<cLine:=by have:=r.un; omega
def ZpB:TA:=λ_ H Q=>Q [] H
def Zow(ta:TE)(tr:TA):TA:=λσ H Q=>ta σ H λx H1=>tr σ H1 λxs H2=>Q (x::xs) H2
section
variable{X:Cx}{e:Expr}{es:List Expr}{te:TE}{t:TA}{pos:Pos}
theorem Zab:PA X [] ZpB:=λ_ _ _ _ H Q I h=>Calls.spliced_nil ⟨[],H,I,.nil,h⟩
theorem Zaa(ha:PE X e te)(hr:PA X es t)(hs:starEach (e::es) X.env=(false,eval e X.env)::starEach es X.env:=by rfl):PA X (e::es) (Zow te t):=by
  intro pos pins s σ H Q I h
  rw[hs]
  show wpAny _ _ (spliced ((false,eval e X.env)::backTo pos (starEach es X.env))) _ _ s
  refine Calls.spliced_cons (thn (ha pins s σ H _ I h) λu s1 ⟨x,H1,I1,r1,q1⟩=>?_)
  exact thn (hr pos pins s1 σ H1 _ I1 q1) λus s2 ⟨xs,H2,I2,r2,q2⟩=>⟨x::xs,H2,I2,.cons r1 r2,q2⟩
def ZpC(t:TA):TE:=λσ H Q=>t σ H λxs H1=>xs.length<=sizeLine/\∀p,H1 p=none->Q (.ref p) (upd H1 p (.tup xs))
def ZpD(t:TA):TE:=λσ H Q=>t σ H λxs H1=>xs.length<=sizeLine/\∀p,H1 p=none->Q (.ref p) (upd H1 p (.lst xs))
theorem Zbh{x1}(h:PA X es t):PE X (.Tuple es x1 pos) (ZpC t):=by
  intro pins s σ H Q I hq
  refine wpAny_Tuple_spliced (thn (h pos pins s σ H _ I hq) λus s1 ⟨xs,H1,I1,r,z,q⟩=>⟨by rw[<-r.length]; exact z,?_⟩)
  have hf:H1 s1.heap.objs.size=none:=I1.hok.fresh (Q2 _)
  refine ⟨.ref s1.heap.objs.size,upd H1 s1.heap.objs.size (.tup xs),I1.laid (t':=s1.toks) (λb u e=>Heap.get?_push_of_some _ e) (Q2 _) ?_,rfl,q _ hf⟩
  exact ⟨z,us,r,⟨_,Heap.get?_push_size _ rfl,rfl,_,rfl⟩⟩
theorem ZaU(h:PA X es t):PE X (.List es pos) (ZpD t):=by
  intro pins s σ H Q I hq
  refine wpAny_List_spliced (thn (h pos pins s σ H _ I hq) λus s1 ⟨xs,H1,I1,r,z,q⟩=>⟨by rw[<-r.length]; exact z,?_⟩)
  have hf:H1 s1.heap.objs.size=none:=I1.hok.fresh (Q2 _)
  refine ⟨.ref s1.heap.objs.size,upd H1 s1.heap.objs.size (.lst xs),I1.laid (t':=s1.toks) (λb u e=>Heap.get?_push_of_some _ e) (Q2 _) ?_,rfl,q _ hf⟩
  exact ⟨z,us,0,r,Heap.get?_push_size _ rfl⟩
end
abbrev Sp:=List V->Hp->VK->XK->Prop
abbrev CXT:=List Env->Hp->Shared->XK->Value->Shared->Prop
structure Env0 (P:Program) (w:World) (K:PySem.W.Frag) (mg:Str->Option Value) (base:Heap) (A:Around) (outer:List Env) (s:Shared) (H:Hp):Prop where
  frames:A.frames=some outer
  mod:Mod K mg base
  bs:∀b o,base.get? b=some o->s.heap.get? b=some o/\H b=none
  bsz:base.objs.size<=s.heap.objs.size
  funs:s.heap.FunFrames base outer
  frf:∀b∈frs outer,H b=none
  hok:HOk P w H s.heap
  bare:AllBare s.gens
def CE(outer:List Env)(P:Program)(w:World)(H:Hp)(s:Shared)(Q:VK)(u:Value)(s':Shared):Prop :=
  ∃v H',s'.os=s.os/\AllBare s'.gens/\Un (frs outer) [] H H' s.heap s'.heap/\HOk P w H' s'.heap/\RelV v u/\Q v H'
def CR(CX:CXT)(outer:List Env)(P:Program)(w:World)(H:Hp)(s:Shared)(Q:VK)(E:XK)(r:Result)(s':Shared):Prop :=
  match r with
  | .ok (.ret u)=>CE outer P w H s Q u s'
  | .ok _=>False
  | .error e=>CX outer H s E e s'
structure FnOk (P:Program) (w:World) (K:PySem.W.Frag) (mg:Str->Option Value) (base:Heap) (CX:CXT) (k:Nat) (f:Addr) (fd:FuncData) (ps:List Str) (sp:Sp):Prop where
  len:∀vs H Q E,sp vs H Q E->vs.length=ps.length
  run:∀(A:Around) (outer:List Env) (s:Shared) (H:Hp) (args:Args) (us:List Value) (vs:List V) (Q:VK) (E:XK),Room k A->Env0 P w K mg base A outer s H->BindsTo s fd args (ps.zip us)->Vals vs us->sp vs H Q E →
    codeAny (model P w) A (.call (.ref f) args) (CR CX outer P w H s Q E) s
theorem FnOk.mono{P:Program}{w:World}{K:PySem.W.Frag}{mg:Str->Option Value}{base:Heap}{CX:CXT}{j k:Nat}{f:Addr}{fd:FuncData}{ps:List Str}{sp:Sp}(F:FnOk P w K mg base CX j f fd ps sp)(h:j<=k) :
    FnOk P w K mg base CX k f fd ps sp:=⟨F.len,λA outer s H args us vs Q E hr=>F.run A outer s H args us vs Q E (hr.mono h)⟩
theorem Env0.make{P:Program}{w:World}{K:PySem.W.Frag}{mg:Str->Option Value}{base:Heap}{A:Around}{outer:List Env}{s:Shared}{H:Hp}(e:Env0 P w K mg base A outer s H)(C:Addr)(us:List Value)(kw:List (Str×Value)) :
    Env0 P w K mg base (A.under (.builtin "type.__call__" ⟨.ref C::us,kw⟩)) outer s H:=⟨by first | exact e.frames | (simpa [Around.under,Code.envs,Code.isFrame,pushEnvs] using e.frames),e.mod,e.bs,e.bsz,e.funs,e.frf,e.hok,e.bare⟩
theorem Env0.in1{P:Program}{w:World}{K:PySem.W.Frag}{mg:Str->Option Value}{base:Heap}{A:Around}{outer:List Env}{s:Shared}{H:Hp}(e:Env0 P w K mg base A outer s H) :
    Env0 P w K mg base A.in1 outer s H:=⟨e.frames,e.mod,e.bs,e.bsz,e.funs,e.frf,e.hok,e.bare⟩
section
variable{X:Cx}{pins:List (Addr×Obj)}{σ:St}{H:Hp}{s s':Shared}
theorem Inv.env0(I:Inv X pins σ H s):Env0 X.prog X.w X.K X.mg X.base X.A X.stack s H :=
  ⟨I.ok.frames,I.ok.mod,I.bs,Q0 I.ok.bsz I.sz,I.stack,I.stkFree,I.hok,I.bare⟩
theorem Inv.after{Q:VK}{u:Value}(I:Inv X pins σ H s)(h:CE X.stack X.prog X.w H s Q u s'):EP X pins σ Q u s':=by
  obtain ⟨v,H',os,bare,un,hok,r,q⟩:=h
  obtain ⟨hh,g,d,t,os'⟩:=s'
  obtain rfl:os'=s.os:=os
  exact ⟨v,H',I.call (h':=hh) (g':=g) (d':=d) (t':=t) (ch:=[]) un hok bare (λb z=>absurd z (by simp)),r,q⟩
end
def Znp(sp:Sp)(dvs:List V)(E:XK)(t:TA):TE:=λσ H Q=>t σ H λvs H1=>sp (vs++dvs) H1 Q E
def Znq(C:Addr)(sp:Sp)(dvs:List V)(E:XK)(t:TA):TE:=λσ H Q=>t σ H λvs H1=>∀x dx,H1 x=none->H1 dx=none->dx≠x →
  sp (.ref x::(vs++dvs)) (upd (upd H1 dx (.own x)) x (.ins C dx [])) (λv H2=>v = .non/\Q (.ref x) H2) E
def Binds(K:PySem.W.Frag)(fd:FuncData)(ps:List Str)(ds:List Value):Prop :=
  ∀(s:Shared) (us:List Value),K.In s.heap->(us++ds).length=ps.length->BindsTo s fd ⟨us,[]⟩ (ps.zip (us++ds))
theorem Binds.all{K:PySem.W.Frag}{fd:FuncData}{ps:List Str}(h:∀us:List Value,us.length=ps.length->bindArgs fd ⟨us,[]⟩=pure (ps.zip us)):Binds K fd ps []:=λs us _ hl=>by
  rw[List.append_nil] at hl ⊢
  exact .of_eq (h us hl)
def Zf6(CX:CXT)(X:Cx)(E:XK):Prop:=∀(pins:List (Addr×Obj)) (σ:St) (H:Hp) (s:Shared) (e:Value) (s':Shared),Inv X pins σ H s->CX X.stack H s E e s'->X.xe e s'
section
variable{X:Cx}{CX:CXT}{k:Nat}{f C:Addr}{fd:FuncData}{ps:List Str}{sp:Sp}{dvs:List V}{ds:List Value}{E:XK}{x m:Str}{p pos apos:Pos}{e o:Expr}{es:List Expr}{ta:TE}{t:TA}
theorem Zlf{pins:List (Addr×Obj)}{σ:St}{H:Hp}{s:Shared}{Q:VK}{us:List Value}{vs:List V}(F:FnOk X.prog X.w X.K X.mg X.base CX k f fd ps sp)(hr:Room k X.A)(hb:Binds X.K fd ps ds)(hd:Vals dvs ds)(hx:Zf6 CX X E)
    (I:Inv X pins σ H s) (r:Vals vs us) (h:sp (vs++dvs) H Q E):wpAny (model X.prog X.w) X.A (call (.ref f) us) (EP X pins σ Q) X.xe s:=by
  have r2:Vals (vs++dvs) (us++ds):=r.append hd
  have hl:(us++ds).length=ps.length:=by rw[<-r2.length]; exact F.len _ _ _ _ h
  refine wpAny_call (codeAny_mono (F.run X.A X.stack s H ⟨us,[]⟩ (us++ds) (vs++dvs) Q E hr I.env0 (hb s us I.kIn hl) r2 h) λr s' hq=>?_)
  cases r with
  | error e=>exact hx pins σ H s e s' I hq
  | ok fl =>
    cases fl with
    | ret u=>exact I.after hq
    | next=>exact False.elim hq
    | brk=>exact False.elim hq
    | cont=>exact False.elim hq
theorem ZlY(F:FnOk X.prog X.w X.K X.mg X.base CX k f fd ps sp)(hr:Room k X.A)(hg:Gl X x)(hm:X.mg x=some (.ref f))(hk:PySem.W.keepIn X.K (.ref f)=true)(hb:Binds X.K fd ps ds)(hd:Vals dvs ds)(hx:Zf6 CX X E)
    (ha:PA X (e::es) t) (hdb:(x==("__debug__" : Str))=false:=by decide) (he:starEach (e::es) X.env=(false,eval e X.env)::starEach es X.env:=by rfl) (hpl:(backTo pos (starEach es X.env)).any (·.1)=false:=by rfl) :
    PE X (.Call (.Name x p) (e::es) [] pos) (Znp sp dvs E t):=by
  intro pins s σ H Q I h
  refine wpAny_Call_Name_kw (ZcN I hg hm ?_ hdb)
  refine PySem.W.callWith_K (h₀:=X.base) I.ok.mod.kin hk (thn (ha pos pins s σ H _ I h) λus s1 ⟨vs,H1,I1,r,q⟩=>⟨I1.kIn,?_⟩) he hpl
  exact Zlf F hr hb hd hx I1 r q
structure Mk (K:PySem.W.Frag) (C f:Addr):Prop where
  makes:PySem.W.makesIn K C=true
  init:PySem.W.findIn K (.ref C) "__init__" = some (some (.ref f))
  fn:PySem.W.isFn K (.ref f)=true
  kp:PySem.W.keepIn K (.ref C)=true
theorem Zkw{pins:List (Addr×Obj)}{σ:St}{H:Hp}{s:Shared}{Q:VK}{us:List Value}{vs:List V}(M:Mk X.K C f)(F:FnOk X.prog X.w X.K X.mg X.base CX k f fd ps sp)(hr:Room (k+1) X.A)(hb:Binds X.K fd ps ds)(hd:Vals dvs ds)
    (hx:Zf6 CX X E) (I:Inv X pins σ H s) (r:Vals vs us)
    (h:∀x dx,H x=none->H dx=none->dx≠x->sp (.ref x::(vs++dvs)) (upd (upd H dx (.own x)) x (.ins C dx [])) (λv H2=>v = .non/\Q (.ref x) H2) E) :
    wpAny (model X.prog X.w) X.A (call (.ref C) us) (EP X pins σ Q) X.xe s:=by
  have hq:=h (s.heap.objs.size+1) s.heap.objs.size (I.hok.fresh (Nat.le_succ _)) (I.hok.fresh (Q2 _)) (Qa (U7 _))
  have I2:=Inv.made (C:=C) I
  have r2:Vals (V.ref (s.heap.objs.size+1)::(vs++dvs)) (Value.ref (s.heap.objs.size+1)::(us++ds)):=.cons rfl (r.append hd)
  have hl:(Value.ref (s.heap.objs.size+1)::us++ds).length=ps.length:=by
    have e:=r2.length
    rw[F.len _ _ _ _ hq] at e
    exact e.symm
  refine wpAny_call (Zkv (f:=f) I.kIn M.makes M.init (beq_iff_eq.mp M.fn) (codeAny_mono (F.run _ X.stack _ _ ⟨Value.ref (s.heap.objs.size+1)::us,[]⟩ (Value.ref (s.heap.objs.size+1)::(us++ds)) _ _ E (hr.make C us [])
    (I2.env0.make C us []) (hb _ (Value.ref (s.heap.objs.size+1)::us) I2.kIn hl) r2 hq) λr s' hq'=>?_))
  cases r with
  | error e=>exact hx pins σ _ _ e s' I2 hq'
  | ok fl =>
    cases fl with
    | ret u =>
      obtain ⟨v,H',I3,rv,ev,q3⟩:=I2.after hq'
      subst ev
      exact ⟨rv,⟨V.ref (s.heap.objs.size+1),H',I3,rfl,q3⟩⟩
    | next=>exact False.elim hq'
    | brk=>exact False.elim hq'
    | cont=>exact False.elim hq'
theorem ZlZ(M:Mk X.K C f)(F:FnOk X.prog X.w X.K X.mg X.base CX k f fd ps sp)(hr:Room (k+1) X.A)(hg:Gl X x)(hm:X.mg x=some (.ref C))(hb:Binds X.K fd ps ds)(hd:Vals dvs ds)(hx:Zf6 CX X E)
    (ha:PA X (e::es) t) (hdb:(x==("__debug__" : Str))=false:=by decide) (he:starEach (e::es) X.env=(false,eval e X.env)::starEach es X.env:=by rfl) (hpl:(backTo pos (starEach es X.env)).any (·.1)=false:=by rfl) :
    PE X (.Call (.Name x p) (e::es) [] pos) (Znq C sp dvs E t):=by
  intro pins s σ H Q I h
  refine wpAny_Call_Name_kw (ZcN I hg hm ?_ hdb)
  refine PySem.W.callWith_K (h₀:=X.base) I.ok.mod.kin M.kp (thn (ha pos pins s σ H _ I h) λus s1 ⟨vs,H1,I1,r,q⟩=>⟨I1.kIn,?_⟩) he hpl
  exact Zkw M F hr hb hd hx I1 r q
end
def PK(X:Cx)(kws:List Keyword)(t:TA):Prop :=
  ∀(pos:Pos) (pins:List (Addr×Obj)) (s:Shared) (σ:St) (H:Hp) (Q:List V->Hp->Prop),Inv X pins σ H s->t σ H Q->wpAny (model X.prog X.w) X.A (evalAll ((backToKw pos (keywordEach kws X.env)).map (·.2))) (AP X pins σ Q) X.xe s
section
variable{X:Cx}{CX:CXT}{k:Nat}{f C:Addr}{fd:FuncData}{ps ks:List Str}{sp:Sp}{E:XK}{x m:Str}{p pos apos kpos:Pos}{e o:Expr}{es:List Expr}{kws:List Keyword}{te ta:TE}{t tk:TA}{nm:Option Str}
structure KBinds (K:PySem.W.Frag) (fd:FuncData) (ps ks:List Str) (g:List Value->List Value->List Value) (gV:List V->List V->List V):Prop where
  to:∀(s:Shared) (us ws:List Value),K.In s.heap->(g us ws).length=ps.length->BindsTo s fd ⟨us,ks.zip ws⟩ (ps.zip (g us ws))
  rel:∀ {vs:List V} {us:List Value} {zs:List V} {ws:List Value},Vals vs us->Vals zs ws->Vals (gV vs zs) (g us ws)
variable{g:List Value->List Value->List Value}{gV:List V->List V->List V}
end
structure FnScope (N P:List Str) (sc:Scope):Prop where
  kind:sc.kind = .function
  co:sc.isCoroutine=false
  gen:sc.isGenerator=false
  nd:N.Nodup
  pre:N.take P.length=P
  par:∀x∈P,sc.names.lookup x=some .local\/sc.names.lookup x=some .cell
  nofree:∀y∈sc.names,y.2 ≠ .free
theorem Zf7{kindOf:Str->Option NameKind}{x:Str}:∀ {binds:List (Str×Value)} {m:Str->Option Value},(∀v,(x,v)∉binds)->bindL kindOf binds m x=m x
  | [],_,_=>rfl
  | (n,v)::r,m,h=>by
    unfold bindL
    rw[Zf7 λw hw=>h w (Wh _ hw)]
    split
    · have:x≠n:=by rintro rfl; exact h v Wg
      simp[this]
    · rfl
theorem Zf8{kindOf:Str->Option NameKind}{x:Str}:∀ {binds:List (Str×Value)} {m:Str->Option Value},(∀v,(x,v)∉binds)->bindC kindOf binds m x=m x
  | [],_,_=>rfl
  | (n,v)::r,m,h=>by
    unfold bindC
    rw[Zf8 λw hw=>h w (Wh _ hw)]
    split
    · rfl
    · have:x≠n:=by rintro rfl; exact h v Wg
      simp[this]
theorem Zf9{kindOf:Str->Option NameKind}{x:Str}{v:Value}:∀ {P:List Str} {vs:List Value} {i:Nat} {m:Str->Option Value},P.Nodup->P[i]?=some x->vs[i]?=some v->kindOf x=some .local →
    bindL kindOf (P.zip vs) m x=some v
  | [],_,_,_,_,h,_,_=>by simp at h
  | _::_,[],_,_,_,_,h,_=>by simp at h
  | p::P,w::vs,0,m,nd,h1,h2,hk=>by
    simp at h1 h2; subst h1; subst h2
    show bindL kindOf ((p,w)::P.zip vs) m p=_
    unfold bindL
    rw[Zf7 λv hv=>(List.nodup_cons.mp nd).1 (List.of_mem_zip hv).1,if_pos hk]
    simp
  | p::P,w::vs,i+1,m,nd,h1,h2,hk=>by
    show bindL kindOf ((p,w)::P.zip vs) m x=_
    unfold bindL
    exact Zf9 (i:=i) (List.nodup_cons.mp nd).2 (by simpa using h1) (by simpa using h2) hk
theorem Zga{kindOf:Str->Option NameKind}{x:Str}{v:Value}:∀ {P:List Str} {vs:List Value} {i:Nat} {m:Str->Option Value},P.Nodup->P[i]?=some x->vs[i]?=some v->kindOf x≠some .local →
    bindC kindOf (P.zip vs) m x=some v
  | [],_,_,_,_,h,_,_=>by simp at h
  | _::_,[],_,_,_,_,h,_=>by simp at h
  | p::P,w::vs,0,m,nd,h1,h2,hk=>by
    simp at h1 h2; subst h1; subst h2
    show bindC kindOf ((p,w)::P.zip vs) m p=_
    unfold bindC
    rw[Zf8 λv hv=>(List.nodup_cons.mp nd).1 (List.of_mem_zip hv).1,if_neg hk]
    simp
  | p::P,w::vs,i+1,m,nd,h1,h2,hk=>by
    show bindC kindOf ((p,w)::P.zip vs) m x=_
    unfold bindC
    exact Zga (i:=i) (List.nodup_cons.mp nd).2 (by simpa using h1) (by simpa using h2) hk
def start(N:List Str)(vs:List V):St:=vs.map some++List.replicate (N.length-vs.length) none
def Zlg(CX:CXT)(P:Program)(w:World)(K:PySem.W.Frag)(mg:Str->Option Value)(base:Heap)(N:List Str)(qual:Str)(scope:Scope)(f:Addr)(cd:Value)(A:Around)(outer:List Env)(s:Shared)(H:Hp)(E:XK):Cx where
  prog:=P
  w:=w
  K:=K
  mg:=mg
  base:=base
  A:=A.deeper (envOfC qual scope s.heap.objs.size f cd)
  N:=N
  s₀:=s
  H₀:=H
  env:=envOfC qual scope s.heap.objs.size f cd
  outer:=outer
  stack:=envOfC qual scope s.heap.objs.size f cd::outer
  ex:=[]
  calm:=true
  fn:=λ_=>true
  pn:=[]
  xe:=λe s'=>wpAny (model P w) (A.deeper (envOfC qual scope s.heap.objs.size f cd)) (leaving (envOfC qual scope s.heap.objs.size f cd) e) (λ_ s''=>CX outer H s E e s'') (λe' s''=>CX outer H s E e' s'') s'
theorem ZhE{sc:Scope}{n:Nat}{x:Str}(h:sc.names.lookup x=some .cell):∃c,(cellsFrom n sc.names []).lookup x=some c:=by
  have q:=PySem.W.cellsFrom_some sc.names n [] (.inl h)
  exact Option.isSome_iff_exists.mp q
theorem Zjc{CX:CXT}{P:Program}{w:World}{K:PySem.W.Frag}{mg:Str->Option Value}{base:Heap}{N ps:List Str}{qual:Str}{scope:Scope}{f:Addr}{cd:Value}{A:Around}{outer:List Env}{s s1:Shared}{H:Hp}{E:XK}{us:List Value}{vs:List V}
    (S:FnScope N ps scope) (hd:A.handled=none) (e0:Env0 P w K mg base A outer s H) (hl:vs.length=ps.length) (r:Vals vs us)
    (x:InCallC s s.heap.objs.size (bindL (envOfC qual scope s.heap.objs.size f cd).kindOf (ps.zip us) λ_=>none) (cellsFrom (s.heap.objs.size+1) scope.names []) (bindC (envOfC qual scope s.heap.objs.size f cd).kindOf (ps.zip us) λ_=>none) s1) :
    Inv (Zlg CX P w K mg base N qual scope f cd A outer s H E) [] (start N vs) H s1:=by
  have hpl:ps.length<=N.length:=by have:=congrArg List.length S.pre; rw[Q8] at this; omega
  obtain ⟨h1,tk,rfl,hk⟩:=x.done
  have noA:∀b:Addr,b∉(Zlg CX P w K mg base N qual scope f cd A outer s H E).ex:=λb z=>absurd (show b∈([]:List Addr) from z) (by simp)
  refine ⟨⟨e0.mod,S.kind,rfl,rfl,Q2 _,λy z c h1 h2=>?_,λy hy=>?_,λy c _ h=>?_,λ_=>hd,Around.frames_deeper e0.frames,.inr ⟨rfl,rfl⟩,λb z=>absurd z (noA b),e0.bs,e0.bsz,λb _ _=>noA b,λb z=>absurd z (noA b),e0.funs,e0.frf⟩,
    rfl,e0.bare,Un.kept hk,⟨_,x.toInCall.ns,λi y v h1 h2 h3=>?_⟩,λy c h=>⟨_,x.cell y c h⟩,e0.hok.fresh (Q2 _),λy c h=>?_,λp hp=>absurd (show p∈([]:List (Addr×Obj)) from hp) (by simp),e0.hok.kept hk,?_⟩
  · exact name_of_addr x.apart (PySem.mem_of_lookup h1) (PySem.mem_of_lookup h2)
  · have hy:scope.names.lookup y=some .cell\/scope.names.lookup y=some .free:=hy
    rcases hy with hy | hy
    · exact ZhE hy
    · exact absurd rfl (S.nofree _ (PySem.mem_of_lookup hy))
  · exact Ub (x.above y c (PySem.mem_of_lookup h))
  · have hi:i<vs.length:=by
      unfold start at h2
      by_cases hi:i<vs.length
      · exact hi
      · rw[W5 (by simpa using hi)] at h2
        rw[List.getElem?_replicate] at h2
        split at h2 <;> cases h2
    have ha:vs[i]?=some v:=by
      unfold start at h2
      rw[Qv (by simpa using hi),Qc] at h2
      cases e:vs[i]? with
      | none=>rw[e] at h2; cases h2
      | some a=>rw[e] at h2; cases h2; rfl
    obtain ⟨u,hu,rv⟩:=r.get ha
    have hp:ps[i]?=some y:=by
      rw[<-S.pre,List.getElem?_take_of_lt (by omega)]; exact h1
    have ndP:ps.Nodup:=by rw[<-S.pre]; exact S.nd.sublist (List.take_sublist _ _)
    refine ⟨u,rv,?_⟩
    rcases S.par y (Qe hp) with k | k
    · exact .inl ⟨k,Zf9 ndP hp hu k⟩
    · obtain ⟨c,e⟩:=ZhE (n:=s.heap.objs.size+1) k
      refine .inr ⟨.inl k,c,e,?_⟩
      have q:=x.cell y c e
      rw[Zga ndP hp hu (by show scope.names.lookup y≠_; rw[k]; decide)] at q
      exact q
  · exact e0.hok.fresh (Ub (x.above y c (PySem.mem_of_lookup h)))
  · unfold start
    show _=N.length
    rw[Q7,Q1,Uc]
    omega
theorem Zkx{CX:CXT}{P:Program}{w:World}{K:PySem.W.Frag}{mg:Str->Option Value}{base:Heap}{k:Nat}{f:Addr}{name qual:Str}{params:Arguments}{body:List Stmt}{scope:Scope}{dV kV doc pm cdv ct oc:Value}{an od:Option Addr}
    {osl:Array (Option Value)} {N ps:List Str} {sp:Sp} (lk:K.lookup f=some ⟨oc,od,.func (PySem.W.fnOf name qual params body scope dV kV doc pm an cdv ct),osl⟩) (hcd:PySem.W.codeIn K cdv qual=true) (S:FnScope N ps scope)
    (len:∀vs H Q E,sp vs H Q E->vs.length=ps.length)
    (hbody:∀(A:Around) (outer:List Env) (s:Shared) (H:Hp) (vs:List V) (Q:VK) (E:XK),Room k (A.deeper (envOfC qual scope s.heap.objs.size f cdv))->sp vs H Q E →
      ∃t,PSs (Zlg CX P w K mg base N qual scope f cdv A outer s H E) body t/\t { nx:=λ_ H'=>Q .non H',rt:=Q } (start N vs) H) :
    FnOk P w K mg base CX (k+1) f (PySem.W.fnOf name qual params body scope dV kV doc pm an cdv ct) ps sp:=by
  refine ⟨len,λA outer s H args us vs Q E hr e0 hb r hsp=>?_⟩
  have hl:=len _ _ _ _ hsp
  have KX:K.In s.heap:=e0.mod.kin.keeps λb o e=>(e0.bs b o e).1
  have lim:s.heap.NoLimit:=e0.mod.nolimit.keeps λb o e=>(e0.bs b o e).1
  have hkind:∀y∈ps.zip us,scope.names.lookup y.1=some .local\/(scope.names.lookup y.1=some .cell/\((cellsFrom (s.heap.objs.size+1) scope.names []).lookup y.1).isSome=true):=λ⟨n,v⟩ hy=>by
    rcases S.par n (List.of_mem_zip hy).1 with q | q
    · exact .inl q
    · exact .inr ⟨q,PySem.W.cellsFrom_some _ _ _ (.inl q)⟩
  refine codeAny_call_function hr.depth (KX _ _ lk) rfl S.co S.gen rfl (PySem.W.codeRec_of KX hcd) (hb _ _ _ _ ?_)
  refine wpAny_newFunctionEnv_cells S.kind hkind λenv he s1 x=>?_
  subst he
  refine ⟨lim.keeps x.toInCall.keep,codeAny_func ?_⟩
  obtain ⟨t,ht,hq⟩:=hbody A outer s H vs Q E (hr.deeper _) hsp
  have I:Inv (Zlg CX P w K mg base N qual scope f cdv A outer s H E) [] (start N vs) H s1:=Zjc S hr.hd e0 hl r x
  refine wpAny_mono (ht [] s1 (start N vs) H _ I hq) (λfl s' hs=>?_) λe s' hs=>hs
  have fin:∀ {σ':St} {H':Hp} {v:V} {u:Value},Inv (Zlg CX P w K mg base N qual scope f cdv A outer s H E) [] σ' H' s'->RelV v u->Q v H'->CE outer P w H s Q u s' :=
    fun {σ' H' v u} J rv q=>⟨v,H',J.os,J.bare,J.base,J.hok,rv,q⟩
  cases fl with
  | ret u =>
    obtain ⟨v,σ',H',J,rv,q⟩:=hs
    exact fin J rv q
  | next =>
    obtain ⟨σ',H',J,q⟩:=hs
    exact fin (v:=V.non) (u:=Value.none) J rfl q
  | brk =>
    obtain ⟨_,_,_,q⟩:=hs
    exact False.elim q
  | cont =>
    obtain ⟨_,_,_,q⟩:=hs
    exact False.elim q
end L2
namespace L2
open PySem PySem.Spec PyProof.Rows
section
variable{X:Cx}{x:Str}{p pos:Pos}{e:Expr}{es:List Expr}{t:TA}{id T:String}{r:List V->Hp->VK->Prop}
def tCB(r:List V->Hp->VK->Prop)(t:TA):TE:=λσ H Q=>t σ H λvs H1=>r vs H1 Q
theorem Zaj(hc:CallR X (.builtin id) r)(hg:Gl X x)(hm:X.mg x=none)(hv:bootBuiltins x=some (.builtin id))(ha:PA X (e::es) t)(hn:x ≠ "__name__" := by decide) (hdb:(x==("__debug__" : Str))=false:=by decide)
    (he:starEach (e::es) X.env=(false,eval e X.env)::starEach es X.env:=by rfl) (hpl:(backTo pos (starEach es X.env)).any (·.1)=false:=by rfl):PE X (.Call (.Name x p) (e::es) [] pos) (tCB r t):=by
  intro pins s σ H Q I h
  refine wpAny_Call_Name_kw (ZdC I hg hm hv ?_ hn hdb)
  exact PyProof.Rows.callWith_builtin1 (thn (ha pos pins s σ H _ I h) λus s1 ⟨vs,H1,I1,r1,q1⟩=>hc pins s1 σ H1 vs us Q I1 r1 q1) he hpl
theorem ZbU(hc:CallR X (.type T) r)(hg:Gl X x)(hm:X.mg x=none)(hv:bootBuiltins x=some (.type T))(ha:PA X (e::es) t)(hn:x ≠ "__name__" := by decide) (hdb:(x==("__debug__" : Str))=false:=by decide)
    (he:starEach (e::es) X.env=(false,eval e X.env)::starEach es X.env:=by rfl) (hpl:(backTo pos (starEach es X.env)).any (·.1)=false:=by rfl):PE X (.Call (.Name x p) (e::es) [] pos) (tCB r t):=by
  intro pins s σ H Q I h
  refine wpAny_Call_Name_kw (ZdC I hg hm hv ?_ hn hdb)
  exact PyProof.Rows.callWith_type1 (thn (ha pos pins s σ H _ I h) λus s1 ⟨vs,H1,I1,r1,q1⟩=>hc pins s1 σ H1 vs us Q I1 r1 q1) he hpl
end
end L2
namespace HT
open PySem PyProof.Rows
section
open PySem.SeqAt
open PySem.AutoSeq1 (wpAny_loadPart')
open PySem.MeetsSeq PySem.MeetsSeq2 PySem.MeetsSeq3
end
section
variable{prog:Program}{w:World}{A:Around}{E:Value->Shared->Prop}{s:Shared}
def sIx(n d:Nat):Option Int->Nat
  | none=>d
  | some v=>if v<0 then (v+(n:Int)).toNat else min v.toNat n
theorem sIx_none(n d:Nat):sIx n d none=d:=rfl
theorem sIx_nat(n d k:Nat):sIx n d (some (k:Int))=min k n:=by
  show (if (k:Int)<0 then ((k:Int)+(n:Int)).toNat else min (k:Int).toNat n)=min k n
  rw[if_neg (by omega),Qx]
end
end HT
namespace L2
open PySem PySem.Spec PyProof.Rows
abbrev TO:=St->Hp->(Option Int->Hp->Prop)->Prop
def PO(X:Cx)(e:Option Expr)(t:TO):Prop :=
  ∀(pins:List (Addr×Obj)) (s:Shared) (σ:St) (H:Hp) (Q:Option Int->Hp->Prop),Inv X pins σ H s->t σ H Q →
    wpAny (model X.prog X.w) X.A (evalPart e X.env) (λu s'=>∃o H',Inv X pins σ H' s'/\IsPart u o/\Q o H') X.xe s
def Zl0:TO:=λ_ H Q=>Q none H
def Zox(t:TE):TO:=λσ H Q=>t σ H λx H1=>∃i,x = .int i/\Q (some i) H1
section
variable{X:Cx}{e:Expr}{te:TE}{lo hi:Option Expr}{tl th:TO}{pos p2:Pos}
theorem ZbJ:PO X none Zl0:=by
  intro pins s σ H Q I h
  rw[evalPart_none]
  exact wpAny_pure ⟨none,H,I,.none,h⟩
theorem Zbo(h:PE X e te):PO X (some e) (Zox te):=by
  intro pins s σ H Q I hw
  rw[evalPart_some]
  refine thn (h pins s σ H _ I hw) λu s1 ⟨x,H1,I1,r1,q1⟩=>?_
  obtain ⟨i,rfl,q⟩:=q1
  obtain ⟨t,rfl⟩:=r1
  exact ⟨some i,H1,I1,.int i t,q⟩
def SlR(X:Cx)(r:V->Option Int->Option Int->Hp->VK->Prop):Prop :=
  ∀(pins:List (Addr×Obj)) (s:Shared) (σ:St) (H:Hp) (x:V) (v vl vu:Value) (lo hi:Option Int) (sl:Addr) (Q:VK),Inv X pins σ H s->RelV x v->s.heap.IsSliceOf sl vl vu .none->IsPart vl lo->IsPart vu hi->r x lo hi H Q →
    ∃T id,typeLookup (.type T) "__getitem__" = pure (some (.builtin id))/\s.TypeIs v T/\wpAny (model X.prog X.w) X.A (getItem v (.ref sl)) (EP X pins σ Q) X.xe s
theorem SlR.or{r r':V->Option Int->Option Int->Hp->VK->Prop}(h:SlR X r)(h':SlR X r'):SlR X (λx lo hi H Q=>r x lo hi H Q\/r' x lo hi H Q):=by
  intro pins s σ H x v vl vu lo hi sl Q I rx hs pl pu q
  rcases q with q | q
  · exact h pins s σ H x v vl vu lo hi sl Q I rx hs pl pu q
  · exact h' pins s σ H x v vl vu lo hi sl Q I rx hs pl pu q
def tSl(r:V->Option Int->Option Int->Hp->VK->Prop)(te:TE)(tl th:TO):TE:=λσ H Q=>te σ H λx H1=>tl σ H1 λl H2=>th σ H2 λu H3=>r x l u H3 Q
theorem Za7{r:V->Option Int->Option Int->Hp->VK->Prop}(hr:SlR X r)(he:PE X e te)(hl:PO X lo tl)(hu:PO X hi th):PE X (.Subscript e (.Slice lo hi none p2) pos) (tSl r te tl th):=by
  intro pins s σ H Q I h
  refine Subscript_ (thn (he pins s σ H _ I h) λv s1 ⟨x,H1,I1,r1,q1⟩=>?_)
  refine wpAny_Slice (thn (hl pins s1 σ H1 _ I1 q1) λvl s2 ⟨l,H2,I2,pl,q2⟩=>thn (hu pins s2 σ H2 _ I2 q2) λvu s3 ⟨u,H3,I3,pu,q3⟩=>?_)
  rw[evalPart_none]
  refine wpAny_pure ?_
  have I4:Inv X pins σ H3 { s3 with heap:=s3.heap.push { cls:=.type "slice", data:=.fields #[vl,vu,.none] } }:=I3.kept (t':=s3.toks) λb ob q=>Heap.get?_push_of_some _ q
  obtain ⟨T,id,hT,ht,hg⟩:=hr pins { s3 with heap:=s3.heap.push { cls:=.type "slice", data:=.fields #[vl,vu,.none] } } σ H3 x v vl vu l u s3.heap.objs.size Q I4 r1 (Heap.IsSliceOf.new ..) pl pu q3
  show wpAny (model X.prog X.w) X.A (subscriptTail e (.Slice lo hi none p2) v (.ref s3.heap.objs.size)) (EP X pins σ Q) X.xe { s3 with heap:=s3.heap.push { cls:=.type "slice", data:=.fields #[vl,vu,.none] } }
  exact tail_any (ops:=[.ref s3.heap.objs.size,v]) ht hT hg (by with_unfolding_all rfl)
def ZeK(xs:List V)(lo hi:Option Int):List V:=(xs.drop (HT.sIx xs.length 0 lo)).take (HT.sIx xs.length xs.length hi-HT.sIx xs.length 0 lo)
theorem ZgR(xs:List V)(lo hi:Option Int):(ZeK xs lo hi).length<=xs.length:=by
  unfold ZeK
  rw[Q8,W0]
  omega
end
end L2
namespace L2
open PySem PySem.Spec PyProof.Rows
def ixN(n:Nat)(i:Int):Option Nat:=if 0<=i then (if i<n then some i.toNat else none) else if -(n:Int)<=i then some (i+n).toNat else none
def atI{α:Type}(xs:List α)(i:Int):Option α:=(ixN xs.length i).bind λj=>xs[j]?
theorem Zjd{n:Nat}{i:Int}{j:Nat}(h:ixN n i=some j):seqIndex? i n=some j/\j<n /\ -(n:Int)<=i/\i<n:=by
  unfold ixN at h
  by_cases h0:0<=i
  · rw[if_pos h0] at h
    by_cases h1:i<n
    · rw[if_pos h1] at h
      have e:i.toNat=j:=Option.some.inj h
      exact ⟨by rw[seqIndex_of h0 h1,e],by omega,by omega,h1⟩
    · rw[if_neg h1] at h; cases h
  · rw[if_neg h0] at h
    by_cases h1:-(n:Int)<=i
    · rw[if_pos h1] at h
      have e:(i+n).toNat=j:=Option.some.inj h
      exact ⟨by rw[seqIndex_neg (by omega) h1,e],by omega,h1,by omega⟩
    · rw[if_neg h1] at h; cases h
theorem Zje{α:Type}{xs:List α}{i:Int}{v:α}(h:atI xs i=some v):∃j,seqIndex? i xs.length=some j/\xs[j]?=some v/\j<xs.length /\ -(xs.length:Int)<=i/\i<xs.length:=by
  unfold atI at h
  cases e:ixN xs.length i with
  | none=>rw[e] at h; cases h
  | some j =>
    rw[e] at h
    obtain ⟨h1,h2,h3,h4⟩:=Zjd e
    exact ⟨j,h1,h,h2,h3,h4⟩
theorem ZaF{α:Type}{xs:List α}{j:Nat}{v:α}(h:xs[j]?=some v):atI xs (j:Int)=some v:=by
  have hj:j<xs.length:=(Qi.mp h).1
  have e:ixN xs.length (j:Int)=some j:=by
    unfold ixN
    rw[if_pos (by omega),if_pos (by omega)]; simp
  unfold atI; rw[e]; exact h
def Zl1(b:Expr):Prop:=∀o i,subscripted b false o i=operate [o,i] (getItem o i)
def IxR(X:Cx)(r:R2):Prop :=
  ∀(value slice:Expr) (pins:List (Addr×Obj)) (s:Shared) (σ:St) (H:Hp) (x y:V) (v u:Value) (Q:VK),Inv X pins σ H s->RelV x v->RelV y u->r x y H Q →
    subscripted slice false v u=operate [v,u] (getItem v u)->wpAny (model X.prog X.w) X.A (subscriptTail value slice v u) (EP X pins σ Q) X.xe s
def MtR(X:Cx)(id:String)(r:V->List V->Hp->VK->Prop):Prop :=
  ∀(pins:List (Addr×Obj)) (s:Shared) (σ:St) (H:Hp) (x:V) (xs:List V) (v:Value) (us:List Value) (Q:VK),Inv X pins σ H s->RelV x v->Vals xs us->r x xs H Q →
    wpAny (model X.prog X.w) X.A (call (.builtin id) (v::us)) (EP X pins σ Q) X.xe s
section
variable{X:Cx}{a b:Expr}{ta tb:TE}{pos:Pos}
theorem IxR.or{r r':R2}(h:IxR X r)(h':IxR X r'):IxR X (λx y H Q=>r x y H Q\/r' x y H Q):=by
  intro value slice pins s σ H x y v u Q I rx ry q hs
  rcases q with q | q
  · exact h value slice pins s σ H x y v u Q I rx ry q hs
  · exact h' value slice pins s σ H x y v u Q I rx ry q hs
theorem MtR.or{id:String}{r r':V->List V->Hp->VK->Prop}(h:MtR X id r)(h':MtR X id r'):MtR X id (λx xs H Q=>r x xs H Q\/r' x xs H Q):=by
  intro pins s σ H x xs v us Q I rx rs q
  rcases q with q | q
  · exact h pins s σ H x xs v us Q I rx rs q
  · exact h' pins s σ H x xs v us Q I rx rs q
theorem Zao{r:R2}(hr:IxR X r)(ha:PE X a ta)(hb:PE X b tb)(hs:Zl1 b):PE X (.Subscript a b pos) (tOp r ta tb):=by
  intro pins s σ H Q I h
  exact Subscript_ (Zou ha hb I h λv u s2 x y H2 I2 rx ry q=>hr a b pins s2 σ H2 x y v u Q I2 rx ry q (hs _ _))
def Zpa(K:PySem.W.Frag):R2:=λx y H Q=>∃p xs i v,x = .ref p/\y = .int i/\SqL K H p xs/\atI xs i=some v/\Q v H
def Zpb(K:PySem.W.Frag):R2:=λx y H Q=>∃p xs i v,x = .ref p/\y = .int i/\SqT K H p xs/\atI xs i=some v/\Q v H
theorem Zav:IxR X (Zpa X.K):=by
  intro value slice pins s σ H x y v u Q I rx ry h hs
  obtain ⟨p,xs,i,z,rfl,rfl,hq,he,q⟩:=h
  cases rx
  obtain ⟨t,rfl⟩:=ry
  obtain ⟨its,r,pl,hz⟩:=I.list hq
  obtain ⟨j,h1,h2,h3,h4,h5⟩:=Zje he
  obtain ⟨w,ew,rw'⟩:=r.get h2
  have hl:=r.length
  have hn:=ZhD
  have fin:EP X pins σ Q w s:=⟨z,H,I,rw',q⟩
  by_cases h0:0<=i
  · have hj:i.toNat=j:=by
      rw[seqIndex_of h0 h5] at h1
      exact Option.some.inj h1
    exact item_listR pl.isList h0 (by omega) (by rw[hj]; simpa using ew) fin hs
  · have hj:(i+(its.toArray.size:Int)).toNat=j:=by
      rw[seqIndex_neg (by omega) h4] at h1
      rw[Qd,<-hl]
      exact Option.some.inj h1
    exact subscriptTail_builtinR (x:=w) pl.isList.typeIs slot_list_getitem.lookup
      (wpAny_getItem_list_neg (Q:=λr s'=>r=w/\EP X pins σ Q r s') pl.isList (by omega) (by rw[Qd] <;> omega) (by omega) (by rw[hj]; simpa using ew) ⟨rfl,fin⟩) hs
theorem Zat:IxR X (Zpb X.K):=by
  intro value slice pins s σ H x y v u Q I rx ry h hs
  obtain ⟨p,xs,i,z,rfl,rfl,hq,he,q⟩:=h
  cases rx
  obtain ⟨t,rfl⟩:=ry
  obtain ⟨its,r,pl,hz⟩:=I.tuple hq
  obtain ⟨j,h1,h2,h3,h4,h5⟩:=Zje he
  obtain ⟨w,ew,rw'⟩:=r.get h2
  have hl:=r.length
  have hn:=ZhD
  have fin:EP X pins σ Q w s:=⟨z,H,I,rw',q⟩
  exact subscriptTail_builtinR (x:=w) pl.typeIs slot_tuple_getitem.lookup
    (getItem_tuple (j:=j) (Q:=λr s'=>r=w/\EP X pins σ Q r s') pl (by omega) (by omega) (by rw[Qd,<-hl]; exact h1) (by simpa using ew) ⟨rfl,fin⟩) hs
theorem Ziu(its:List Value)(n j:Nat)(u:Value):Obj.mapSeq (·.setIfInBounds j u) { cls:=.type "list", data:=.seq its.toArray n }={ cls:=.type "list", data:=.seq (its.set j u).toArray n }:=by
  simp[Obj.mapSeq]
theorem Inv.lst{pins:List (Addr×Obj)}{σ:St}{H:Hp}{s:Shared}{p:Addr}{xs:List V}(I:Inv X pins σ H s)(h:H p=some (.lst xs)) :
    ∃(its:List Value) (n:Nat),Vals xs its/\s.heap.get? p=some { cls:=.type "list", data:=.seq its.toArray n }/\xs.length<=sizeLine:=by
  obtain ⟨z,its,n,r,e⟩:=I.hok p _ h
  exact ⟨its,n,r,e,z⟩
theorem Inv.lstUpd{pins:List (Addr×Obj)}{σ:St}{H:Hp}{s:Shared}{p:Addr}{xs ys:List V}{its its':List Value}{n n':Nat}{f:Obj->Obj}(I:Inv X pins σ H s)(h:H p=some (.lst xs))
    (ho:s.heap.get? p=some { cls:=.type "list", data:=.seq its.toArray n }) (hf:f { cls:=.type "list", data:=.seq its.toArray n }={ cls:=.type "list", data:=.seq its'.toArray n' }) (r:Vals ys its') (hz:ys.length<=sizeLine) (t:Nat) :
    Inv X pins σ (upd H p (.lst ys)) { s with heap:=s.heap.update p f,toks:=t }:=by
  have e:(s.heap.update p f).get? p=some { cls:=.type "list", data:=.seq its'.toArray n' }:=by
    rw[Heap.get?_update_self f ho (by rw[hf] <;> rfl),hf]
  refine I.write (x:=p) (e:=p) (by rw[h]; trivial) (.inl rfl) (λb u hb q=>(Heap.get?_update_other _ _ (Ne.symm hb)).trans q) ⟨_,e⟩ ?_
  exact ⟨hz,its',n',r,e⟩
def Zoy:V->V->V->Hp->(Hp->Prop)->Prop:=λo i v H Q=>∃p xs k j,o = .ref p/\i = .int k/\H p=some (.lst xs)/\ixN xs.length k=some j/\Q (upd H p (.lst (xs.set j v)))
theorem Za8:Zo6 X Zoy:=by
  intro pins s σ H o i v ov iv u Q I ro ri rv h
  obtain ⟨p,xs,k,j,rfl,rfl,hp,hj,q⟩:=h
  cases ro
  obtain ⟨t,rfl⟩:=ri
  obtain ⟨its,n,r,ho,hz⟩:=I.lst hp
  obtain ⟨h1,h2,h3,h4⟩:=Zjd hj
  have hl:=r.length
  have hn:=ZhD
  have I':Inv X pins σ (upd H p (.lst (xs.set j v))) { s with heap:=s.heap.update p (Obj.mapSeq (·.setIfInBounds j u)) } :=
    I.lstUpd hp ho (Ziu its n j u) (r.set rv j) (by rw[Wc]; exact hz) s.toks
  by_cases h0:0<=k
  · have hk:k.toNat=j:=by
      rw[seqIndex_of h0 h4] at h1
      exact Option.some.inj h1
    exact PySem.W.ki_setAt ho h0 (by omega) (by rw[Qd,<-hl]; exact h4) (by rw[hk]; exact ⟨_,I',q⟩)
  · have hk:(k+(its.toArray.size:Int)).toNat=j:=by
      rw[seqIndex_neg (by omega) h3] at h1
      rw[Qd,<-hl]
      exact Option.some.inj h1
    exact PySem.W.ki_setBack ho (by omega) (by rw[Qd,<-hl]; exact h3) (by omega) (by rw[hk]; exact ⟨_,I',q⟩)
theorem Zgb(lo hi:Option Int)(n:Nat):(sliceBounds lo hi none n).1=((HT.sIx n 0 lo:Nat):Int)/\(sliceBounds lo hi none n).2.1=((HT.sIx n n hi:Nat):Int)/\(sliceBounds lo hi none n).2.2=1:=by
  refine ⟨?_,?_,rfl⟩
  · cases lo with
    | none=>simp[sliceBounds,HT.sIx]
    | some i =>
      simp only[sliceBounds,HT.sIx,Option.getD_none,show (1:Int)>0 by decide,if_true]
      by_cases h:i<0
      · simp only[h,if_true] <;> omega
      · simp only[h,if_false] <;> omega
  · cases hi with
    | none=>simp[sliceBounds,HT.sIx]
    | some i =>
      simp only[sliceBounds,HT.sIx,Option.getD_none,show (1:Int)>0 by decide,if_true]
      by_cases h:i<0
      · simp only[h,if_true] <;> omega
      · simp only[h,if_false] <;> omega
theorem Zfk(its:List Value)(lo hi:Option Int):slicePick its.toArray lo hi none=((its.drop (HT.sIx its.length 0 lo)).take (HT.sIx its.length its.length hi-HT.sIx its.length 0 lo)).toArray:=by
  obtain ⟨h1,h2,h3⟩:=Zgb lo hi its.toArray.size
  unfold slicePick
  rw[h1,h2,h3]
  simp only[sliceRange_one,pick_run,Qd] <;> rfl
def Zpc(K:PySem.W.Frag):V->Option Int->Option Int->Hp->VK->Prop:=λx lo hi H Q=>∃a xs,x = .ref a/\SqL K H a xs/\∀p,H p=none->Q (.ref p) (upd H p (.lst (ZeK xs lo hi)))
theorem ZbQ:SlR X (Zpc X.K):=by
  intro pins s σ H x v vl vu lo hi sl Q I rx hs pl pu h
  obtain ⟨a,xs,rfl,hx,q⟩:=h
  cases rx
  obtain ⟨its,r,ht,hz⟩:=I.list hx
  have hlen:=r.length
  refine ⟨"list", _,slot_list_getitem.lookup,ht.isList.typeIs,?_⟩
  refine wpAny_getItem_list_slice ht.isList hs pl pu .none (by simp) ?_ (by rw[Qd] <;> omega)
  rw[Zfk,<-hlen]
  refine ⟨.ref s.heap.objs.size,_,I.laid (t':=s.toks) (o:=.lst (ZeK xs lo hi)) (λb ob q=>Heap.get?_push_of_some _ q) (Q2 _) ?_,rfl,q _ (I.hok.fresh (Q2 _))⟩
  exact ⟨Q0 (ZgR xs lo hi) hz,_,0,(r.drop (HT.sIx xs.length 0 lo)).take (HT.sIx xs.length xs.length hi-HT.sIx xs.length 0 lo),Heap.get?_push_size _ rfl⟩
theorem Zam:CallR X (.builtin "len") (λxs H Q=>∃p ys,xs=[.ref p]/\(SqL X.K H p ys\/SqT X.K H p ys)/\Q (.int ys.length) H):=by
  intro pins s σ H xs us Q I r h
  obtain ⟨p,ys,rfl,hq,q⟩:=h
  obtain ⟨u,rfl,rx⟩:=Zip r
  cases rx
  have hn:=ZhD
  rcases hq with hq | hq
  · obtain ⟨its,r',pl,hz⟩:=I.list hq
    have hlen:=r'.length
    exact Calls.call_len_list pl.isList (by simp only[Qd] <;> omega) ⟨.int ys.length,H,I.tok _,⟨s.toks+1,by rw[Qd,hlen]⟩,q⟩
  · obtain ⟨its,r',pl,hz⟩:=I.tuple hq
    have hlen:=r'.length
    exact len_tuple pl (by simp only[Qd] <;> omega) ⟨.int ys.length,H,I.tok _,⟨s.toks+1,by rw[Qd,hlen]⟩,q⟩
theorem CallR.or{f:Value}{r r':List V->Hp->VK->Prop}(h:CallR X f r)(h':CallR X f r'):CallR X f (λxs H Q=>r xs H Q\/r' xs H Q):=by
  intro pins s σ H xs us Q I rs q
  rcases q with q | q
  · exact h pins s σ H xs us Q I rs q
  · exact h' pins s σ H xs us Q I rs q
theorem Zgc:CallR X (.type "list") (λxs H Q=>∃p ys,xs=[.ref p]/\(SqL X.K H p ys\/SqT X.K H p ys)/\∀l,H l=none->Q (.ref l) (upd H l (.lst ys))):=by
  intro pins s σ H xs us Q I r h
  obtain ⟨p,ys,rfl,hq,q⟩:=h
  obtain ⟨u,rfl,rx⟩:=Zip r
  cases rx
  have fin:∀(its:List Value),Vals ys its->ys.length<=sizeLine->∀(h':Heap) (c':Nat),(∀b o',s.heap.get? b=some o'->h'.get? b=some o') →
      h'.get? s.heap.objs.size=some { cls:=.type "list", dict:=none,data:=.seq its.toArray c',slots:=#[] }->EP X pins σ Q (.ref s.heap.objs.size) { s with heap:=h' }:=λits r' hz h' c' kp e =>
    ⟨.ref s.heap.objs.size,_,I.laid (t':=s.toks) kp (Q2 _) (show ObjOk X.prog X.w _ h' _ (.lst ys) from ⟨hz,its,c',r',e⟩),rfl,q _ (I.hok.fresh (Q2 _))⟩
  rcases hq with hq | hq
  · obtain ⟨its,r',pl,hz⟩:=I.list hq
    have hlen:=r'.length
    obtain ⟨o,ho,hc,n,hd⟩:=pl.isList
    exact call_list_seq p (.inl rfl) ho hc hd (λh' c' kp e=>fin its r' hz h' c' kp e) (by simp only[Qd] <;> omega)
  · obtain ⟨its,r',pl,hz⟩:=I.tuple hq
    have hlen:=r'.length
    obtain ⟨o,ho,hc,n,hd⟩:=pl
    exact call_list_seq p (.inr rfl) ho hc hd (λh' c' kp e=>fin its r' hz h' c' kp e) (by simp only[Qd] <;> omega)
def tyV(K:PySem.W.Frag)(T:String)(x:V)(H:Hp):Prop:=match x with
  | .str _=>T = "str"
  | .int _=>T = "int"
  | .ref p=>(T = "list" /\ ∃xs,SqL K H p xs)\/(T = "tuple" /\ ∃o,K.lookup p=some o/\o.cls = .type "tuple" /\ o.dict=none) ∨
      (T = "dict" /\ ((∃kvs,H p=some (.dK kvs))\/∃kvs,H p=some (.dT kvs)))\/(T = "set" /\ ∃S n,H p=some (.set S n))
  | _=>False
theorem Znr{pins:List (Addr×Obj)}{σ:St}{H:Hp}{s:Shared}{T:String}{x:V}{v:Value}(I:Inv X pins σ H s)(r:RelV x v)(ty:tyV X.K T x H) :
    s.TypeIs v T/\∀a,v = .ref a->∃ob,s.heap.get? a=some ob/\ob.dict=none:=by
  cases x with
  | str z =>
    obtain ⟨t,rfl⟩:=r
    cases (show T = "str" from ty)
    exact ⟨typeIs_str s z t,λ_ e=>nomatch e⟩
  | int i =>
    obtain ⟨t,rfl⟩:=r
    cases (show T = "int" from ty)
    exact ⟨typeIs_int s i t,λ_ e=>nomatch e⟩
  | ref p =>
    cases r
    rcases ty with ⟨rfl,xs,hq⟩ | ⟨rfl,o,hk,hc,hd⟩ | ⟨rfl,hk⟩ | ⟨rfl,S,n,hk⟩
    · obtain ⟨its,_,pl,_⟩:=I.list hq
      refine ⟨pl.isList.typeIs,λa e=>?_⟩
      cases e
      obtain ⟨o,n,e,c,hd,_⟩:=pl
      exact ⟨o,e,hd⟩
    · refine ⟨⟨o,I.kIn p o hk,hc⟩,λa e=>?_⟩
      cases e
      exact ⟨o,I.kIn _ o hk,hd⟩
    · have z:∃o,s.heap.get? p=some o/\o.ExactDict:=by
        rcases hk with ⟨kvs,hk⟩ | ⟨kvs,hk⟩
        · obtain ⟨_,_,_,_,o,_,_,e,ex,_⟩:=I.hok p _ hk
          exact ⟨o,e,ex⟩
        · obtain ⟨_,_,_,_,o,_,_,e,ex,_⟩:=I.hok p _ hk
          exact ⟨o,e,ex⟩
      obtain ⟨o,e,ex⟩:=z
      refine ⟨⟨o,e,ex.1⟩,λa e2=>?_⟩
      cases e2
      exact ⟨o,e,ex.2.1⟩
    · obtain ⟨o,_,_,_,e,ex,_⟩:=I.hok p _ hk
      refine ⟨⟨o,e,ex.1⟩,λa e2=>?_⟩
      cases e2
      exact ⟨o,e,ex.2.1⟩
  | _=>exact False.elim ty
def tBM(K:PySem.W.Frag)(T:String)(r:V->List V->Hp->VK->Prop)(to:TE)(t:TA):TE:=λσ H Q=>to σ H λx H1=>tyV K T x H1/\t σ H1 λxs H2=>r x xs H2 Q
variable{o e:Expr}{es:List Expr}{to:TE}{t:TA}{name:Str}{apos cpos:Pos}{T id:String}{r:V->List V->Hp->VK->Prop}
theorem Zd9(pa:PlainAttrs T)(slot:Slot T name id)(hty:typeOf (.builtin id)=pure (.type "method_descriptor")) (hm:MtR X id r) (ho:PE X o to) (ha:PA X (e::es) t)
    (hbase:attributeBase o name X.env (eval o X.env)=eval o X.env:=by rfl)
    (hfew:((backTo cpos (starEach (e::es) X.env)).all (λx=>!x.1)&&(backToKw cpos (keywordEach [] X.env)).all (λx=>x.1.isSome)
      && decide ((e::es).length+([]:List Keyword).length+(if ([]:List Keyword).isEmpty then 0 else 1)<30))=true:=by rfl)
    (hline:(apos.endLine==cpos.line)=true:=by rfl) (hs:starEach (e::es) X.env=(false,eval e X.env)::starEach es X.env:=by rfl) (hplain:(backTo cpos (starEach es X.env)).any (·.1)=false:=by rfl) :
    PE X (.Call (.Attribute o name apos) (e::es) [] cpos) (tBM X.K T r to t):=by
  intro pins s σ H Q I h
  refine wpAny_Call_method_late hbase hfew hline rfl (thn (ho pins s σ H _ I h) λv s1 ⟨x,H1,I1,r1,ty,q1⟩=>?_)
  obtain ⟨h1,h2⟩:=Znr I1 r1 ty
  refine ⟨T,id,pa,slot,hty,h1,h2,?_⟩
  have hA:=ha cpos pins s1 σ H1 _ I1 q1
  rw[hs] at hA ⊢
  refine Calls.callWith_builtin (by show (false||(backTo cpos (starEach es X.env)).any (·.1))=false; rw[hplain] <;> rfl) (Calls.evalArgs_plain ?_)
  exact thn hA λus s2 ⟨vs,H2,I2,r2,q2⟩=>hm pins s2 σ H2 x vs v us Q I2 r1 r2 q2
/- xs.append(e),list.index on a module's tuple .. are MtR facts of 06m -/
end
end L2
namespace L2
open PySem PySem.Spec PyProof.Rows
def MtM(X:Cx)(id:String)(r:V->List V->Hp->VK->Prop):Prop :=
  ∀(pins:List (Addr×Obj)) (s:Shared) (σ:St) (H:Hp) (x:V) (xs:List V) (v:Value) (us:List Value) (Q:VK),Inv X pins σ H s->RelV x v->Vals xs us->r x xs H Q →
    wpAny (model X.prog X.w) X.A (call (.builtin id) (v::us)) (EP X pins σ Q) X.xe s
theorem Vals.one:∀ {x:V} {us:List Value},Vals [x] us->∃u,us=[u]/\RelV x u
  | _,_,.cons r .nil=>⟨_,rfl,r⟩
theorem Vals.two:∀ {x y:V} {us:List Value},Vals [x,y] us->∃u v,us=[u,v]/\RelV x u/\RelV y v
  | _,_,_,.cons r (.cons q .nil)=>⟨_,_,rfl,r,q⟩
theorem Vals.zero:∀ {us:List Value},Vals [] us->us=[]
  | _,.nil=>rfl
theorem Vals.dropLast{xs:List V}{us:List Value}(h:Vals xs us):Vals xs.dropLast us.dropLast:=by
  induction h with
  | nil=>exact .nil
  | cons r t ih =>
    cases t with
    | nil=>exact .nil
    | cons q t'=>exact .cons r ih
theorem Vals.reverse{xs:List V}{us:List Value}(h:Vals xs us):Vals xs.reverse us.reverse:=by
  induction h with
  | nil=>exact .nil
  | cons r t ih=>rw[List.reverse_cons,List.reverse_cons]; exact Vals.append ih (.cons r .nil)
section
variable{X:Cx}{pins:List (Addr×Obj)}{σ:St}{H:Hp}{s:Shared}{l b:Addr}{xs ys zs:List V}
theorem Inv.lset{its its':List Value}{n:Nat}{f:Array Value->Array Value}{t':Nat}(I:Inv X pins σ H s)(hH:H l=some (.lst xs))
    (e:s.heap.get? l=some { cls:=.type "list", data:=.seq its.toArray n }) (hf:f its.toArray=its'.toArray) (hv:Vals ys its') (hz:ys.length<=sizeLine) :
    Inv X pins σ (upd H l (.lst ys)) { s with heap:=s.heap.update l (Obj.mapSeq f),toks:=t' }:=by
  have q:=PySem.IsL.update e f
  rw[hf] at q
  refine I.write (x:=l) (e:=l) (by rw[hH]; exact trivial) (.inl rfl) (λb' u hb hu=>(Heap.get?_update_other s.heap (Obj.mapSeq f) (Ne.symm hb)).trans hu) ⟨_,q⟩ ?_
  exact ⟨hz,its',_,hv,q⟩
theorem Inv.lnew{its:List Value}{t':Nat}(I:Inv X pins σ H s)(hv:Vals ys its)(hz:ys.length<=sizeLine) :
    Inv X pins σ (upd H s.heap.objs.size (.lst ys)) { s with heap:=s.heap.push { cls:=.type "list", data:=.seq its.toArray },toks:=t' } :=
  I.laid (λ_ _ q=>Heap.get?_push_of_some _ q) (Q2 _) ⟨hz,its,0,hv,Heap.get?_push_size _ rfl⟩
theorem Inv.fresh(I:Inv X pins σ H s):H s.heap.objs.size=none:=I.hok.fresh (Q2 _)
theorem Inv.lstM(I:Inv X pins σ H s)(hH:H l=some (.lst xs)):xs.length<=sizeLine/\∃(its:List Value) (n:Nat),Vals xs its/\xs.length=its.length/\s.heap.get? l=some { cls:=.type "list", data:=.seq its.toArray n }:=by
  obtain ⟨z,its,n,r,e⟩:=I.hok l _ hH
  exact ⟨z,its,n,r,r.length,e⟩
theorem Zky{n:Nat}(h:n<=sizeLine):Builtin.List.listTooLong n=false:=by
  unfold Builtin.List.listTooLong
  exact decide_eq_false (by omega)
end
section
variable{X:Cx}
def Zl2:V->List V->Hp->VK->Prop:=λx vs H Q=>∃l xs y,x = .ref l/\vs=[y]/\H l=some (.lst xs)/\xs.length<sizeLine/\Q .non (upd H l (.lst (xs++[y])))
theorem Za5:MtM X "list.append" Zl2:=by
  intro pins s σ H x vs v us Q I rx rv h
  obtain ⟨l,xs,y,rfl,rfl,hH,hz,q⟩:=h
  cases rx
  obtain ⟨u,rfl,ru⟩:=rv.one
  obtain ⟨z,its,n,r,hl,e⟩:=I.lstM hH
  refine call_meets F.slot_list_append ⟨_,e,rfl⟩ F.entry_list_append (F.args_list_append_2 _ _) (PySem.list_append l its.toArray n u (by rw[Qd]; omega)) ⟨e,?_⟩
  refine ⟨.non,_,I.lset (its':=its++[u]) hH e (by simp) (r.append (.cons ru .nil)) ?_,rfl,q⟩
  rw[Q7,List.length_singleton]
  omega
def Zl3:V->List V->Hp->VK->Prop:=λx vs H Q=>∃l b xs zs,x = .ref l/\vs=[.ref b]/\H l=some (.lst xs)/\H b=some (.lst zs)/\xs.length+zs.length<=sizeLine/\Q .non (upd H l (.lst (xs++zs)))
theorem Zjf:MtM X "list.extend" Zl3:=by
  intro pins s σ H x vs v us Q I rx rv h
  obtain ⟨l,b,xs,zs,rfl,rfl,hH,hB,hz,q⟩:=h
  cases rx
  obtain ⟨u,rfl,ru⟩:=rv.one
  cases ru
  obtain ⟨z,its,n,r,hl,e⟩:=I.lstM hH
  obtain ⟨z2,its2,n2,r2,hl2,e2⟩:=I.lstM hB
  have hsz:its.toArray.size+its2.toArray.size<=sizeLine:=by rw[Qd,Qd]; omega
  have hlong:¬(!its.toArray.isEmpty&&Builtin.List.listTooLong (its.toArray.size+its2.toArray.size))=true:=by
    rw[Zky hsz,Bool.and_false]
    exact Qr
  refine call_meets F.slot_list_extend ⟨_,e,rfl⟩ F.entry_list_extend (F.args_list_extend_2 _ _)
    (AutoSeq1.list_extend_list_list_0 l its.toArray n b its2.toArray n2 hlong (by rw[Qd]; omega) (by omega)) ⟨e,e2,?_⟩
  refine ⟨.non,_,I.lset (its':=its++its2) hH e (by simp) (r.append r2) ?_,rfl,q⟩
  rw[Q7]
  omega
def ZpE:R2:=λx y H Q=>∃l b xs zs,x = .ref l/\y = .ref b/\H l=some (.lst xs)/\H b=some (.lst zs)/\xs.length+zs.length<=sizeLine/\∀p,H p=none->Q (.ref p) (upd H p (.lst (xs++zs)))
theorem Zjg:OpR X (binaryOp .Add) ZpE:=by
  intro pins s σ H x y v u Q I rx ry h
  obtain ⟨l,b,xs,zs,rfl,rfl,hH,hB,hz,q⟩:=h
  cases rx
  cases ry
  obtain ⟨z,its,n,r,hl,e⟩:=I.lstM hH
  obtain ⟨z2,its2,n2,r2,hl2,e2⟩:=I.lstM hB
  refine PySem.P.add_list e e2 ?_ (by rw[Qd,Qd]; omega)
  have ea:its.toArray++its2.toArray=(its++its2).toArray:=by simp
  rw[ea]
  exact ⟨.ref _,_,I.lnew (t':=s.toks) (r.append r2) (by rw[Q7]; omega),rfl,q _ I.fresh⟩
end
section
variable{prog:Program}{w:World}{A:Around}{E:Value->Shared->Prop}{s:Shared}
end
section
variable{X:Cx}
end
end L2
namespace Att
open PySem PySem.W PySem.Calls PyProof.Rows
theorem Zea{P:Params}{h:Heap}:∀(ns:List Int) (vs:List Value),WellAll P h vs (ns.map WData.int)->IntsAre vs ns:=by
  intro ns
  induction ns with
  | nil =>
    intro vs w
    rw[List.map_nil] at w
    cases w
    exact .nil
  | cons n ns ih =>
    intro vs w
    rw[U4] at w
    cases w with
    | cons a b =>
      cases a
      exact .cons _ _ (ih _ b)
theorem script_of{l:OpenLaw}{n:Nat}(hn:l.most=some n){P:Params}{h:Heap}{args:List WData}{vals:List Value}
    (hpre:l.row.toRowW.claim.pre args=true) (hwl:WellAll P h vals args) :
    ∃a vs ns,vals=[Value.ref a]/\args=[WData.list (ns.map WData.int)]/\h.get? a=some { cls:=.type "list", data:=.seq vs.toArray }/\IntsAre vs ns/\ns.length<=n:=by
  have hsh:WShape.hasAll [] args [.list .int]=true:=(pre_splitW hpre).1
  have hc:l.pre.holds [] { args:=args }=true:=(pre_splitW hpre).2
  obtain ⟨d,r,rfl,h1,h2⟩:=hasAllW_cons hsh
  obtain rfl:=hasAllW_nil h2
  obtain ⟨xs,rfl,h3⟩:=hasW_list h1
  obtain ⟨ns,rfl⟩:=items_int h3
  have hlen:ns.length<=n:=by
    unfold OpenLaw.pre at hc
    have h4:(WTm.not (.lt (.lit (.int (n:Int))) (.len (.arg 0)))).holds [] { args:=[.list (ns.map .int)] }=true:=by
      have h4:=(holds_andW hc).1
      rw[hn] at h4
      exact h4
    have h5:=condW_of h4 (w_not (w_lt w_lit (w_len_list (w_arg rfl))))
    rw[Q1] at h5
    refine Nat.le_of_not_lt λq=>?_
    have q':(n:Int)<((ns.length:Nat):Int):=by omega
    first
      | (rw[decide_eq_true q'] at h5; exact absurd h5 (by decide))
      | (simp at h5; omega)
  cases hwl with
  | cons w1 w2 =>
    cases w2
    cases w1 with
    | list ho hall=>exact ⟨_,_,ns,rfl,rfl,ho,Zea ns _ hall,hlen⟩
theorem post_true(l:OpenLaw)(args:List WData):l.row.toRowW.claim.post args (.bool true) args=true :=
  postW_of (r:=l.row.toRowW) (X:=(true==true))
    (show WShape.has [] (.bool true) .bool=true by first | rfl | decide | simp[WShape.has,WShape.arms,WShape.armsAll])
    (show (WTm.eq .res (.lit (.bool true))).value [] { args:=args,res:=some (.bool true),after:=args }=some (.bool (true==true)) from w_eq_bool (w_res rfl) w_lit) rfl
theorem attach_call{l:OpenLaw}{n:Nat}{q:Program}{loose:List Str}{XP:(Str->Option Value)->Heap->Prop}{YP:World->Heap->Prop}{d:DefRec}
    (hn:l.most=some n) (hdf:d.params.defaults=[])
    (call:∀(w:World) (s₀ s₁:Shared) (mg mb:Str->Option Value) (fa:Addr) (o:Obj) (pm cd doc:Value) (a:Addr) (vs:List Value) (ns:List Int),
      Ground q loose [] XP w s₀ mg mb s₁.heap->YP w s₁.heap →
      s₁.heap.get? fa=some o->o.data = .func (docDef d.name d.params d.body d.scope pm cd doc)->s₁.heap.CodeRec cd d.name->mg d.name=some (.ref fa) →
      s₁.heap.get? a=some { cls:=.type "list", data:=.seq vs.toArray }->IntsAre vs ns->ns.length<=n->s₁.gens=#[] →
      codeAny (model l.prog w) callerA (.call (.ref fa) ⟨[.ref a],[]⟩) (λr s'=>r = .ok (.ret (.bool true))/\OldK s₁.heap s'.heap/\s'.os=s₁.os/\AllBare s'.gens) s₁) :
    WalkO q loose XP YP l.row.toRowW d [] (λf vs=>PySem.call f vs):=by
  intro w s₀ s₁ mg mb G Y fa o pm cd doc dV kV ho hd hcd hD hmg hg args vals as hpre hlay hrd hwl hlo
  obtain rfl:dV = .none:=Dflts.none hD hdf
  obtain rfl:kV = .none:=Dflts.noKw hD
  obtain ⟨a,vs,ns,rfl,rfl,hobj,hints,hlen⟩:=script_of hn hpre hwl
  refine enter_call (codeAny_mono (call w s₀ s₁ mg mb fa o pm cd doc a vs ns G Y ho (fd_plain hd) hcd hmg hobj hints hlen hg) λr s' hq=>?_)
  obtain ⟨rfl,h2,h3,h4⟩:=hq
  exact ⟨.inl ⟨.bool true,.bool true,[],rfl,λ_=>rfl,.bool true,post_true l _,λ_=>⟨List.Pairwise.nil,λ_ hm=>(nomatch hm)⟩⟩,h2,h3,h4⟩
section
variable{prog:Program}{w:World}{A:Around}{E:Value->Shared->Prop}{s:Shared}{K:Frag}
def Zpd(h:Heap)(L d:Addr):List (Addr×Obj):=(List.range h.objs.size).filterMap λa=>if a=L\/a=d then none else (h.get? a).map λo=>(a,o)
end
end Att
namespace L2
open PySem PySem.Spec PyProof.Rows
theorem Zgd:∀ {vs:List Value} {ns:List Int},IntsAre vs ns->Vals (ns.map V.int) vs
  | _,_,.nil => .nil
  | _,_,.cons n t h => .cons ⟨t,rfl⟩ (Zgd h)
def Zoj(H:Hp):Prop:=∀b,H b=none\/∃o xs,H b=some (.frz o (.lst xs))
theorem ZhF{P:Program}{w:World}{K:PySem.W.Frag}{mg mb:Str->Option Value}{CX:CXT}{k:Nat}{fa a:Addr}{fd:FuncData}{x:Str}{sp:Sp}{s₁:Shared}{vs:List Value}{ns:List Int}
    (KX:K.In s₁.heap) (hns:s₁.heap.Ns mainGlobals mg) (hb:s₁.heap.Ns builtinsNs mb) (hbb:∀x:Str,x ≠ "__name__" -> mb x=bootBuiltins x) (hlim:s₁.heap.NoLimit) (hg:s₁.gens=#[])
    (ha:s₁.heap.get? a=some { cls:=.type "list", data:=.seq vs.toArray }) (hi:IntsAre vs ns) (hl:ns.length<=sizeLine) (hr:Room k callerA)
    (F:∀base:Heap,K.In base->base.Ns mainGlobals mg->FnOk P w K mg base CX k fa fd [x] sp) (hbind:∀(s:Shared) (u:Value),BindsTo s fd ⟨[u],[]⟩ [(x,u)])
    (hsp:∀H:Hp,Zoj H->SqL K H a (ns.map V.int)->sp [.ref a] H (λv _=>v = .bl true) λ_ _ _=>False)
    (hCX:∀H e s',CX [] H s₁ (λ_ _ _=>False) e s'->False) :
    codeAny (model P w) callerA (.call (.ref fa) ⟨[.ref a],[]⟩) (λr s'=>r = .ok (.ret (.bool true))/\OldK s₁.heap s'.heap/\s'.os=s₁.os/\AllBare s'.gens) s₁:=by
  have rv:=Zgd hi
  have lenV:=hi.length
  have core:∀H:Hp,Zoj H->SqL K H a (ns.map V.int)->HOk P w H s₁.heap->(∀b,H b≠none->b=a)->(H a≠none->K.lookup a=none) →
      codeAny (model P w) callerA (.call (.ref fa) ⟨[.ref a],[]⟩) (λr s'=>r = .ok (.ret (.bool true))/\OldK s₁.heap s'.heap/\s'.os=s₁.os/\AllBare s'.gens) s₁:=by
    intro H hO hS hok hA hK
    have base_of:∀ {b:Addr} {o:Obj},s₁.heap.get? b=some o->H b=none->(Zkp s₁.heap H).get? b=some o:=λe n=>Zkq e n
    have noA:∀ {b:Addr} {o:Obj} {es:Array DictEntry} {ep:Nat},s₁.heap.get? b=some o->o.data = .dict es ep->H b=none:=fun {b o es ep} e d=>by
      cases q:H b with
      | none=>rfl
      | some u =>
        have e':b=a:=hA b (by rw[q]; simp)
        subst e'
        rw[ha] at e; cases e
        have d':Data.seq vs.toArray _=Data.dict es ep:=d
        cases d'
    have nsK:∀ {b:Addr} {m:Str->Option Value},s₁.heap.Ns b m->(Zkp s₁.heap H).Ns b m:=fun {b m} ⟨o,es,ep,e,d,r⟩=>⟨o,es,ep,base_of e (noA e d),d,r⟩
    have hKb:K.In (Zkp s₁.heap H):=λb o e=>base_of (KX b o e) (by
      cases q:H b with
      | none=>rfl
      | some u =>
        have e':b=a:=hA b (by rw[q]; simp)
        subst e'
        rw[hK (by rw[q]; simp)] at e; cases e)
    have hM:Mod K mg (Zkp s₁.heap H):=⟨hKb,nsK hns,⟨mb,nsK hb,hbb⟩,let ⟨mc,h1,h2⟩:=hlim; ⟨mc,nsK h1,h2⟩⟩
    have e0:Env0 P w K mg (Zkp s₁.heap H) callerA [] s₁ H:=⟨rfl,hM,λb o e=>ZlN e,Nat.le_of_eq (ZiW _ _),trivial,λb hb=>absurd (show b∈([]:List Addr) from hb) (by simp),hok,.of_eq hg⟩
    refine codeAny_mono ((F _ hKb (nsK hns)).run callerA [] s₁ H ⟨[.ref a],[]⟩ [.ref a] [.ref a] _ _ hr e0 (hbind s₁ (.ref a)) (.cons rfl .nil) (hsp H hO hS)) λr s' h=>?_
    cases r with
    | error e=>exact (hCX H e s' h).elim
    | ok fl =>
      cases fl with
      | next=>exact False.elim h
      | brk=>exact False.elim h
      | cont=>exact False.elim h
      | ret u =>
        obtain ⟨v,H',os,bare,un,hok',r',q⟩:=h
        have q':v = .bl true:=q
        subst q'
        obtain rfl:u=Value.bool true:=r'
        refine ⟨rfl,OldK.of_keep λb o e=>?_,os,bare⟩
        cases q:H b with
        | none=>exact un.keep b o e q (by intro z; exact absurd (show b∈([]:List Addr) from z) (by simp)) (by simp)
        | some u =>
          rcases hO b with z | ⟨ob,xs,z⟩
          · rw[q] at z; cases z
          · have z2:=un.frzs b ob _ z
            obtain ⟨e1,_⟩:=hok b _ z
            obtain ⟨e2,_⟩:=hok' b _ z2
            rw[e] at e1; cases e1
            exact e2
  cases hk:K.lookup a with
  | some o =>
    have e:=KX a o hk
    rw[ha] at e
    cases e
    refine core (λ_=>none) (λ_ => .inl rfl) (.inr ⟨_,vs.toArray,_,hk,rfl,rfl,rfl,by rw[Qd,lenV]; exact hl,by simpa using rv⟩) (λb u z=>by have z':(none:Option HO)=some u:=z; cases z') (λb z=>absurd rfl z) λz=>absurd rfl z
  | none =>
    refine core (λb=>if b=a then some (.frz { cls:=.type "list", data:=.seq vs.toArray } (.lst (ns.map V.int))) else none) (λb=>?_) (.inl (.inr ⟨{ cls:=.type "list", data:=.seq vs.toArray },if_pos rfl⟩)) (λb u z=>?_) (λb z=>?_) λ_=>hk
    · by_cases hb:b=a
      · exact .inr ⟨_,_,if_pos hb⟩
      · exact .inl (if_neg hb)
    · by_cases hb:b=a
      · have z':=(if_pos hb).symm.trans z
        cases z'
        subst hb
        exact ⟨ha,by rw[Q1]; exact hl,vs,_,rv,ha⟩
      · have z':=(if_neg hb).symm.trans z
        cases z'
    · by_cases hb:b=a
      · exact hb
      · exact absurd (if_neg hb) z
end L2
namespace L2
open PySem PySem.Spec PyProof.Rows
abbrev KOf{K:PySem.W.Frag}{h:Heap}(_:K.In h):PySem.W.Frag:=K
theorem walk_of{l:PySem.W.OpenLaw}{n k:Nat}{q:Program}{loose:List Str}{XP:(Str->Option Value)->Heap->Prop}{YP:World->Heap->Prop}{d:DefRec}{K:Params->PySem.W.Frag}{CX:World->CXT}{sp:World->Sp}{x:Str}
    (hn:l.most=some n) (hn2:n<=sizeLine) (hdf:d.params.defaults=[]) (hr:Room k callerA)
    (hY:∀(w:World) (h:Heap),YP w h->(K w.params).In h)
    (F:∀(w:World) (mg:Str->Option Value) (fa:Addr) (h:Heap),(K w.params).In h->h.Ns mainGlobals mg->mg d.name=some (.ref fa) →
      ∃fd:FuncData,(∀(s:Shared) (u:Value),BindsTo s fd ⟨[u],[]⟩ [(x,u)]) ∧
        ∀base:Heap,(K w.params).In base->base.Ns mainGlobals mg->FnOk l.prog w (K w.params) mg base (CX w) k fa fd [x] (sp w))
    (hsp:∀(w:World) (H:Hp) (a:Addr) (ns:List Int),ns.length<=n->Zoj H->SqL (K w.params) H a (ns.map V.int)->sp w [.ref a] H (λv _=>v = .bl true) λ_ _ _=>False)
    (hCX:∀(w:World) (H:Hp) (s:Shared) (e:Value) (s':Shared),CX w [] H s (λ_ _ _=>False) e s'->False) :
    PySem.W.WalkO q loose XP YP l.row.toRowW d [] (λf vs=>PySem.call f vs):=by
  refine Att.attach_call hn hdf λw s₀ s₁ mg mb fa o pm cd doc a vs ns G Y ho hd hcd hmg hobj hints hlen hg=>?_
  have KX:=hY w _ Y
  obtain ⟨fd,hb,hF⟩:=F w mg fa _ KX G.T.g hmg
  exact ZhF KX G.T.g G.T.b G.T.builtins G.T.nolimit hg hobj hints (Q0 hlen hn2) hr hF hb (λH hO hS=>hsp w H a ns hlen hO hS) λH e s'=>hCX w H s₁ e s'
end L2
/- THE LAST THEOREM (shape; LID,My.* are yours):
   My.Adr: a structure of the addresses that your layer names (classes,functions); My.Txt K t: a structure (Prop) of the equations over K;
   My.txt_mk:{K} {implicit addresses ..} (e1:nsIn K mainGlobals "law" = some (some (.ref f))) (e2:K.lookup f=some ⟨oc,od,.func (fnOf "law" "law" params body scope dV kV doc pm an cdv ct),sl⟩) (e3:codeIn K cdv "law" = true) ..:∃t,My.Txt K t
set_option maxRecDepth 100000 in
set_option maxHeartbeats 0 in
theorem PySem.Challenge.cw_LID_holds : PySem.Challenge.rw_LID.Holds := by
  w_on; o_law; k_head; (case hw=>w_witness2)
  k_fill
  refine L2.walk_of (l:=PySem.Challenge.rw_LID) (n:=63) (k:=40) (x := "script") (CX:=λw => ..) (sp:=λ_=>My.sp_law) rfl (by decide) rfl ⟨rfl,by decide,by decide⟩ (λw h Y=>PySem.W.kIn_of Y) ?F ?S ?C
  case F =>
    intro w mg fa h KX G hmg
    have T:∃t,My.Txt (L2.KOf KX) t:=by
      dsimp only[L2.KOf]                          -- K must stand as «<heap const> w.params» for k_is
      refine' My.txt_mk ?e1 ?e2 ?e3 ..
      (case e1=>PySem.W.k_is)                    -- in the order: a name -> its address -> its object -> its parts
      (case e2=>PySem.W.k_is)
      ..
    obtain ⟨t,T⟩:=T
    have e0:=hmg.symm.trans (PySem.W.mg_of KX G T.law)
    cases e0                                       -- fa is the law's own address
    exact ⟨_,λs u => .of_eq rfl,λbase kb nb=>My.law_fn T kb nb⟩     -- if «.of_eq rfl» comes too early: refine' ⟨_,?b,λbase kb nb=>My.law_fn T kb nb⟩; exact λs u => .of_eq rfl
  case S=>exact λw H a ns hl hO hS => ..
  case C=>exact ..
(the tactic k_is has no namespace: write k_is) -/
namespace L2
open PySem PySem.Spec PyProof.Rows
def ZbA(s:Stmt)(j:Nat):Stmt:=match s with
  | .ClassDef _ _ _ body _ _ _ _ _ _ _=>body.getD j (.Pass ⟨0,0,0,0⟩)
  | _ => .Pass ⟨0,0,0,0⟩
def ZbR(s:Stmt):Arguments:=match s with
  | .FunctionDef _ a _ _ _ _ _ _ _ _=>a
  | _=>{ posonlyargs:=[],args:=[],vararg:=none,kwonlyargs:=[],kw_defaults:=[],kwarg:=none,defaults:=[] }
def Zbi(s:Stmt):List Stmt:=match s with
  | .FunctionDef _ _ b _ _ _ _ _ _ _=>b
  | _=>[]
def Zah(s:Stmt):Scope:=match s with
  | .FunctionDef _ _ _ _ _ _ sc _ _ _=>sc
  | _=>{ kind:=.function,names:=[],isGenerator:=false,isCoroutine:=false }
abbrev CX0:CXT:=λ_ _ _ _ _ _=>False
abbrev E0:XK:=λ_ _ _=>False
theorem Zl4{X:Cx}:Zf6 CX0 X E0:=λ_ _ _ _ _ _ _ h=>h.elim
structure Fun (K:PySem.W.Frag) (x qual:Str) (st:Stmt) (f:Addr) (fd:FuncData):Prop where
  ex:∃(oc:Value) (od:Option Addr) (kV doc pm:Value) (an:Option Addr) (cdv ct:Value) (osl:Array (Option Value)),
    fd=PySem.W.fnOf x qual (ZbR st) (Zbi st) (Zah st) .none kV doc pm an cdv ct/\K.lookup f=some ⟨oc,od,.func fd,osl⟩/\PySem.W.codeIn K cdv qual=true
  kp:PySem.W.keepIn K (.ref f)=true
section
variable{P:Program}{w:World}{K:PySem.W.Frag}{mg:Str->Option Value}{base:Heap}
theorem Fun.ok{x qual:Str}{st:Stmt}{f:Addr}{fd:FuncData}{N ps:List Str}{k:Nat}{sp:Sp}(F:Fun K x qual st f fd)(S:FnScope N ps (Zah st))(len:∀vs H Q E,sp vs H Q E->vs.length=ps.length)
    (hbody:∀(cdv:Value) (A:Around) (outer:List Env) (s:Shared) (H:Hp) (vs:List V) (Q:VK) (E:XK),Room k (A.deeper (envOfC qual (Zah st) s.heap.objs.size f cdv))->sp vs H Q E →
      ∃t,PSs (Zlg CX0 P w K mg base N qual (Zah st) f cdv A outer s H E).nox (Zbi st) t/\t { nx:=λ_ H'=>Q .non H',rt:=Q } (start N vs) H):FnOk P w K mg base CX0 (k+1) f fd ps sp:=by
  obtain ⟨oc,od,kV,doc,pm,an,cdv,ct,osl,rfl,lk,hcd⟩:=F.ex
  refine Zkx lk hcd S len λA outer s H vs Q E hr hsp=>?_
  obtain ⟨t,h,q⟩:=hbody cdv A outer s H vs Q E hr hsp
  exact ⟨t,h.nox,q⟩
theorem Fun.binds{x qual:Str}{st:Stmt}{f:Addr}{fd:FuncData}{ps:List Str}(F:Fun K x qual st f fd)
    (h:∀(kV doc pm:Value) (an:Option Addr) (cdv ct:Value) (us:List Value),us.length=ps.length->bindArgs (PySem.W.fnOf x qual (ZbR st) (Zbi st) (Zah st) .none kV doc pm an cdv ct) ⟨us,[]⟩=pure (ps.zip us)):Binds K fd ps []:=by
  obtain ⟨oc,od,kV,doc,pm,an,cdv,ct,osl,rfl,lk,hcd⟩:=F.ex
  exact .all (h kV doc pm an cdv ct)
theorem Zjh{x qual:Str}{st:Stmt}{f:Addr}{oc:Value}{od an:Option Addr}{osl:Array (Option Value)}{kV doc pm cdv ct:Value}(l:K.lookup f=some ⟨oc,od,.func (PySem.W.fnOf x qual (ZbR st) (Zbi st) (Zah st) .none kV doc pm an cdv ct),osl⟩)
    (c:PySem.W.codeIn K cdv qual=true) (k:PySem.W.keepIn K (.ref f)=true):Fun K x qual st f (PySem.W.fnOf x qual (ZbR st) (Zbi st) (Zah st) .none kV doc pm an cdv ct):=⟨⟨oc,od,kV,doc,pm,an,cdv,ct,osl,rfl,l,c⟩,k⟩
end
theorem Zc2{n:Nat}(h:n<=1000):n<sizeLine:=Q9 h (by decide)
section
variable{X:Cx}
theorem pv(i:Nat){x:Str}{pos:Pos}(hN:X.N[i]?=some x:=by rfl)(hv:Vis X.env.scope x:=by first | exact Or.inl rfl | exact Or.inr (Or.inl rfl) | exact Or.inr (Or.inr rfl))(hd:(x==("__debug__" : Str))=false:=by decide)
    (hcd:(x==("__classdict__" : Str))=false:=by decide):PE X (.Name x pos) (Zo5 i):=Zng hN hv hd hcd
end
theorem ZdP{A B:Prop}(h:B):if false=true then A else B:=by
  rw[if_neg Qr]
  exact h
theorem Ziv{A B:Prop}(h:A):if true=true then A else B:=by
  rw[if_pos rfl]
  exact h
theorem ZpF{c A B:Prop}[Decidable c](h1:c->A)(h2:¬c->B):if c then A else B:=by
  by_cases h:c
  · rw[if_pos h]
    exact h1 h
  · rw[if_neg h]
    exact h2 h
def Same(H H':Hp):Prop:=∀b o,H b=some o->H' b=some o
theorem Same.refl(H:Hp):Same H H:=λ_ _ h=>h
theorem Same.trans{H H1 H2:Hp}(a:Same H H1)(b:Same H1 H2):Same H H2:=λc o h=>b c o (a c o h)
theorem Same.free{H H':Hp}(e:Same H H'){l:Addr}(h:H' l=Option.none):H l=Option.none:=by
  cases q:H l with
  | none=>rfl
  | some o =>
    rw[e l o q] at h
    cases h
theorem Same.seq{K:PySem.W.Frag}{H H':Hp}{a:Addr}{xs:List V}(e:Same H H')(h:SqL K H a xs):SqL K H' a xs:=by
  rcases h with (h | ⟨o,h⟩) | h
  · exact .inl (.inl (e _ _ h))
  · exact .inl (.inr ⟨o,e _ _ h⟩)
  · exact .inr h
end L2
set_option maxHeartbeats 4000000
namespace L2
open PySem PySem.Spec PyProof.Rows
theorem ZcP{k:Int}{n:Nat}(h:k.natAbs<2^n):Builtin.Int.intBits k<=n:=by
  unfold Builtin.Int.intBits
  split
  · exact Qb _
  · rename_i h0
    have hk:k.natAbs≠0:=by
      intro z
      apply h0
      have:k=0:=by omega
      simp[this]
    have:k.natAbs.log2<n:=(Nat.log2_lt hk).mpr h
    omega
theorem ZgS:10^150<2^600:=by decide +kernel
theorem ZaO{i j:Int}(h:i.natAbs<=10^150)(h':j.natAbs<=10^150):IntMulOk i j :=
  .of_bits (Q0 (ZcP (n:=600) (Q9 h ZgS)) (by decide)) (Q0 (ZcP (n:=600) (Q9 h' ZgS)) (by decide))
theorem Zl5{j:Int}(h:j.natAbs<=10^150):j.natAbs.log2<9000:=by
  rcases Nat.eq_zero_or_pos j.natAbs with z | z
  · rw[z]; decide
  · exact Nat.lt_trans ((Nat.log2_lt (Ul z)).mpr (Q9 h ZgS)) (by decide)
section
variable{X:Cx}
theorem Zay:OpR X (binaryOp .Mult) (rI IntMulOk λi j => .int (i*j)):=opI λ_ _ _ _ _ _ _ hc q=>mul_int q hc
theorem Zfl:OpR X (binaryOp .FloorDiv) (rI (λ_ j=>j≠0/\j.natAbs<=10^150) λi j => .int (i.fdiv j)):=opI λ_ _ _ _ _ _ _ hc q=>floordiv_int hc.1 q (.inl (PyProof.noPylong_of_log2 (Zl5 hc.2)))
theorem ZcH{x:Str}{T:String}{pos:Pos}(hg:Gl X x)(hm:X.mg x=none)(hv:bootBuiltins x=some (.type T))(hn:x ≠ "__name__" := by decide) (hd:(x==("__debug__" : Str))=false:=by decide):PE X (.Name x pos) (tC (.ty T)):=ZlP hg hm hv rfl hn hd
theorem Zb2:CallR X (.builtin "isinstance") (λxs H Q=>∃x T t b,xs=[x,.ty T]/\TyOf X.K H x t/\PySem.W.kitOne X.K t (.type T)=some b/\Q (.bl b) H):=by
  intro pins s σ H xs us Q I r h
  obtain ⟨x,T,t,b,rfl,ty,hk,q⟩:=h
  obtain ⟨u,w',rfl,r1,r2⟩:=Zi6 r
  cases r2
  exact Zjb I r1 ty hk λtk=>⟨.bl b,H,I.tok _,rfl,q⟩
end
theorem Zb3(K:PySem.W.Frag)(t:Value)(h:(t==t)=true:=by rfl):PySem.W.kitOne K t t=some true:=by
  unfold PySem.W.kitOne
  rw[if_pos h]
theorem Zc3(K:PySem.W.Frag){t T:String}{b:Bool}(h0:((Value.type t)==(Value.type T))=false)(h1:PySem.W.kitMeta T=true)(h:(PySem.fastBuiltinMro t).map (·.contains (Value.type T))=some b):PySem.W.kitOne K (.type t) (.type T)=some b:=by
  unfold PySem.W.kitOne PySem.W.kitCls
  rw[if_neg (by rw[h0]; exact Qr)]
  show (if PySem.W.kitMeta T=true then PySem.W.subIn K (Value.type t) (Value.type T) else none)=some b
  rw[if_pos h1]
  exact h
theorem ZdE(K:PySem.W.Frag):PySem.W.kitOne K (.type "int") (.type "bool")=some false:=Zc3 K (by decide +kernel) (by decide +kernel) (by decide +kernel)
section
variable{A B:Prop}
theorem Zbm{p:Prop}[Decidable p](h1:p->A)(h2:¬p->B):if decide p=true then A else B:=ZpF (λc=>h1 (of_decide_eq_true c)) λc=>h2 (of_decide_eq_false (Bool.eq_false_iff.mpr c))
theorem Zl6{p:Prop}[Decidable p](h1:¬p->A)(h2:p->B):if (!decide p)=true then A else B:=by
  by_cases h:p
  · rw[decide_eq_true h]; exact ZdP (h2 h)
  · rw[decide_eq_false h]; exact Ziv (h1 h)
theorem Zbn{a b:Int}(h1:a=b->A)(h2:a≠b->B):if decide (V.int a=V.int b)=true then A else B:=Zbm (λe=>h1 (V.int.inj e)) λe=>h2 λz=>e (by rw[z])
theorem Ze1{a b:Int}(h1:a≠b->A)(h2:a=b->B):if (!decide (V.int a=V.int b))=true then A else B:=Zl6 (λe=>h1 λz=>e (by rw[z])) λe=>h2 (V.int.inj e)
end
theorem Zkz{a b:Int}(h:a=b):decide (V.int a=V.int b)=true:=decide_eq_true (by rw[h])
theorem Zl7(a b:Int):decide (V.int a=V.int b)=decide (a=b):=by
  by_cases h:a=b
  · rw[decide_eq_true h,Zkz h]
  · rw[decide_eq_false h,decide_eq_false λz=>h (V.int.inj z)]
structure Here (K:PySem.W.Frag) (mg:Str->Option Value) (x:Str) (st:Stmt):Prop where
  ex:∃(f:Addr) (fd:FuncData),Fun K x x st f fd/\mg x=some (.ref f)
structure Has (P:Program) (w:World) (K:PySem.W.Frag) (mg:Str->Option Value) (base:Heap) (x:Str) (k:Nat) (ps:List Str) (sp:Sp):Prop where
  ex:∃(f:Addr) (fd:FuncData),FnOk P w K mg base CX0 k f fd ps sp/\mg x=some (.ref f)/\PySem.W.keepIn K (.ref f)=true/\Binds K fd ps []
section
variable{P:Program}{w:World}{K:PySem.W.Frag}{mg:Str->Option Value}{base:Heap}{x:Str}{st:Stmt}{k j:Nat}{ps:List Str}{sp:Sp}
theorem Has.mono(h:Has P w K mg base x j ps sp)(e:j<=k):Has P w K mg base x k ps sp :=
  let ⟨f,fd,a,b,c,d⟩:=h.ex
  ⟨f,fd,a.mono e,b,c,d⟩
theorem Here.has(h:Here K mg x st)(b:∀f fd,Fun K x x st f fd->Binds K fd ps [])(ok:∀f fd,Fun K x x st f fd->FnOk P w K mg base CX0 k f fd ps sp):Has P w K mg base x k ps sp :=
  let ⟨f,fd,F,m⟩:=h.ex
  ⟨f,fd,ok f fd F,m,F.kp,b f fd F⟩
theorem here_mk{h:Heap}{f:Addr}{oc:Value}{od an:Option Addr}{osl:Array (Option Value)}{kV doc pm cdv ct:Value}(X:K.In h)(G:h.Ns mainGlobals mg)(a:PySem.W.nsIn K mainGlobals x=some (some (.ref f)))
    (l:K.lookup f=some ⟨oc,od,.func (PySem.W.fnOf x x (ZbR st) (Zbi st) (Zah st) .none kV doc pm an cdv ct),osl⟩)
    (c:PySem.W.codeIn K cdv x=true) (k:PySem.W.keepIn K (.ref f)=true):Here K mg x st:=⟨f,_,Zjh l c k,PySem.W.mg_of X G a⟩
end
theorem Zak{X:Cx}{x:Str}{k:Nat}{ps:List Str}{sp:Sp}{e:Expr}{es:List Expr}{t:TA}{p pos:Pos}(h:Has X.prog X.w X.K X.mg X.base x k ps sp)(hr:Room k X.A)(hg:Gl X x)(ha:PA X (e::es) t)(hdb:(x==("__debug__" : Str))=false:=by decide)
    (he:starEach (e::es) X.env=(false,eval e X.env)::starEach es X.env:=by rfl) (hpl:(backTo pos (starEach es X.env)).any (·.1)=false:=by rfl):PE X (.Call (.Name x p) (e::es) [] pos) (Znp sp [] E0 t):=by
  obtain ⟨f,fd,F,hm,hk,hb⟩:=h.ex
  exact ZlY F hr hg hm hk hb .nil Zl4 ha hdb he hpl
theorem Zag{H:Hp}{p:Addr}(h:H p=none)(o:HO):Same H (upd H p o):=λb u q=>by rw[Zau (ZaA q h)]; exact q
theorem Same.tup{K:PySem.W.Frag}{H H':Hp}{a:Addr}{xs:List V}(e:Same H H')(h:SqT K H a xs):SqT K H' a xs:=by
  rcases h with (h | ⟨o,h⟩) | h
  · exact .inl (.inl (e _ _ h))
  · exact .inl (.inr ⟨o,e _ _ h⟩)
  · exact .inr h
end L2
namespace L2
open PySem PySem.Spec PyProof.Rows
def Ziw(cells:List (Str×Addr)):List (Str×NameKind)->List (Str×Addr)->List (Str×Addr)
  | [],cs=>cs
  | (n,k)::r,cs=>Ziw cells r (if k=NameKind.free then (match cells.lookup n with | some a=>(n,a)::cs | none=>cs) else cs)
theorem Zfm{cells:List (Str×Addr)}:∀(ns:List (Str×NameKind)) (cs:List (Str×Addr)),(∀p∈cs,cells.lookup p.1=some p.2)->∀p∈Ziw cells ns cs,cells.lookup p.1=some p.2
  | [],_,h=>h
  | (n,k)::r,cs,h=>by
    refine Zfm r _ λp hp=>?_
    by_cases hk:k=NameKind.free
    · rw[if_pos hk] at hp
      cases e:cells.lookup n with
      | none=>rw[e] at hp; exact h p hp
      | some a =>
        rw[e] at hp
        rcases Qh.mp hp with rfl | hp
        · exact e
        · exact h p hp
    · rw[if_neg hk] at hp
      exact h p hp
theorem ZhG{cells:List (Str×Addr)}:∀(ns:List (Str×NameKind)) (cs:List (Str×Addr)),∀p∈cs,p∈Ziw cells ns cs
  | [],_,_,h=>h
  | (n,k)::r,cs,p,h=>by
    refine ZhG r _ p ?_
    by_cases hk:k=NameKind.free
    · rw[if_pos hk]
      cases e:cells.lookup n with
      | none=>exact h
      | some a=>exact Wh _ h
    · rw[if_neg hk]; exact h
theorem Zfn{cells:List (Str×Addr)}{x:Str}:∀(ns:List (Str×NameKind)) (cs:List (Str×Addr)),(x,NameKind.free)∈ns->(∃c,cells.lookup x=some c)->∃c,(x,c)∈Ziw cells ns cs
  | (n,k)::r,cs,h,hc=>by
    rcases Qh.mp h with e | h
    · cases e
      obtain ⟨c,hc⟩:=hc
      refine ⟨c,ZhG r _ _ ?_⟩
      rw[if_pos rfl,hc]
      exact Wg
    · exact Zfn r _ h hc
theorem Zb4{β:Type}{x:Str}{c:β}:∀ {l:List (Str×β)},(x,c)∈l->∃d,l.lookup x=some d
  | (n,a)::r,h=>by
    by_cases hx:x=n
    · exact ⟨a,by simp[Wm,hx]⟩
    · rcases Qh.mp h with e | h
      · cases e; exact absurd rfl hx
      · obtain ⟨d,hd⟩:=Zb4 h
        refine ⟨d,?_⟩
        have hb:(x==n)=false:=beq_eq_false_iff_ne.mpr hx
        simp only[Wm,hb]
        exact hd
theorem Ze2{env:Env}{α:Type}(k:List (Str×Addr)->Sem α):∀(ns:List (Str×NameKind)) (cs:List (Str×Addr)),(∀y,(y,NameKind.free)∈ns->∃c,env.cells.lookup y=some c) →
    (forIn ns cs (λ(x:Str×NameKind) (r:List (Str×Addr))=>if (x.2==NameKind.free)=true then (do let a ← cellOf env x.1; pure (ForInStep.yield ((x.1,a)::r))) else pure (ForInStep.yield r)):Sem _)=pure (Ziw env.cells ns cs)
  | [],cs,_=>rfl
  | (n,kd)::r,cs,h=>by
    have ih:=λcs=>Ze2 k r cs λy hy=>h y (Wh _ hy)
    rw[List.forIn_cons]
    by_cases hk:kd=NameKind.free
    · subst hk
      obtain ⟨c,hc⟩:=h n Wg
      show ((cellOf env n >>= λa=>pure (ForInStep.yield ((n,a)::cs))) >>= _:Sem _)=_
      have hce:cellOf env n=pure c:=by unfold cellOf; rw[hc]
      rw[hce]
      show (forIn r ((n,c)::cs) _:Sem _)=_
      rw[ih]
      show _=pure (Ziw env.cells r (if NameKind.free=NameKind.free then (match env.cells.lookup n with | some a=>(n,a)::cs | none=>cs) else cs))
      rw[if_pos rfl,hc]
    · have hb:(kd==NameKind.free)=false:=by simpa using hk
      show ((if (kd==NameKind.free)=true then (do let a ← cellOf env n; pure (ForInStep.yield ((n,a)::cs))) else pure (ForInStep.yield cs)) >>= _:Sem _)=_
      rw[hb,if_neg Qr]
      show (forIn r cs _:Sem _)=_
      rw[ih]
      show _=pure (Ziw env.cells r (if kd=NameKind.free then _ else cs))
      rw[if_neg hk]
theorem Ze3{scope:Scope}{env:Env}(h:∀y,(y,NameKind.free)∈scope.names->∃c,env.cells.lookup y=some c):closureFor scope env=pure (Ziw env.cells scope.names []):=by
  unfold closureFor
  have:=Ze2 (env:=env) (α:=List (Str×Addr)) pure scope.names [] h
  show (forIn scope.names [] (λ(x:Str×NameKind) (r:List (Str×Addr))=>if (x.2==NameKind.free)=true then (do let a ← cellOf env x.1; pure (ForInStep.yield ((x.1,a)::r))) else pure (ForInStep.yield r)) >>= λcs=>pure cs:Sem _)=_
  rw[this]
  rfl
theorem ZhH{scope:Scope}{env:Env}(h:(scope.names.all λy=>!(y.2==NameKind.free)||(env.cells.lookup y.1).isSome)=true):∀y,(y,NameKind.free)∈scope.names->∃c,env.cells.lookup y=some c:=λy hy=>by
  have e:(env.cells.lookup y).isSome=true:=List.all_eq_true.mp h (y,NameKind.free) hy
  exact Option.isSome_iff_exists.mp e
def CapsOk(X:Cx)(scope:Scope):List (Nat×Str)->Prop
  | []=>True
  | p::r=>(X.N[p.1]?=some p.2/\scope.names.lookup p.2=some .free/\(X.env.kindOf p.2=some .cell\/X.env.kindOf p.2=some .free))/\CapsOk X scope r
theorem CapsOk.mem{X:Cx}{scope:Scope}:∀ {caps:List (Nat×Str)},CapsOk X scope caps->∀p∈caps,X.N[p.1]?=some p.2/\scope.names.lookup p.2=some .free/\(X.env.kindOf p.2=some .cell\/X.env.kindOf p.2=some .free)
  | [],_,_,h=>nomatch h
  | _::_,⟨h1,h2⟩,p,h=>by
    rcases Qh.mp h with rfl | h
    · exact h1
    · exact h2.mem p h
def Zc4(X:Cx)(scope:Scope)(N:List Str)(s₀:Shared)(H₀:Hp)(C:Addr)(fp:List Addr):Cx where
  prog:=X.prog
  w:=X.w
  K:=X.K
  mg:=X.mg
  base:=X.base
  A:=X.A
  N:=N
  s₀:=s₀
  H₀:=H₀
  env:=compEnvC scope (Ziw X.env.cells scope.names []) C X.env
  outer:=X.stack
  stack:=X.stack
  ex:=fp
  fn:=λ_=>false
  calm:=X.calm
  pn:=[]
  xe:=λ_ _=>False
def st0(k:Nat)(caps:List (Nat×Str))(σ:St):St:=List.replicate k none++caps.map λp=>(σ[p.1]?).join
theorem Zge{prog:Program}{w:World}{A:Around}{R:Result->Shared->Prop}{s:Shared}{elt target iter:Expr}{scope:Scope}{pos:Pos}{it acc:Value}{env:Env}(I:Nat->Shared->Prop)
    (turn:∀n s,I n s->wpAny (model prog w) A (pyNext it) (λr s₁=>match r with
      | none=>R (.ok .next) s₁
      | some v=>wpAny (model prog w) A (letOwnedTupleGo target it v) (λ_ s₁=>wpAny (model prog w) A (assign target env v) (λ_ s₂=>wpAny (model prog w) A (eval elt env) (λx s₃ =>
          wpAny (model prog w) A (call (.builtin "list.append") [acc,x]) (λ_ s₄=>∃m,m<n/\I m s₄) (λ_ _=>False) s₃)
          (λ_ _=>False) s₂) (λ_ _=>False) s₁) (λ_ _=>False) s₁) (λ_ _=>False) s)
    (n:Nat) (h:I n s) :
    codeAny (model prog w) A (.compLoop (.ListComp elt [⟨target,iter,[],0⟩] scope pos) 0 it acc env) R s:=by
  refine codeAny_loop rfl I (λn s hI=>?_) n h
  show wpAny _ _ ((compTurn (.ListComp elt [⟨target,iter,[],0⟩] scope pos) 0 it acc env).onRaise (λx=>do noteFrame x env; theTreesLotGoes x)) _ _ s
  refine wpAny_noted ?_
  rw[compTurn_list1]
  refine wpAny_bind (wpAny_standAt (wpAny_bind (wpAny_mono (turn n s hI) (λr s₁ h₁=>?_) λ_ _ h'=>False.elim h')))
  cases r with
  | none=>exact wpAny_pure h₁
  | some v =>
    refine wpAny_bind (wpAny_mono h₁ (λ_ s₁ h₁=>?_) λ_ _ h'=>False.elim h')
    exact wpAny_bind (wpAny_mono h₁ (λ_ s₂ h₂=>wpAny_bind (wpAny_bind (wpAny_mono h₂ (λx s₃ h₃=>wpAny_bind (wpAny_mono h₃
      (λ_ s₄ h₄=>wpAny_pure (wpAny_pure ⟨rfl,h₄⟩)) λ_ _ h'=>False.elim h')) λ_ _ h'=>False.elim h'))) λ_ _ h'=>False.elim h')
def Ze4(k:Nat)(caps:List (Nat×Str))(g:TG)(te:TE)(σ:St)(J:It)(H:Hp)(Q:List V->Hp->Prop):Prop :=
  ∃W:Nat->Nat->List V->Hp->Prop,(∃m,W 0 m [] H)/\∀i m ys H',W i m ys H'->ys.length<=sizeLine/\((J.stop i H'/\Q ys H') ∨
    (J.go i H'/\ys.length<sizeLine/\∃N:V->Hp->Prop,(∀v H4,N v H4->∃m',m'<m/\W (i+1) m' (ys++[v]) H4) ∧
      ∀x H2,J.yld i H' x H2->g x (st0 k caps σ) H2 λσ2 H3=>(∀(i:Nat) v,(st0 k caps σ)[i]?=some (some v)->σ2[i]?=some (some v))/\te σ2 H3 N))
def Zns(k:Nat)(caps:List (Nat×Str))(wi:TI)(g:TG)(te:TE):TE:=λσ H Q=>wi σ H λJ H1=>Ze4 k caps g te σ J H1 λys H2=>∀D,H2 D=none->Q (.ref D) (upd H2 D (.lst ys))
section
variable{X:Cx}{tg iter elt:Expr}{scope:Scope}{pos:Pos}{wi:TI}{g:TG}{te:TE}{own:List Str}{caps:List (Nat×Str)}
theorem Zgf{scope:Scope}{env:Env}{x:Str}(hx:scope.names.lookup x=some .free):(relabel scope env).names.lookup x=some .cell\/(relabel scope env).names.lookup x=some .free:=by
  unfold relabel
  show (scope.names.map _).lookup x=_\/(scope.names.map _).lookup x=_
  generalize scope.names=ns at hx
  induction ns with
  | nil=>simp at hx
  | cons p r ih =>
    obtain ⟨n,k⟩:=p
    rw[U4]
    by_cases hn:x=n
    · subst hn
      simp only[Wm,beq_self_eq_true] at hx
      cases hx
      by_cases hc:((NameKind.free==NameKind.free)&&env.scope.kind == .function&&env.kindOf x==some .cell)=true
      · left
        show List.lookup x ((if _=true then (x,NameKind.cell) else (x,NameKind.free))::_)=_
        rw[if_pos hc]
        simp[Wm]
      · right
        show List.lookup x ((if _=true then (x,NameKind.cell) else (x,NameKind.free))::_)=_
        rw[if_neg hc]
        simp[Wm]
    · have hb:(x==n)=false:=beq_eq_false_iff_ne.mpr hn
      simp only[Wm,hb] at hx
      have:=ih hx
      show List.lookup x ((if _=true then (n,NameKind.cell) else (n,k))::_)=_\/List.lookup x ((if _=true then (n,NameKind.cell) else (n,k))::_)=_
      split <;> (simp only[Wm,hb]; exact this)
theorem ZdF{scope:Scope}{env:Env}{x:Str}(hc:∀y∈scope.names,y.2 ≠ .cell)(hx:(relabel scope env).names.lookup x=some .cell\/(relabel scope env).names.lookup x=some .free):(x,NameKind.free)∈scope.names:=by
  unfold relabel at hx
  have hx:(scope.names.map λ(n,k)=>if (k==NameKind.free&&env.scope.kind == .function&&env.kindOf n==some .cell) then (n,NameKind.cell) else (n,k)).lookup x=some .cell\/(scope.names.map λ(n,k)=>if (k==NameKind.free&&env.scope.kind == .function&&env.kindOf n==some .cell) then (n,NameKind.cell) else (n,k)).lookup x=some .free:=hx
  generalize scope.names=ns at hx hc
  induction ns with
  | nil=>simp at hx
  | cons p r ih =>
    obtain ⟨n,k⟩:=p
    rw[U4] at hx
    have hr:=λz=>ih z (λy hy=>hc y (Wh _ hy))
    by_cases hn:x=n
    · subst hn
      by_cases hk:k=NameKind.free
      · subst hk; exact Wg
      · have hb:(k==NameKind.free)=false:=by simpa using hk
        have hx':List.lookup x ((x,k)::List.map (λ(p:Str×NameKind)=>match p with | (n,k)=>if (k==NameKind.free&&env.scope.kind == .function&&env.kindOf n==some .cell)=true then (n,NameKind.cell) else (n,k)) r)=some .cell\/List.lookup x ((x,k)::List.map (λ(p:Str×NameKind)=>match p with | (n,k)=>if (k==NameKind.free&&env.scope.kind == .function&&env.kindOf n==some .cell)=true then (n,NameKind.cell) else (n,k)) r)=some .free:=by
          simpa [hb] using hx
        simp only[Wm,beq_self_eq_true,Option.some.injEq] at hx'
        rcases hx' with e | e
        · exact absurd e (hc (x,k) Wg)
        · exact absurd e hk
    · have hb:(x==n)=false:=beq_eq_false_iff_ne.mpr hn
      refine Wh _ (hr ?_)
      have hx2:List.lookup x ((if (k==NameKind.free&&env.scope.kind == .function&&env.kindOf n==some .cell)=true then (n,NameKind.cell) else (n,k))::List.map (λ(p:Str×NameKind)=>match p with | (n,k)=>if (k==NameKind.free&&env.scope.kind == .function&&env.kindOf n==some .cell)=true then (n,NameKind.cell) else (n,k)) r)=some .cell\/List.lookup x ((if (k==NameKind.free&&env.scope.kind == .function&&env.kindOf n==some .cell)=true then (n,NameKind.cell) else (n,k))::List.map (λ(p:Str×NameKind)=>match p with | (n,k)=>if (k==NameKind.free&&env.scope.kind == .function&&env.kindOf n==some .cell)=true then (n,NameKind.cell) else (n,k)) r)=some .free:=hx
      split at hx2 <;> (simp only[Wm,hb] at hx2; exact hx2)
end
end L2
namespace L2
open PySem PySem.Spec PyProof.Rows
section
variable{X:Cx}{tg iter elt:Expr}{scope:Scope}{pos:Pos}{wi:TI}{g:TG}{te:TE}{own:List Str}{caps:List (Nat×Str)}
theorem Zji{pins:List (Addr×Obj)}{σ:St}{H:Hp}{s:Shared}{fp:List Addr}{C:Addr}{N:List Str}(I:Inv X pins σ H s)(hkind:scope.kind = .function)(hcell:∀y∈scope.names,y.2 ≠ .cell)
    (hfree:∀y,(y,NameKind.free)∈scope.names->∃c,X.env.cells.lookup y=some c) (hC:s.heap.objs.size<=C) (hf:∀b∈fp,Zi0 X pins H b) (hlt:∀b∈fp,b<s.heap.objs.size):(Zc4 X scope N s H C fp).Ok:=by
  have sub:∀x c,(Ziw X.env.cells scope.names []).lookup x=some c->X.env.cells.lookup x=some c:=λx c e=>Zfm scope.names [] (λp hp=>(nomatch hp)) (x,c) (PySem.mem_of_lookup e)
  refine ⟨I.ok.mod,hkind,I.ok.glob,I.ok.blt,hC,λx y c h1 h2=>I.ok.inj x y c (sub x c h1) (sub y c h2),λx hx=>?_,λx c h=>(Qr h).elim,I.ok.hd,I.ok.frames,.inl rfl,λb hb=>⟨?_,λx c e=>(hf b hb).2.2.2.2.1 x c (sub x c e)⟩,I.bs,Q0 I.ok.bsz I.sz,λb o e hb=>?_,λb hb z=>?_,I.stack,I.stkFree⟩
  · obtain ⟨c,hc⟩:=Zfn scope.names [] (ZdF hcell hx) (hfree x (ZdF hcell hx))
    exact Zb4 hc
  · exact Qa (Q6 (hlt b hb) hC)
  · rcases (hf b hb).2.2.2.1 with z | z
    · exact I.ok.noex b o e z
    · exact absurd (Q6 (Heap.lt_size e) (Q0 I.ok.bsz z)) (Qg _)
  · rcases Qh.mp (I.stkSub b z) with e | e
    · exact (hf b hb).2.1 e
    · exact (hf b hb).2.2.1 e
theorem Zl8(k:Nat)(caps:List (Nat×Str))(σ:St):(st0 k caps σ).length=k+caps.length:=by
  unfold st0
  rw[Q7,Uc,Q1]
theorem Zl9{k:Nat}{caps:List (Nat×Str)}{σ:St}{i:Nat}{v:V}(h:(st0 k caps σ)[i]?=some (some v)):k<=i/\∃p,caps[i-k]?=some p/\σ[p.1]?=some (some v):=by
  unfold st0 at h
  by_cases hi:i<k
  · rw[Qv (by rw[Uc]; exact hi),List.getElem?_replicate,if_pos hi] at h
    cases h
  · have hk:k<=i:=Nat.not_lt.mp hi
    refine ⟨hk,?_⟩
    rw[W5 (by rw[Uc]; exact hk),Uc,Qc] at h
    cases e:caps[i-k]? with
    | none=>rw[e] at h; cases h
    | some p =>
      rw[e] at h
      refine ⟨p,rfl,?_⟩
      have h':(σ[p.1]?).join=some v:=Option.some.inj h
      cases q:σ[p.1]? with
      | none=>rw[q] at h'; cases h'
      | some o=>rw[q] at h'; cases o with
        | none=>cases h'
        | some w=>cases h'; rfl
theorem Zgg{pins:List (Addr×Obj)}{σ:St}{H:Hp}{s:Shared}{fp:List Addr}{it:Addr}{tn:Nat->Heap->Prop}{J:It}{E:Value->Shared->Prop}{RR:Value->Addr->Result->Shared->Prop}{QL:List V->Hp->Prop}
    (I:Inv X pins σ H s) (hc:X.calm=true) (T:Turn X.prog X.w X.K tg J fp it tn) (st:tn 0 s.heap) (hf:∀b∈fp,Zi0 X pins H b)
    (hkind:scope.kind = .function) (hcell:∀y∈scope.names,y.2 ≠ .cell) (hfree:∀y,(y,NameKind.free)∈scope.names->∃c,X.env.cells.lookup y=some c) (hcap:CapsOk X scope caps)
    (hg:∀s₀ H₀ C,PG (Zc4 X scope (own++caps.map (·.2)) s₀ H₀ C fp) tg g) (he:∀s₀ H₀ C,PE (Zc4 X scope (own++caps.map (·.2)) s₀ H₀ C fp) elt te)
    (hB:Ze4 own.length caps g te σ J H QL)
    (fin:∀D C s' m ys H',s.heap.objs.size<=C->D≠C->s'.heap.Ns C m->Inv X pins σ (upd H' D (.lst ys)) s'->H' D=none->H' C=none->QL ys H'->RR (.ref D) C (.ok .next) s') :
    wpAny (model X.prog X.w) X.A (newList []) (λacc s₃=>wpAny (model X.prog X.w) X.A (newFunctionEnv scope X.env.globals (Ziw X.env.cells scope.names []) [] X.env.qual none .none (some X.env)) (λcenv s₄ =>
      codeAny (model X.prog X.w) X.A (.compStart (.ListComp elt [⟨tg,iter,[],0⟩] scope pos) 0 (.ref it) acc { cenv with scope:=relabel scope X.env }) (RR acc cenv.locals) s₄) E s₃) E s:=by
  refine wpAny_newObj_type (wpAny_newFunctionEnv hcell (by intro y hy; simp at hy) (λh₁ hns₁ hsb₁=>?_) hkind)
  dsimp only at hns₁ hsb₁ ⊢
  generalize hH2:s.heap.push { cls:=.type "list", dict:=none,data:=.seq ([]:List Value).toArray }=H2 at hns₁ hsb₁ ⊢
  have hC:H2.objs.size=s.heap.objs.size+1:=by rw[<-hH2,Heap.size_push]
  generalize hCC:H2.objs.size=C at *
  have hCle:s.heap.objs.size<=C:=by rw[hC]; exact Nat.le_succ _
  generalize hDD:s.heap.objs.size=D at *
  have hDC:D≠C:=by rw[hC]; exact Qa (U7 _)
  have below:∀b,b<D->b≠C/\b≠D:=λb hb=>⟨by rw[hC]; exact Qa (Nat.lt_succ_of_lt hb),Qa hb⟩
  have lts:∀ {b o},s.heap.get? b=some o->b<D:=fun {b o} e=>by rw[<-hDD]; exact Heap.lt_size e
  have old:∀b o,s.heap.get? b=some o->h₁.get? b=some o:=λb o e=>hsb₁.extBut b o (below b (lts e)).1 (Heap.get?_push_of_some _ (hH2 ▸ Heap.get?_push_of_some _ e))
  have hacc:h₁.get? D=some { cls:=.type "list", data:=.seq ([]:List Value).toArray 0 }:=hsb₁.extBut _ _ hDC (Heap.get?_push_of_some _ (hH2 ▸ (hDD ▸ Heap.get?_push_size _ rfl)))
  have hlt:∀b∈fp,b<D:=λb hb=>let ⟨o,e,_⟩:=T.obj 0 _ st b hb; lts e
  have freshS:∀b,D<=b->s.heap.get? b=none:=λb hb=>by
    cases e:s.heap.get? b with
    | none=>rfl
    | some o=>exact absurd (lts e) (Nat.not_lt.mpr hb)
  have nH:∀b,D<=b->H b=none:=λb hb=>I.hok.fresh (by rw[hDD]; exact hb)
  let Y:Cx:=Zc4 X scope (own++caps.map (·.2)) s H C fp
  have okY:Y.Ok:=Zji I hkind hcell hfree (by rw[hDD]; exact hCle) hf (by rw[hDD]; exact hlt)
  have sub:∀x c,(Ziw X.env.cells scope.names []).lookup x=some c->X.env.cells.lookup x=some c:=λx c e=>Zfm scope.names [] (λp hp=>(nomatch hp)) (x,c) (PySem.mem_of_lookup e)
  have celllt:∀x c,X.env.cells.lookup x=some c->c<D:=λx c e=>by
    obtain ⟨v,o,ho,_⟩:=I.cell x c e
    exact lts ho
  have stklt:∀b∈frs X.stack,b<D:=λb hb=>by
    rcases Qh.mp (I.stkSub b hb) with e | e
    · rw[e,<-hDD]; exact I.lt
    · obtain ⟨_,o,ho,_⟩:=I.funs.mem e
      exact lts ho
  have I0:Inv Y [] (st0 own.length caps σ) H { s with heap:=h₁,toks:=s.toks+([]:List (Str×Value)).length }:=by
    refine ⟨okY,rfl,I.bare,Un.kept old,⟨_,hns₁,λi x v h1 h2 h3=>?_⟩,λx c e=>?_,nH C hCle,λx c e=>I.freeC x c (sub x c e),λp hp=>?_,I.hok.kept old,?_⟩
    · obtain ⟨hk,p,hp,hv⟩:=Zl9 h2
      have h1':caps[i-own.length]?.map (·.2)=some x:=by
        have:(own++caps.map (·.2))[i]?=some x:=h1
        rw[W5 hk,Qc] at this
        exact this
      rw[hp] at h1'
      cases h1'
      obtain ⟨q1,q2,q3⟩:=hcap.mem p (Qe hp)
      obtain ⟨m,hn,hl⟩:=I.loc
      obtain ⟨u,r,l⟩:=hl p.1 p.2 v q1 hv (by rcases q3 with z | z; exact .inr (.inl z); exact .inr (.inr z))
      refine ⟨u,r,.inr ⟨Zgf q2,?_⟩⟩
      rcases l with ⟨z,_⟩ | ⟨_,c,hc',z⟩
      · rcases q3 with y | y <;> (rw[y] at z; cases z)
      · have hm:(p.2,NameKind.free)∈scope.names:=PySem.mem_of_lookup q2
        obtain ⟨d,hd⟩:=Zfn scope.names [] hm ⟨c,hc'⟩
        obtain ⟨d',hd'⟩:=Zb4 hd
        have e:=sub _ _ hd'
        rw[hc'] at e
        cases e
        obtain ⟨oc,ho,hdt⟩:=z
        exact ⟨c,hd',oc,old _ _ ho,hdt⟩
    · obtain ⟨v,o,ho,hd⟩:=I.cell x c (sub x c e)
      exact ⟨v,o,old _ _ ho,hd⟩
    · exact absurd (show p∈([]:List (Addr×Obj)) from hp) (by simp)
    · rw[Zl8]
      show _=(own++caps.map (·.2)).length
      rw[Q7,Q1]
  have pinD:∀ {its:List Value} {n:Nat} {σ':St} {H':Hp} {s':Shared},Inv Y [] σ' H' s'->H' D=none->s'.heap.get? D=some { cls:=.type "list", data:=.seq its.toArray n }->Inv Y [(D,{ cls:=.type "list", data:=.seq its.toArray n })] σ' H' s':=fun {its n σ' H' s'} J hn e =>
    J.pins_of λp hp=>by
      have ep:p=(D,{ cls:=.type "list", data:=.seq its.toArray n }):=Q3.mp hp
      subst ep
      refine ⟨e,hn,hDC,λz=>?_,λv z=>by cases z⟩
      exact absurd (stklt D z) (Qg _)
  obtain ⟨W,⟨m0,w0⟩,turn⟩:=hB
  have fpY:∀ {H':Hp} {pins':List (Addr×Obj)},(∀b∈fp,H' b=none)->(∀p∈pins',∀b∈fp,p.1≠b)->∀b∈fp,Zi0 Y pins' H' b:=fun {H' pins'} hn hp b hb =>
    ⟨hn b hb,(okY.exf b hb).1,okY.exfs b hb,.inl hb,(okY.exf b hb).2,λp q=>hp p (by simpa [Y,Zc4] using q) b hb⟩
  have loop:∀s₃:Shared,s₃={ s with heap:=h₁,toks:=s.toks+([]:List (Str×Value)).length } →
      codeAny (model X.prog X.w) X.A (.compLoop (.ListComp elt [⟨tg,iter,[],0⟩] scope pos) 0 (.ref it) (.ref D) (compEnvC scope (Ziw X.env.cells scope.names []) C X.env)) (RR (.ref D) C) s₃:=by
    rintro s₃ rfl
    refine Zge (λk s'=>∃(i:Nat) (ys:List V) (its:List Value) (n:Nat) (H':Hp),Inv Y [(D,{ cls:=.type "list", data:=.seq its.toArray n })] (st0 own.length caps σ) H' s'/\tn i s'.heap/\(∀b∈fp,H' b=none)/\Vals ys its/\W i k ys H') ?_ m0
      ⟨0,[],[],0,H,pinD I0 (nH D (Q2 _)) hacc,T.keep _ _ _ st λb _ o e=>old b o e,λb hb=>(hf b hb).1,.nil,w0⟩
    rintro k s3 ⟨i,ys,its,n,H3,I3,st3,fr3,rv,w3⟩
    obtain ⟨pD,nD,_⟩:=I3.pin (D,{ cls:=.type "list", data:=.seq its.toArray n }) (W6 _ Wg)
    have ff:=fpY (pins':=[(D,{ cls:=.type "list", data:=.seq its.toArray n })]) fr3 (λp hp b hb=>by
      rw[Q3.mp hp]; exact (Ne.symm (below b (hlt b hb)).2))
    obtain ⟨hsz,turn⟩:=turn i k ys H3 w3
    rcases turn with ⟨stop,q⟩ | ⟨go,hsz',NN,hNN,step⟩
    · refine thn (T.done Y rfl rfl rfl hc i _ s3 _ H3 _ I3 ff st3 stop) λr s4 ⟨hr,I4⟩=>?_
      subst hr
      obtain ⟨m4,hn4,_⟩:=I4.loc
      obtain ⟨pD4,nD4,_⟩:=I4.pin (D,{ cls:=.type "list", data:=.seq its.toArray n }) (W6 _ Wg)
      refine fin D C s4 m4 ys H3 hCle hDC hn4 ?_ nD4 I4.free q
      have hk:=I4.base
      have hok4:HOk X.prog X.w H3 s4.heap:=I4.hok
      have neD:∀b u,H3 b=some u->b≠D:=λb u e z=>by rw[z,nD4] at e; cases e
      refine I.call' (ch:=fp) I4.os ⟨λb o e n hb hx=>hk.keep b o e n hb hx,λb o e n hb hx=>hk.slot b o e n hb hx,λb o e n hx=>?_,λb o e hx=>hk.there b o e hx,λb xs e=>?_,λb o u e=>?_,λb ps e=>?_⟩ ?_ I4.bare ?_
      · rw[Zau (below b (lts e)).2]; exact hk.free b o e n hx
      · have:=hk.tups b xs e
        rw[Zau (neD b _ this)]; exact this
      · have:=hk.frzs b o u e
        rw[Zau (neD b _ this)]; exact this
      · obtain ⟨more,e'⟩:=hk.tbls b ps e
        exact ⟨more,by rw[Zau (neD b _ e')]; exact e'⟩
      · intro b u e
        by_cases hb:b=D
        · subst hb
          rw[Zaf] at e
          cases e
          exact ⟨hsz,its,n,rv,pD4⟩
        · rw[Zau hb] at e
          exact (hok4 b u e).stay (λc v _ q=>q) (λc q=>by rw[Zau (neD c _ q)]; exact q) λc xs q=>by rw[Zau (neD c _ q)]; exact q
      · intro b hb
        obtain ⟨_,f1,_,f3,f4,f5⟩:=hf b hb
        exact ⟨f3,f1,f4,f5⟩
    · refine thn (T.item Y rfl rfl rfl hc i _ s3 _ H3 _ I3 ff st3 go) λr s4 ⟨u,hr,h4⟩=>?_
      subst hr
      refine thn h4 λ_ s5 ⟨x,H5,I5,r5,y5,st5,fr5⟩=>?_
      have ff5:=fpY (pins':=[(D,{ cls:=.type "list", data:=.seq its.toArray n })]) fr5 (λp hp b hb=>by
        rw[Q3.mp hp]; exact (Ne.symm (below b (hlt b hb)).2))
      have I5':=I5.pinned ff5 (T.obj _ _ st5)
      refine thn (hg s H C _ s5 _ H5 x u _ I5' r5 (step x H5 y5)) λ_ s6 ⟨σ6,H6,I6,wk,q6⟩=>?_
      refine thn (he s H C _ s6 σ6 H6 _ I6 q6) λy s7 ⟨v,H7,I7,r7,n7⟩=>?_
      obtain ⟨m',hm,w7⟩:=hNN v H7 n7
      obtain ⟨pD7,nD7,_,_,_⟩:=I7.pin (D,{ cls:=.type "list", data:=.seq its.toArray n }) (W6 _ (Uz _ Wg))
      refine append_at (n:=n) pD7 (λh' hs' hD'=>?_) (by rw[Qd,<-rv.length]; exact hsz)
      have st7:tn (i+1) s7.heap:=T.keep _ _ _ st5 λb hb o e=>(I7.pin (b,o) (W6 _ (W6 _ (Zcz hb e)))).1
      have fr7:∀b∈fp,H7 b=none:=λb hb=>by
        obtain ⟨o,e,d⟩:=T.obj _ _ st5 b hb
        exact (I7.pin (b,o) (W6 _ (W6 _ (Zcz hb e)))).2.1
      have I8:Inv Y [] σ6 H7 s7:=I7.pins_of λp hp=>(nomatch hp)
      have I9:Inv Y [] (st0 own.length caps σ) H7 s7:=I8.weak (by rw[I0.len,I8.len]) wk
      have I10:Inv Y [] (st0 own.length caps σ) H7 { s7 with heap:=h' }:=I9.turned (t':=s7.toks) (it:=D) (λb o hb e=>hs'.extBut b o hb e) nD7 hDC (.inr (Nat.le_of_eq hDD)) (λx c e=>Qa (celllt x c (sub x c e))) (λp hp=>absurd (show p∈([]:List (Addr×Obj)) from hp) (by simp))
      refine ⟨m',hm,i+1,ys++[v],its++[y],n+1,H7,pinD I10 nD7 ?_,?_,fr7,rv.append (.cons r7 .nil),w7⟩
      · rw[hD',List.push_toArray]
      · exact T.keep _ _ _ st7 λb hb o e=>hs'.extBut b o (below b (hlt b hb)).2 e
  have tn1:tn 0 h₁:=T.keep _ _ _ st λb _ o e=>old b o e
  exact codeAny_compStart_list (loop _ rfl) (T.self _ 0 _ _ _ tn1 (loop _ rfl))
end
end L2
namespace L2
open PySem PySem.Spec PyProof.Rows
section
variable{X:Cx}{tg iter elt:Expr}{scope:Scope}{pos:Pos}{wi:TI}{g:TG}{te:TE}{own:List Str}{caps:List (Nat×Str)}
theorem Zbj(own:List Str)(caps:List (Nat×Str))(hc:X.calm=true)(hi:PI X tg iter wi)(hg:∀fp s₀ H₀ C,PG (Zc4 X scope (own++caps.map (·.2)) s₀ H₀ C fp) tg g)(he:∀fp s₀ H₀ C,PE (Zc4 X scope (own++caps.map (·.2)) s₀ H₀ C fp) elt te)
    (hcap:CapsOk X scope caps)
    (hfr:(scope.names.all λy=>!(y.2==NameKind.free)||(X.env.cells.lookup y.1).isSome)=true:=by rfl)
    (hkind:scope.kind = .function:=by rfl) (hcell:∀y∈scope.names,y.2 ≠ .cell:=by decide +kernel)
    (hnames:∀y∈scope.names,y.2 = .local->scope.names.lookup y.1=some .local:=by decide +kernel) (hs:∀x,foldedSetIterable iter X.env x=pure x:=by intro _; rfl) :
    PE X (.ListComp elt [⟨tg,iter,[],0⟩] scope pos) (Zns own.length caps wi g te):=by
  intro pins s σ H Q I h
  have hfree:=ZhH hfr
  have hclos:=Ze3 hfree
  rw[eval_ListComp]
  refine wpAny_comprehension_free (use:=none) rfl hs hclos hkind hnames (thn (hi pins s σ H _ I h) λv s1 h1=>thn h1 λitv s2 h2=>?_)
  obtain ⟨it,fp,tn,J,H2,e,I2,T,st2,f2,hB⟩:=h2
  subst e
  refine Zgg (RR:=λacc C=>compPost (model X.prog X.w) X.A X.xe none (EP X pins σ Q) acc C) I2 hc T st2 f2 hkind hcell hfree hcap (hg fp) (he fp) hB ?_
  intro D C s' m ys H' hC hDC hn I3 nD nC q
  refine ⟨m,hn,λh' hs'=>⟨.ref D,upd H' D (.lst ys),?_,rfl,q D nD⟩⟩
  exact I3.turned (t':=s'.toks) (it:=C) (λb o hb e=>hs'.extBut b o hb e) (by rw[Zau (Ne.symm hDC)]; exact nC) (Ne.symm (Qa (Q6 I2.lt hC))) (.inr (Q0 I2.sz hC))
    (λx c e z=>by
      obtain ⟨v,o,ho,_⟩:=I2.cell x c e
      rw[z] at ho
      exact absurd (Q6 (Heap.lt_size ho) hC) (Qg _))
    (λp hp z=>by
      have:=(I2.pin p hp).1
      rw[z] at this
      exact absurd (Q6 (Heap.lt_size this) hC) (Qg _))
theorem Zbc{i:Nat}{x:Str}{pos' spos:Pos}(own:List Str)(caps:List (Nat×Str))(hN:X.N.Nodup)(hx1:X.N[i]?=some x)(hx:X.env.scope.names.lookup x=some .local)(hc:X.calm=true)(hi:PI X tg iter wi)
    (hg:∀fp s₀ H₀ C,PG (Zc4 X scope (own++caps.map (·.2)) s₀ H₀ C fp) tg g) (he:∀fp s₀ H₀ C,PE (Zc4 X scope (own++caps.map (·.2)) s₀ H₀ C fp) elt te)
    (hcap:CapsOk X scope caps)
    (hfr:(scope.names.all λy=>!(y.2==NameKind.free)||(X.env.cells.lookup y.1).isSome)=true:=by rfl)
    (hsw:swapsWith (.ListComp elt [⟨tg,iter,[],0⟩] scope pos) (some (.Name x pos')) spos.line X.env=pure true:=by rfl)
    (hkind:scope.kind = .function:=by rfl) (hcell:∀y∈scope.names,y.2 ≠ .cell:=by decide +kernel)
    (hnames:∀y∈scope.names,y.2 = .local->scope.names.lookup y.1=some .local:=by decide +kernel) (hs:∀x,foldedSetIterable iter X.env x=pure x:=by intro _; rfl) :
    PS X (.Assign [.Name x pos'] (.ListComp elt [⟨tg,iter,[],0⟩] scope pos) spos) (Zor (Zns own.length caps wi g te) (ZcO i)):=by
  intro pins s σ H D0 I h
  have hfree:=ZhH hfr
  have hclos:=Ze3 hfree
  rw[exec_Assign_Name_used _ _ _ _ hsw]
  refine wpAny_bind (wpAny_standAt (wpAny_bind ?_))
  show wpAny _ X.A (do let _ ← comprehension (.ListComp elt [⟨tg,iter,[],0⟩] scope pos) scope X.env _ (newList []) false (eval iter X.env) (some (assign (.Name x pos') X.env))) _ _ s
  refine wpAny_bind (wpAny_mono (wpAny_comprehension_free (use:=some (assign (.Name x pos') X.env)) (Q:=λ_ s'=>SP X pins D0 .next s') rfl hs hclos hkind hnames (thn (hi pins s σ H _ I h) λv s1 h1=>thn h1 λitv s2 h2=>?_)) (λ_ s' hq=>wpAny_pure (wpAny_pure hq)) λ_ _ e=>e)
  obtain ⟨it,fp,tn,J,H2,e,I2,T,st2,f2,hB⟩:=h2
  subst e
  refine Zgg (RR:=λacc C=>compPost (model X.prog X.w) X.A X.xe (some (assign (.Name x pos') X.env)) (λ_ s'=>SP X pins D0 .next s') acc C) I2 hc T st2 f2 hkind hcell hfree hcap (hg fp) (he fp) hB ?_
  intro D C s' m ys H' hC hDC hn I3 nD nC q
  show wpAny _ X.A (assign (.Name x pos') X.env (.ref D)) _ _ _
  have hCl:C≠X.env.locals:=Ne.symm (Qa (Q6 I2.lt hC))
  have hCc:∀x c,X.env.cells.lookup x=some c->c≠C:=λx c e z=>by
    obtain ⟨v,o,ho,_⟩:=I2.cell x c e
    rw[z] at ho
    exact absurd (Q6 (Heap.lt_size ho) hC) (Qg _)
  refine wpAny_assign_Name (Zf4 I3 hN hx1 (.inl hx) (v:=.ref D) rfl (λs4 I4 ⟨a,sb,ha⟩=>?_) (.inr hx))
  have hCa:C≠a:=by
    rcases ha with e | e
    · rw[e]; exact hCl
    · exact Ne.symm (hCc x a e)
  refine ⟨m,hn.sameBut sb hCa,λh' hs'=>⟨_,_,?_,q D nD⟩⟩
  exact I4.turned (t':=s4.toks) (it:=C) (λb o hb e=>hs'.extBut b o hb e) (by rw[Zau (Ne.symm hDC)]; exact nC) hCl (.inr (Q0 I2.sz hC)) hCc
    (λp hp z=>by
      have:=(I2.pin p hp).1
      rw[z] at this
      exact absurd (Q6 (Heap.lt_size this) hC) (Qg _))
theorem Znt{x:V}{cs:List (Option V)}:∀(i:Nat) v,((none:Option V)::cs)[i]?=some (some v)->((some x)::cs)[i]?=some (some v)
  | 0,v,h=>by simp at h
  | i+1,v,h=>by simpa using h
theorem Za1{K:PySem.W.Frag}{a:Addr}{xs:List V}{σ:St}{H:Hp}{QL:List V->Hp->Prop}(Pv:Nat->List V->Hp->Prop)(hz:xs.length<=1000)(h0:Pv 0 [] H)(hl:∀i ys H,i<=xs.length->Pv i ys H->SqL K H a xs)
    (hs:∀i x ys H,xs[i]?=some x->ys.length=i->Pv i ys H->te (some x::caps.map λp=>(σ[p.1]?).join) H λv H'=>Pv (i+1) (ys++[v]) H') (hd:∀ys H,ys.length=xs.length->Pv xs.length ys H->QL ys H) :
    Ze4 1 caps (ZcO 0) te σ (Itl K a) H QL:=by
  have hz':xs.length<sizeLine:=Zc2 hz
  refine ⟨λi m ys H=>m=xs.length-i/\i<=xs.length/\ys.length=i/\Pv i ys H,⟨_,rfl,Qb _,rfl,h0⟩,?_⟩
  rintro i m ys H' ⟨rfl,hi,hy,p⟩
  have q:=hl i ys H' hi p
  refine ⟨by omega,?_⟩
  by_cases hlt:i<xs.length
  · refine .inr ⟨⟨xs,xs[i],q,by simp[hlt]⟩,by omega,λv H4=>Pv (i+1) (ys++[v]) H4,λv H4 p'=>⟨xs.length-(i+1),by omega,rfl,hlt,by rw[Q7,hy]; rfl,p'⟩,λx H2 y=>?_⟩
    obtain ⟨e,y⟩:=y
    subst e
    exact ⟨Znt,hs i x ys _ (y xs q) hy p⟩
  · have e:i=xs.length:=by omega
    subst e
    exact .inl ⟨⟨xs,q,Q2 _⟩,hd ys H' hy p⟩
theorem Zbp{lo:Int}{n:Nat}{σ:St}{H:Hp}{QL:List V->Hp->Prop}(Pv:Nat->List V->Hp->Prop)(hz:n<=1000)(h0:Pv 0 [] H)
    (hs:∀i ys H,i<n->ys.length=i->Pv i ys H->te (some (.int (lo+i))::caps.map λp=>(σ[p.1]?).join) H λv H'=>Pv (i+1) (ys++[v]) H') (hd:∀ys H,ys.length=n->Pv n ys H->QL ys H) :
    Ze4 1 caps (ZcO 0) te σ (Itr lo n) H QL:=by
  have hz':n<sizeLine:=Zc2 hz
  refine ⟨λi m ys H=>m=n-i/\i<=n/\ys.length=i/\Pv i ys H,⟨_,rfl,Qb _,rfl,h0⟩,?_⟩
  rintro i m ys H' ⟨rfl,hi,hy,p⟩
  refine ⟨by omega,?_⟩
  by_cases hlt:i<n
  · refine .inr ⟨hlt,by omega,λv H4=>Pv (i+1) (ys++[v]) H4,λv H4 p'=>⟨n-(i+1),by omega,rfl,hlt,by rw[Q7,hy]; rfl,p'⟩,λx H2 y=>?_⟩
    obtain ⟨e,y⟩:=y
    subst e y
    exact ⟨Znt,hs i ys _ hlt hy p⟩
  · have e:i=n:=by omega
    subst e
    exact .inl ⟨Q2 _,hd ys H' hy p⟩
end
end L2
namespace L2
open PySem PySem.Spec PyProof.Rows
structure HasM (P:Program) (w:World) (K:PySem.W.Frag) (mg:Str->Option Value) (base:Heap) (C:Addr) (m:Str) (k:Nat) (ps:List Str) (dvs:List V) (sp:Sp):Prop where
  ex:∃(f:Addr) (fd:FuncData) (ds:List Value),FnOk P w K mg base CX0 k f fd ps sp/\Meth K C m f/\Binds K fd ps ds/\Vals dvs ds
theorem HasM.mono{P:Program}{w:World}{K:PySem.W.Frag}{mg:Str->Option Value}{base:Heap}{C:Addr}{m:Str}{j k:Nat}{ps:List Str}{dvs:List V}{sp:Sp}(h:HasM P w K mg base C m j ps dvs sp)(e:j<=k):HasM P w K mg base C m k ps dvs sp :=
  let ⟨f,fd,ds,a,b,c,d⟩:=h.ex
  ⟨f,fd,ds,a.mono e,b,c,d⟩
def Zlh(P:Program)(w:World)(K:PySem.W.Frag)(mg:Str->Option Value)(base:Heap)(m:Str)(k:Nat)(ta:TE)(t:TA):TE:=λσ H Q=>ta σ H λx H1=>∃a C dx fs ps dvs sp,x = .ref a/\H1 a=some (.ins C dx fs)/\Cls K C/\HasM P w K mg base C m k ps dvs sp/\fs.lookup m=none ∧
  t σ H1 λvs H2=>sp (x::(vs++dvs)) H2 Q E0
section
variable{X:Cx}{k:Nat}{m x:Str}{p pos apos:Pos}{e o:Expr}{es:List Expr}{ta:TE}{t:TA}
theorem Zbw{pl:Sem Bool}(he:PE X o ta)(hr:Room k X.A)(ha:PA X (e::es) t)
    (hst:starEach (e::es) X.env=(false,eval e X.env)::starEach es X.env:=by rfl) (hpl:(backTo pos (starEach es X.env)).any (·.1)=false:=by rfl)
    (ht:eval (.Call (.Attribute o m apos) (e::es) [] pos) X.env=(do
      let ov ← eval o X.env
      standAt apos.atName
      let (f,first) ← holding [ov] (getMethod ov m pl)
      callWith pos f first (backTo pos (starEach (e::es) X.env)) (backToKw pos (keywordEach [] X.env))):=by rfl) :
    PE X (.Call (.Attribute o m apos) (e::es) [] pos) (Zlh X.prog X.w X.K X.mg X.base m k ta t):=by
  intro pins s σ H Q I h
  refine PySem.W.methodCall_KW (pl:=pl) (thn (he pins s σ H _ I h) λu s1 ⟨x,H1,I1,rx,a,C,dx,fs,ps,dvs,sp,ex,ea,c,hM,l,q⟩=>?_) ht
  subst ex
  obtain rfl:u=Value.ref a:=rx
  obtain ⟨f,fd,ds,F,hm,hb,hd⟩:=hM.ex
  refine ZeZ I1 ea c hm l ?_
  refine PySem.W.callWith_K (first:=[.ref a]) (h₀:=X.base) I.ok.mod.kin hm.kp (thn (ha pos pins s1 σ H1 _ I1 q) λus s2 ⟨vs,H2,I2,r,q2⟩=>⟨I2.kIn,?_⟩) hst hpl
  exact Zlf (us:=.ref a::us) (vs:=.ref a::vs) F hr hb hd Zl4 I2 (.cons rfl r) q2
structure HasI (P:Program) (w:World) (K:PySem.W.Frag) (mg:Str->Option Value) (base:Heap) (C:Addr) (k:Nat) (ps:List Str) (sp:Sp):Prop where
  ex:∃(f:Addr) (fd:FuncData),Mk K C f/\FnOk P w K mg base CX0 k f fd ps sp/\Binds K fd ps []
theorem ZkA{C:Addr}{ps:List Str}{sp:Sp}(h:HasI X.prog X.w X.K X.mg X.base C k ps sp)(hr:Room (k+1) X.A)(hg:Gl X x)(hm:X.mg x=some (.ref C))(ha:PA X (e::es) t)(hdb:(x==("__debug__" : Str))=false:=by decide)
    (he:starEach (e::es) X.env=(false,eval e X.env)::starEach es X.env:=by rfl) (hpl:(backTo pos (starEach es X.env)).any (·.1)=false:=by rfl):PE X (.Call (.Name x p) (e::es) [] pos) (Znq C sp [] E0 t):=by
  obtain ⟨f,fd,M,F,b⟩:=h.ex
  exact ZlZ M F hr hg hm b .nil Zl4 ha hdb he hpl
structure HereM (K:PySem.W.Frag) (C:Addr) (m qual:Str) (st:Stmt):Prop where
  ex:∃(f:Addr) (fd:FuncData),Fun K m qual st f fd/\Meth K C m f
theorem HereM.hasM{P:Program}{w:World}{K:PySem.W.Frag}{mg:Str->Option Value}{base:Heap}{C:Addr}{m qual:Str}{st:Stmt}{k:Nat}{ps:List Str}{sp:Sp}(h:HereM K C m qual st)
    (b:∀f fd,Fun K m qual st f fd->Binds K fd ps []) (ok:∀f fd,Fun K m qual st f fd->FnOk P w K mg base CX0 k f fd ps sp):HasM P w K mg base C m k ps [] sp :=
  let ⟨f,fd,F,M⟩:=h.ex
  ⟨f,fd,[],ok f fd F,M,b f fd F,.nil⟩
theorem hereM_mk{K:PySem.W.Frag}{C:Addr}{m qual:Str}{st:Stmt}{f:Addr}{oc:Value}{od an:Option Addr}{osl:Array (Option Value)}{kV doc pm cdv ct:Value}(a:PySem.W.findIn K (.ref C) m=some (some (.ref f)))(i:PySem.W.isFn K (.ref f)=true)
    (l:K.lookup f=some ⟨oc,od,.func (PySem.W.fnOf m qual (ZbR st) (Zbi st) (Zah st) .none kV doc pm an cdv ct),osl⟩)
    (c:PySem.W.codeIn K cdv qual=true) (k:PySem.W.keepIn K (.ref f)=true):HereM K C m qual st:=⟨f,_,Zjh l c k,a,i,k⟩
structure HereI (K:PySem.W.Frag) (C:Addr) (qual:Str) (st:Stmt):Prop where
  ex:∃(f:Addr) (fd:FuncData),Fun K "__init__" qual st f fd/\Mk K C f
theorem HereI.hasI{P:Program}{w:World}{K:PySem.W.Frag}{mg:Str->Option Value}{base:Heap}{C:Addr}{qual:Str}{st:Stmt}{k:Nat}{ps:List Str}{sp:Sp}(h:HereI K C qual st)
    (b:∀f fd,Fun K "__init__" qual st f fd->Binds K fd ps []) (ok:∀f fd,Fun K "__init__" qual st f fd->FnOk P w K mg base CX0 k f fd ps sp):HasI P w K mg base C k ps sp :=
  let ⟨f,fd,F,M⟩:=h.ex
  ⟨f,fd,M,ok f fd F,b f fd F⟩
theorem hereI_mk{K:PySem.W.Frag}{C:Addr}{qual:Str}{st:Stmt}{f:Addr}{oc:Value}{od an:Option Addr}{osl:Array (Option Value)}{kV doc pm cdv ct:Value}(mk:PySem.W.makesIn K C=true)(a:PySem.W.findIn K (.ref C) "__init__" = some (some (.ref f))) (i:PySem.W.isFn K (.ref f)=true)
    (kc:PySem.W.keepIn K (.ref C)=true) (l:K.lookup f=some ⟨oc,od,.func (PySem.W.fnOf "__init__" qual (ZbR st) (Zbi st) (Zah st) .none kV doc pm an cdv ct),osl⟩)
    (c:PySem.W.codeIn K cdv qual=true) (k:PySem.W.keepIn K (.ref f)=true):HereI K C qual st:=⟨f,_,Zjh l c k,mk,a,i,kc⟩
structure Mk0 (K:PySem.W.Frag) (C:Addr):Prop where
  makes:PySem.W.makesIn K C=true
  init:PySem.W.findIn K (.ref C) "__init__" = some (some (.builtin "object.__init__"))
  kp:PySem.W.keepIn K (.ref C)=true
def Zma(C:Addr):TE:=λ_ H Q=>∀x dx,H x=none->H dx=none->dx≠x->Q (.ref x) (upd (upd H dx (.own x)) x (.ins C dx []))
theorem Zix{C:Addr}{pins:List (Addr×Obj)}{σ:St}{H:Hp}{s:Shared}{Q:VK}(M:Mk0 X.K C)(I:Inv X pins σ H s)
    (h:∀x dx,H x=none->H dx=none->dx≠x->Q (.ref x) (upd (upd H dx (.own x)) x (.ins C dx []))):wpAny (model X.prog X.w) X.A (call (.ref C) []) (EP X pins σ Q) X.xe s:=by
  have hq:=h (s.heap.objs.size+1) s.heap.objs.size (I.hok.fresh (Nat.le_succ _)) (I.hok.fresh (Q2 _)) (Qa (U7 _))
  have I2:=Inv.made (C:=C) I
  refine wpAny_call (Zi9 I.kIn M.makes M.init (λself=>PySem.W.Looks.of_pure (PySem.W.oi_bind self)) ?_)
  have Y:=PySem.W.makes_of (M:=model X.prog X.w) I.kIn M.makes
  obtain ⟨hh,g,d,t,os⟩:=s
  have t1:PySem.W.Looks (model X.prog X.w) ((hh.push PySem.W.emptyDict).push (PySem.W.instObj C hh.objs.size)) (typeOf (.ref (hh.objs.size+1))) (.ref C) :=
    (PySem.W.Looks.ld (o:=PySem.W.instObj C hh.objs.size) (by have:=Heap.get?_push_size (hh.push PySem.W.emptyDict) (o:=PySem.W.instObj C hh.objs.size) rfl; rwa [Heap.size_push] at this)).andThen .now
  have t2:PySem.W.Looks (model X.prog X.w) ((hh.push PySem.W.emptyDict).push (PySem.W.instObj C hh.objs.size)) (isInstance (.ref (hh.objs.size+1)) (.type "object")) true:=t1.andThen (Y.top.keeps λb o e=>Heap.get?_push_of_some _ (Heap.get?_push_of_some _ e))
  refine codeAny_call_builtin PySem.W.oi_plain PySem.W.entry_oi (@PySem.W.check_slot (model X.prog X.w) _ _ _ "object.__init__" "object" "__init__" (.ref (hh.objs.size+1)) [] [] _ PySem.W.oi_kind PySem.W.oi_split t2 (PySem.W.oi_args (.ref (hh.objs.size+1))) ?_)
  rw[PySem.W.oi_run]
  refine wpAny_pure (And.intro rfl ?_)
  exact ⟨V.ref (hh.objs.size+1),_,I2,rfl,hq⟩
theorem Zjj{C:Addr}(M:Mk0 X.K C)(hg:Gl X x)(hm:X.mg x=some (.ref C))(hdb:(x==("__debug__" : Str))=false:=by decide):PE X (.Call (.Name x p) [] [] pos) (Zma C):=by
  intro pins s σ H Q I h
  refine wpAny_Call_Name_kw (ZcN I hg hm ?_ hdb)
  exact PySem.W.callWith_K0 I.kIn M.kp (Zix M I h)
end
end L2
namespace M1
theorem fmod_gcd(a b:Int):Int.gcd b (a.fmod b)=Int.gcd a b:=by
  have h:a.fmod b=a-b*a.fdiv b:=Int.fmod_def a b
  rw[h,Int.gcd_comm a b]
  have:a-b*a.fdiv b=a+b*(-(a.fdiv b)):=by rw[Wo]; omega
  rw[this]
  simp
theorem Znu(i:Int):(if i<0 then -i else i)=(i.natAbs:Int):=by split <;> omega
theorem gcd_zero'(a:Int):(Int.gcd a 0:Int)=(if a<0 then -a else a):=by
  rw[Znu,Int.gcd_zero_right]
theorem Zeb(a:Int){b:Int}(h:b<0):a.fmod b<=0/\b<a.fmod b:=by
  have e:=Int.neg_fmod_neg a b
  have h1:=Int.fmod_nonneg_of_pos (-a) (b:=-b) (by omega)
  have h2:=Int.fmod_lt_of_pos (-a) (b:=-b) (by omega)
  omega
theorem fmod_lt(a:Int){b:Int}(h:b≠0):(a.fmod b).natAbs<b.natAbs:=by
  rcases Um h with h | h
  · have h1:=Zeb a h
    omega
  · have h1:=Int.fmod_nonneg_of_pos a h
    have h2:=Int.fmod_lt_of_pos a h
    omega
theorem Zgh(a:Int){b:Int}(h:b≠0):(0<=b/\0<=a.fmod b)\/(b<=0/\a.fmod b<=0):=by
  rcases Um h with h | h
  · exact .inr ⟨by omega,(Zeb a h).1⟩
  · exact .inl ⟨by omega,Int.fmod_nonneg_of_pos a h⟩
structure Sh (x y a u1 v1 b u2 v2:Int):Prop where
  ea:a=u1*x+v1*y
  eb:b=u2*x+v2*y
  g:Int.gcd a b=Int.gcd x y
  st:(a=x/\u1=1/\v1=0/\b=y/\u2=0/\v2=1) ∨
    (a≠0/\((0<=a/\0<=b)\/(a<=0/\b<=0))/\a.natAbs<=y.natAbs/\b.natAbs<=y.natAbs/\u1.natAbs<=y.natAbs/\v1.natAbs<=x.natAbs+2*y.natAbs ∧
      u2.natAbs*a.natAbs+u1.natAbs*b.natAbs<=y.natAbs/\v2.natAbs*a.natAbs+v1.natAbs*b.natAbs<=x.natAbs+2*y.natAbs)
theorem Sh.start(x y:Int):Sh x y x 1 0 y 0 1:=⟨by omega,by omega,rfl,.inl ⟨rfl,rfl,rfl,rfl,rfl,rfl⟩⟩
theorem ZcA{a b c:Nat}(h:a*b<=c)(hb:b≠0):a<=c:=Q0 (Nat.le_mul_of_pos_right a (Ud hb)) h
theorem Zoz{X Y:Nat}:X<=X+2*Y+1:=by omega
theorem Zjk{X Y:Nat}:Y<=X+2*Y+1:=by omega
theorem Znv{X Y:Nat}:1<=X+2*Y+1:=by omega
theorem ZoA{X Y:Nat}(h:1<=Y):1<=X+2*Y:=by omega
theorem Sh.bound{x y a u1 v1 b u2 v2:Int}(h:Sh x y a u1 v1 b u2 v2) :
    a.natAbs<=x.natAbs+2*y.natAbs+1/\u1.natAbs<=x.natAbs+2*y.natAbs+1/\v1.natAbs<=x.natAbs+2*y.natAbs+1 ∧
    b.natAbs<=x.natAbs+2*y.natAbs+1/\u2.natAbs<=x.natAbs+2*y.natAbs+1/\v2.natAbs<=x.natAbs+2*y.natAbs+1:=by
  rcases h.st with ⟨rfl,rfl,rfl,rfl,rfl,rfl⟩ | ⟨ha,_,h1,h2,h3,h4,h5,h6⟩
  · exact ⟨Zoz,Znv,Qb _,Zjk,Qb _,Znv⟩
  · have ha':a.natAbs≠0:=Int.natAbs_ne_zero.mpr ha
    have k1:u2.natAbs<=y.natAbs:=ZcA (b:=a.natAbs) (Q0 (Nat.le_add_right _ _) h5) ha'
    have k2:v2.natAbs<=x.natAbs+2*y.natAbs:=ZcA (b:=a.natAbs) (Q0 (Nat.le_add_right _ _) h6) ha'
    exact ⟨Q0 h1 Zjk,Q0 h3 Zjk,Nat.le_succ_of_le h4,Q0 h2 Zjk,Q0 k1 Zjk,Nat.le_succ_of_le k2⟩
theorem rest_eq(a b:Int):a-a.fdiv b*b=a.fmod b:=by rw[Int.fmod_def,Qj]
theorem fdiv_small(a:Int){b:Int}(hb:b≠0):(a.fdiv b).natAbs<=a.natAbs+1:=by
  have e:=Int.mul_fdiv_add_fmod a b
  have l:=fmod_lt a hb
  have k:(b*a.fdiv b).natAbs=b.natAbs*(a.fdiv b).natAbs:=Qf ..
  have z:b*a.fdiv b=a-a.fmod b:=by omega
  have n1:b.natAbs*(a.fdiv b).natAbs<=a.natAbs+(b.natAbs-1):=by
    rw[<-k,z]
    have:=Int.natAbs_sub_le a (a.fmod b)
    omega
  generalize (a.fdiv b).natAbs=q at *
  generalize b.natAbs=c at *
  have hc:1<=c:=by omega
  rcases Nat.lt_or_ge (a.natAbs+1) q with h | h
  · have:c*(a.natAbs+2)<=c*q:=Wp c h
    have e2:c*(a.natAbs+2)=c*a.natAbs+c*2:=Nat.mul_add ..
    have e3:a.natAbs<=c*a.natAbs:=Uo _ hc
    omega
  · exact h
theorem Zmb{a b:Int}(h:(0<=a/\0<=b)\/(a<=0/\b<=0)):0<=a.fdiv b:=by
  rcases h with ⟨h1,h2⟩ | ⟨h1,h2⟩
  · exact Int.fdiv_nonneg h1 h2
  · rw[<-Int.neg_fdiv_neg]; exact Int.fdiv_nonneg (by omega) (by omega)
theorem Zjl{a b:Int}(hb:b≠0)(h:(0<=a/\0<=b)\/(a<=0/\b<=0)):(a.fdiv b).natAbs*b.natAbs+(a.fmod b).natAbs=a.natAbs:=by
  have e:=Int.mul_fdiv_add_fmod a b
  have q:=Zmb h
  have s:=Zgh a hb
  rw[<-Qf,Qj]
  have pq:(0<=b/\0<=b*a.fdiv b)\/(b<=0/\b*a.fdiv b<=0):=by
    rcases h with ⟨h1,h2⟩ | ⟨h1,h2⟩
    · exact .inl ⟨h2,Up h2 q⟩
    · refine .inr ⟨h2,?_⟩
      have:=Up (show 0 <= -b by omega) q
      rw[Int.neg_mul] at this
      omega
  rcases pq with ⟨b1,p1⟩ | ⟨b1,p1⟩
  · rcases s with ⟨_,s1⟩ | ⟨b2,_⟩
    · rw[<-Int.natAbs_add_of_nonneg p1 s1,e]
    · exact absurd (Int.le_antisymm b2 b1) hb
  · rcases s with ⟨b2,_⟩ | ⟨_,s1⟩
    · exact absurd (Int.le_antisymm b1 b2) hb
    · rw[<-Int.natAbs_add_of_nonpos p1 s1,e]
theorem Ze5(u q v:Int):(u-q*v).natAbs<=u.natAbs+q.natAbs*v.natAbs:=by
  have:=Int.natAbs_sub_le u (q*v)
  rw[Qf] at this
  exact this
theorem ZhI{u1 u2 q a b r u C:Nat}(hu:u<=u1+q*u2)(ha:q*b+r=a)(h:u2*a+u1*b<=C):u*b+u2*r<=C:=by
  have h1:u*b<=(u1+q*u2)*b:=Qw b hu
  have h2:(u1+q*u2)*b=u1*b+u2*(q*b):=by
    rw[Nat.add_mul,Wq q u2,Wi]
  have h3:u2*a=u2*(q*b)+u2*r:=by rw[<-ha,Nat.mul_add]
  omega
theorem ZkB{x y a b q u1 v1 u2 v2:Int}(ea:a=u1*x+v1*y)(eb:b=u2*x+v2*y):a-q*b=(u1-q*u2)*x+(v1-q*v2)*y:=by
  rw[ea,eb,Int.sub_mul,Int.sub_mul,Int.mul_add,Qn,Qn]
  omega
theorem Znw{M A R B:Nat}(h:M<=A+R)(l:R<B):M+R<=A+2*B:=by omega
theorem Sh.turn{x y a u1 v1 b u2 v2:Int}(h:Sh x y a u1 v1 b u2 v2)(hb:b≠0) :
    Sh x y b u2 v2 (a-a.fdiv b*b) (u1-a.fdiv b*u2) (v1-a.fdiv b*v2):=by
  have er:=rest_eq a b
  refine ⟨h.eb,ZkB h.ea h.eb,?_,.inr ?_⟩
  · rw[er,fmod_gcd]; exact h.g
  · have lt:=fmod_lt a hb
    have sg:=Zgh a hb
    rw[er]
    refine ⟨hb,sg,?_⟩
    rcases h.st with ⟨rfl,rfl,rfl,rfl,rfl,rfl⟩ | ⟨ha,hs,h1,h2,h3,h4,h5,h6⟩
    · have e0:(1:Int)-a.fdiv b*0=1:=by omega
      have e1:(0:Int)-a.fdiv b*1 = -(a.fdiv b):=by omega
      rw[e0,e1,Int.natAbs_neg]
      refine ⟨Q2 _,Ub lt,Qb _,ZoA (Ud (Int.natAbs_ne_zero.mpr hb)),?_,?_⟩
      · show 1*b.natAbs+0*(a.fmod b).natAbs<=b.natAbs
        rw[Nat.one_mul,Nat.zero_mul]
        exact Q2 _
      · show (a.fdiv b).natAbs*b.natAbs+1*(a.fmod b).natAbs<=a.natAbs+2*b.natAbs
        have e:=Int.mul_fdiv_add_fmod a b
        have k:(b*a.fdiv b).natAbs=b.natAbs*(a.fdiv b).natAbs:=Qf ..
        have z:b*a.fdiv b=a-a.fmod b:=by omega
        rw[Wq,<-k,z,Nat.one_mul]
        exact Znw (Int.natAbs_sub_le a (a.fmod b)) lt
    · have sp:=Zjl hb hs
      have ha':a.natAbs≠0:=Int.natAbs_ne_zero.mpr ha
      have k1:u2.natAbs<=y.natAbs:=ZcA (b:=a.natAbs) (Q0 (Nat.le_add_right _ _) h5) ha'
      have k2:v2.natAbs<=x.natAbs+2*y.natAbs:=ZcA (b:=a.natAbs) (Q0 (Nat.le_add_right _ _) h6) ha'
      exact ⟨h2,Q0 (Ub lt) h2,k1,k2,ZhI (Ze5 ..) sp h5,ZhI (Ze5 ..) sp h6⟩
theorem Sh.done{x y a u1 v1 u2 v2:Int}(h:Sh x y a u1 v1 0 u2 v2):(a.natAbs:Int)=Int.gcd x y/\a=x*u1+y*v1:=by
  have g:=h.g
  rw[Int.gcd_zero_right] at g
  refine ⟨by rw[g],?_⟩
  rw[Qj x,Qj y]; exact h.ea
end M1
namespace M2
def Prm(n:Int):Prop:=2<=n/\∀d:Int,2<=d->d*d<=n->¬d ∣ n
theorem sq_mono{a b:Int}(ha:0<=a)(h:a<=b):a*a<=b*b:=Int.mul_le_mul h h ha (by omega)
theorem Zmc:Prm 2:=⟨by omega,λd h1 h2=>by have:=sq_mono (a:=2) (by omega) h1; omega⟩
theorem ZkC{n:Int}(h:2<=n)(h2:n≠2)(e:n%2=0):¬Prm n:=λp=>p.2 2 (by omega) (by omega) (Int.dvd_of_emod_eq_zero e)
theorem prm_even{n:Int}(h:2<=n)(e:n%2=0):Prm n↔n=2:=by
  constructor
  · intro p
    refine Decidable.byContradiction λz=>ZkC h z e p
  · rintro rfl
    exact Zmc
def No(n t:Int):Prop:=∀d:Int,2<=d->d<t->¬d ∣ n
theorem No.odd{n:Int}(e:¬n%2=0):No n 3:=λd h1 h2 hd=>by
  have:d=2:=by omega
  subst this
  exact e (U8 hd)
theorem No.two{n:Int}:No n 2:=λd h1 h2=>by omega
theorem No.one{n t:Int}(h:No n t)(hn:¬t ∣ n):No n (t+1):=λd h1 h2=>by
  rcases (by omega:d<t\/d=t) with z | z
  · exact h d h1 z
  · rw[z]; exact hn
theorem No.next{n t:Int}(h:No n t)(e:¬n%2=0)(ho:t%2=1)(hn:¬t ∣ n):No n (t+2):=λd h1 h2 hd=>by
  rcases (by omega:d<t\/d=t\/d=t+1) with z | z | z
  · exact h d h1 z hd
  · rw[z] at hd; exact hn hd
  · have h2d:(2:Int) ∣ d:=Int.dvd_of_emod_eq_zero (by omega)
    exact e (U8 (Ue h2d hd))
theorem No.done{n t:Int}(h:No n t)(h2:2<=n)(ht:0<=t)(hl:¬t*t<=n):Prm n:=⟨h2,λd h1 hd=>h d h1 (by
  refine Uq λz=>hl ?_
  exact Int.le_trans (sq_mono ht z) hd)⟩
theorem found{n t:Int}(ht:2<=t)(hl:t*t<=n)(hd:t ∣ n):¬Prm n:=λp=>p.2 t ht hl hd
theorem le_of_sq{n t:Int}(ht:2<=t)(hl:t*t<=n):t+t<=n:=by
  have:t*2<=t*t:=Int.mul_le_mul_of_nonneg_left ht (by omega)
  omega
theorem fmod_dvd{n t:Int}(ht:0<t):n.fmod t=0↔t ∣ n:=by
  rw[Qz n (by omega)]
  exact ⟨Int.dvd_of_emod_eq_zero,U8⟩
theorem Zjm:∀d:Nat,d<1000->2<=d->999983%d≠0:=by decide +kernel
theorem prm_big:Prm 999983:=by
  refine ⟨by omega,λd h1 h2 hd=>?_⟩
  have hl:d<1000:=by
    refine Uq λz=>?_
    have:=sq_mono (a:=1000) (by omega) z
    omega
  have e:=U8 hd
  refine Zjm d.toNat (by omega) (by omega) ?_
  have ed:d=(d.toNat:Int):=by omega
  rw[ed] at e
  have e2:((999983%d.toNat:Nat):Int)=0:=by rw[Wr]; exact e
  exact Int.natCast_eq_zero.mp e2
theorem Zmd{p d:Int}(h:Prm p)(h1:1<d)(hd:d ∣ p):d=p:=by
  obtain ⟨k,hk⟩:=hd
  have hp:=h.1
  refine Decidable.byContradiction λz=>?_
  have kpos:0<k:=by
    refine Uq λq=>?_
    have:=Up (show 0<=d by omega) (show 0 <= -k by omega)
    rw[Wo] at this
    omega
  have k1:k≠1:=λq=>z (by rw[hk,q,U3])
  rcases (by omega:d<=k\/k<=d) with q | q
  · exact h.2 d (by omega) (by rw[hk]; exact Int.mul_le_mul_of_nonneg_left q (by omega)) ⟨k,hk⟩
  · exact h.2 k (by omega) (by rw[hk]; exact Int.mul_le_mul_of_nonneg_right q (by omega)) ⟨d,by rw[hk,Qj]⟩
theorem prm_gcd{p b:Int}(h:Prm p)(hb:¬p ∣ b):Int.gcd b p=1:=by
  have h1:=W2 b p
  have h2:=Ws b p
  have hp:=h.1
  have hne:Int.gcd b p≠0:=λz=>by
    rw[z] at h1
    have:=Int.zero_dvd.mp h1
    omega
  refine Decidable.byContradiction λz=>hb ?_
  have e:=Zmd h (show (1:Int)<(Int.gcd b p:Int) by omega) h1
  rw[e] at h2
  exact h2
end M2
namespace M3
theorem ZbN{a b c:Int}(h1:Int.gcd a c=1)(h2:Int.gcd b c=1):Int.gcd (a*b) c=1:=by
  rw[Int.gcd_eq_natAbs_gcd_natAbs] at *
  rw[Qf]
  exact Nat.Coprime.mul_left h1 h2
theorem ZbO{a b:Int}(h:Int.gcd a b=1):Int.gcd b a=1:=by rw[Int.gcd_comm]; exact h
theorem ZbH{a b c:Int}(h1:Int.gcd c a=1)(h2:Int.gcd c b=1):Int.gcd c (a*b)=1:=ZbO (ZbN (ZbO h1) (ZbO h2))
theorem ZhJ{a b c:Int}(h:Int.gcd (a*b) c=1):Int.gcd a c=1:=by
  rw[Int.gcd_eq_natAbs_gcd_natAbs] at *
  rw[Qf] at h
  exact Nat.Coprime.coprime_dvd_left ⟨b.natAbs,rfl⟩ h
theorem Zck{a b c:Int}(h:Int.gcd (a*b) c=1):Int.gcd b c=1:=ZhJ (b:=a) (by rw[Qj]; exact h)
theorem Znx{a b c:Int}(h:Int.gcd c (a*b)=1):Int.gcd c a=1:=ZbO (ZhJ (ZbO h))
theorem ZcB{a b c:Int}(h:Int.gcd c (a*b)=1):Int.gcd c b=1:=ZbO (Zck (ZbO h))
theorem Zgi{a b:Int}(hb:Int.gcd a b≠0):∃x y:Int,a=(Int.gcd a b:Int)*x/\b=(Int.gcd a b:Int)*y/\Int.gcd x y=1:=by
  obtain ⟨x,hx⟩:=Ws a b
  obtain ⟨y,hy⟩:=W2 a b
  refine ⟨x,y,hx,hy,?_⟩
  have e:Int.gcd ((Int.gcd a b:Int)*x) ((Int.gcd a b:Int)*y)=Int.gcd a b*Int.gcd x y:=by
    rw[Int.gcd_mul_left]
    simp
  rw[<-hx,<-hy] at e
  have e2:Int.gcd a b*Int.gcd x y=Int.gcd a b*1:=by omega
  exact Nat.eq_of_mul_eq_mul_left (Ud hb) e2
theorem gcd_ne{a b:Int}(h:b≠0):Int.gcd a b≠0:=λz=>h (Int.gcd_eq_zero_iff.mp z).2
theorem Zbk{g x:Int}(hg:g≠0):(g*x).fdiv g=x:=Int.mul_fdiv_cancel_left x hg
theorem Zec{g x:Int}(hg:0<g)(h:0<g*x):0<x:=by
  refine Uq λz=>?_
  have:=Up (Int.le_of_lt hg) (show 0 <= -x by omega)
  rw[Wo] at this
  omega
theorem low{t b:Int}(hb:0<b):Int.gcd (t.fdiv (Int.gcd t b)) (b.fdiv (Int.gcd t b))=1/\0<b.fdiv (Int.gcd t b)/\t.fdiv (Int.gcd t b)*b=t*b.fdiv (Int.gcd t b) ∧
    (t.fdiv (Int.gcd t b)).natAbs<=t.natAbs/\(b.fdiv (Int.gcd t b)).natAbs<=b.natAbs:=by
  have hg:=gcd_ne (a:=t) (b:=b) (by omega)
  obtain ⟨x,y,hx,hy,c⟩:=Zgi hg
  generalize Int.gcd t b=g at *
  have hg':(g:Int)≠0:=by omega
  subst hx hy
  rw[Zbk hg',Zbk hg']
  have yp:=Zec (show (0:Int)<g by omega) hb
  refine ⟨c,yp,by ac_rfl,?_,?_⟩
  · rw[Qf]; exact Uo _ (by omega)
  · rw[Qf]; exact Uo _ (by omega)
theorem Ziy(g x:Int)(hg:g≠0):x.natAbs<=(g*x).natAbs:=by
  rw[Qf]; exact Uo _ (by omega)
theorem plus_ok{a1 b1 a2 b2:Int}(h1:0<b1)(h2:0<b2)(c1:Int.gcd a1 b1=1)(c2:Int.gcd a2 b2=1){top:Int}
    (ht:top=a1*b2.fdiv (Int.gcd b1 b2)+a2*b1.fdiv (Int.gcd b1 b2)) :
    Int.gcd top (Int.gcd b1 b2)≠0/\0<b1.fdiv (Int.gcd b1 b2)*b2.fdiv (Int.gcd top (Int.gcd b1 b2)) ∧
    Int.gcd (top.fdiv (Int.gcd top (Int.gcd b1 b2))) (b1.fdiv (Int.gcd b1 b2)*b2.fdiv (Int.gcd top (Int.gcd b1 b2)))=1 ∧
    top.fdiv (Int.gcd top (Int.gcd b1 b2))*(b1*b2)=(a1*b2+a2*b1)*(b1.fdiv (Int.gcd b1 b2)*b2.fdiv (Int.gcd top (Int.gcd b1 b2))):=by
  have hg:=gcd_ne (a:=b1) (b:=b2) (by omega)
  obtain ⟨p,q,hp,hq,cpq⟩:=Zgi hg
  generalize hG:Int.gcd b1 b2=g at *
  have hg':(g:Int)≠0:=by omega
  have e1:b1.fdiv g=p:=by rw[hp]; exact Zbk hg'
  have e2:b2.fdiv g=q:=by rw[hq]; exact Zbk hg'
  rw[e1,e2] at ht
  rw[e1]
  have hl:=gcd_ne (a:=top) (b:=(g:Int)) hg'
  obtain ⟨t,r,ht2,hr,ctr⟩:=Zgi hl
  generalize hL:Int.gcd top g=l at *
  have hl':(l:Int)≠0:=by omega
  have e3:top.fdiv l=t:=by rw[ht2]; exact Zbk hl'
  have e4:b2=l*(r*q):=by rw[hq,hr]; ac_rfl
  have e5:b2.fdiv l=r*q:=by rw[e4]; exact Zbk hl'
  rw[e3,e5]
  have pp:0<p:=Zec (show (0:Int)<g by omega) (by rw[<-hp]; exact h1)
  have rq:0<r*q:=Zec (show (0:Int)<l by omega) (by rw[<-e4]; exact h2)
  have tp:Int.gcd top p=1:=by
    rw[ht,Int.gcd_add_mul_right_left]
    exact ZbN (ZcB (a:=g) (by rw[<-hp]; exact c1)) (ZbO cpq)
  have tq:Int.gcd top q=1:=by
    rw[ht,Int.add_comm,Int.gcd_add_mul_right_left]
    exact ZbN (ZcB (a:=g) (by rw[<-hq]; exact c2)) cpq
  rw[ht2] at tp tq
  refine ⟨hl,Qk pp rq,ZbH (Zck tp) (ZbH ctr (Zck tq)),?_⟩
  have k1:a1*b2+a2*b1=g*(l*t):=by
    rw[<-ht2,ht,Int.mul_add,hp,hq]
    congr 1 <;> ac_rfl
  rw[k1,hp,hq]
  have k2:(g:Int)*(l*t)*(p*(r*q))=g*t*p*q*(l*r):=by ac_rfl
  rw[k2,<-hr]
  ac_rfl
theorem times_ok{a1 b1 a2 b2:Int}(h1:0<b1)(h2:0<b2)(c1:Int.gcd a1 b1=1)(c2:Int.gcd a2 b2=1) :
    0<b1.fdiv (Int.gcd a2 b1)*b2.fdiv (Int.gcd a1 b2) ∧
    Int.gcd (a1.fdiv (Int.gcd a1 b2)*a2.fdiv (Int.gcd a2 b1)) (b1.fdiv (Int.gcd a2 b1)*b2.fdiv (Int.gcd a1 b2))=1 ∧
    a1.fdiv (Int.gcd a1 b2)*a2.fdiv (Int.gcd a2 b1)*(b1*b2)=a1*a2*(b1.fdiv (Int.gcd a2 b1)*b2.fdiv (Int.gcd a1 b2)):=by
  have hf:=gcd_ne (a:=a1) (b:=b2) (by omega)
  have hr:=gcd_ne (a:=a2) (b:=b1) (by omega)
  obtain ⟨x,y,hx,hy,cxy⟩:=Zgi hf
  obtain ⟨z,w,hz,hw,czw⟩:=Zgi hr
  generalize Int.gcd a1 b2=f at *
  generalize Int.gcd a2 b1=r at *
  have hf':(f:Int)≠0:=by omega
  have hr':(r:Int)≠0:=by omega
  have e1:a1.fdiv f=x:=by rw[hx]; exact Zbk hf'
  have e2:b2.fdiv f=y:=by rw[hy]; exact Zbk hf'
  have e3:a2.fdiv r=z:=by rw[hz]; exact Zbk hr'
  have e4:b1.fdiv r=w:=by rw[hw]; exact Zbk hr'
  rw[e1,e2,e3,e4]
  have yp:=Zec (show (0:Int)<f by omega) (by rw[<-hy]; exact h2)
  have wp:=Zec (show (0:Int)<r by omega) (by rw[<-hw]; exact h1)
  rw[hx,hw] at c1
  rw[hz,hy] at c2
  refine ⟨Qk wp yp,ZbN (ZbH (ZcB (Zck c1)) cxy) (ZbH czw (ZcB (Zck c2))),?_⟩
  rw[hx,hy,hz,hw]
  ac_rfl
theorem fdiv_le{a:Int}{g:Int}(h:g ∣ a)(hg:g≠0):(a.fdiv g).natAbs<=a.natAbs:=by
  obtain ⟨x,rfl⟩:=h
  rw[Zbk hg]
  exact Ziy g x hg
end M3
namespace L2
open PySem PySem.Spec PyProof.Rows
structure XCls (K:PySem.W.Frag) (C:Addr):Prop where
  ga:PySem.W.findIn K (.ref C) "__getattribute__" = some (some (.builtin "BaseException.__getattribute__"))
  ha:PySem.W.findIn K (.ref C) "__getattr__" = some none
  cl:PySem.W.findIn K (.ref C) "__class__" = some (some (.builtin "object.__class__"))
  hn:PySem.W.specialIn K (.builtin "object.__class__") "__get__" = some (some (.builtin "getset_descriptor.__get__"))
  tk:PySem.W.takesIn K (.builtin "object.__class__")=some true
  ob:PySem.W.mroIn K C (.type "object")=some true
  be:PySem.W.mroIn K C (.type "BaseException")=some true
  hd:PySem.W.hasDictIn K C=true
section
variable{prog:Program}{w:World}{A:Around}{E:Value->Shared->Prop}{s:Shared}{K:PySem.W.Frag}{x C:Addr}{ox:Obj}{od:Option Obj}
theorem ZgT{K:PySem.W.Frag}{C:Addr}{od:Option Obj}{name:Str}{a g:Value}(hc:(PySem.W.clsIn K C).isSome=true)(ha:PySem.W.findIn K (.ref C) name=some (some a))(hg:PySem.W.specialIn K a "__get__" = some (some g)) (ht:PySem.W.takesIn K a=some true) :
    PySem.W.findObj K C od name=some (.bind g a):=by
  obtain ⟨cd,hc⟩:=Option.isSome_iff_exists.mp hc
  unfold PySem.W.findObj
  rw[hc,Option.bind_some,ha,Option.bind_some]
  simp[hg,ht]
theorem Zjn(c:XCls K C){tk:Tok}{R:Result->Shared->Prop}(X:K.In s.heap)(I:PySem.W.InstAt s.heap x ox C od)(h:R (.ok (.ret (.ref C))) s) :
    codeAny (model prog w) A (.call (.builtin "BaseException.__getattribute__") ⟨[.ref x,.str "__class__" tk],[]⟩) R s:=by
  have hf:PySem.W.findObj K C od "__class__" = some (.bind (.builtin "getset_descriptor.__get__") (.builtin "object.__class__")):=ZgT (by obtain ⟨cd,hc,_⟩:=PySem.W.any_some c.hd; rw[hc]; rfl) c.cl c.hn c.tk
  obtain ⟨hh,gg,d,t,os⟩:=s
  have L0:=I.type (M:=model prog w)
  have LF:=PySem.W.looks_find (M:=model prog w) X I hf
  have LB:PySem.W.Looks (model prog w) hh (isInstance (.ref x) (.type "BaseException")) true:=L0.andThen (PySem.W.looks_mroIn X c.be)
  have LG:=PySem.W.looks_mroIn (M:=model prog w) X c.be
  refine codeAny_call_builtin F.excAttr_ValueError.ga.plain F.entry_bexc_ga ?_
  have hk:builtinKind "BaseException.__getattribute__" = some .slot:=by decide +kernel
  have hsplit:splitId "BaseException.__getattribute__" = some ("BaseException", "__getattribute__"):=by decide +kernel
  have ha:=F.args_bexc_ga (.ref x) (.str "__class__" tk)
  simp only[checkBuiltinCall,hk,hsplit]
  refine wpAny_bind (LB.at ?_)
  simp only[Bool.not_true,Bool.false_eq_true,if_false]
  refine wpAny_of_eq ha ?_
  refine wpAny_bind (wpAny_pure (wpAny_bind (wpAny_pure (wpAny_bind (L0.at (wpAny_bind (LF.at ?_)))))))
  show wpAny _ _ (holding [Value.builtin "object.__class__"] (call (.builtin "getset_descriptor.__get__") [.builtin "object.__class__", .ref x,.ref C]) >>= ret) _ _ _
  exact wpAny_bind (wpAny_holding (wpAny_call (PySem.W.class_get (s:=⟨hh,gg,d,t,os⟩) X I c.ob (wpAny_pure h))))
theorem Zjo(c:XCls K C){Q:Option Value->Shared->Prop}(X:K.In s.heap)(I:PySem.W.InstAt s.heap x ox C od)(h:Q (some (.ref C)) { s with toks:=s.toks+1 }):wpAny (model prog w) A (getAttr? (.ref x) "__class__") Q E s:=by
  have L0:=I.type (M:=model prog w)
  have L1:=PySem.W.looks_findIn (M:=model prog w) X c.ga
  have L3:=PySem.W.looks_findIn (M:=model prog w) X c.ha
  obtain ⟨hh,g,d,t,os⟩:=s
  unfold getAttr? getAttrBy? getAttrBy
  refine wpAny_bind (wpAny_mkText (wpAny_bind (wpAny_attempt (wpAny_holding (wpAny_bind (L0.at (wpAny_bind (L1.at ?_))))))))
  show wpAny _ _ (getAttrByItsOwn _ _ _ _ _ _) _ _ _
  unfold getAttrByItsOwn
  refine wpAny_bind (L3.at ?_)
  refine wpAny_bind (wpAny_attempt (wpAny_holding ?_))
  show wpAny _ _ (boundAndCalled _ _ _) _ _ _
  unfold boundAndCalled
  refine wpAny_bind (wpAny_of_eq (F.excAttr_ValueError.ga.bind (.ref x)) ?_)
  refine wpAny_call (Zjn (s:=⟨hh,g,d,t+1,os⟩) c X I ?_)
  exact PySem.W.handed_on rfl (wpAny_pure h)
theorem ZkD(c:XCls K C):PySem.W.KitX K (.ref x) (.ref C) (λh=>∃ox od,PySem.W.InstAt h x ox C od) where
  ty:=λ_ _ _ ⟨_,_,I⟩=>I.type
  it:=λ_ _ X _=>by
    obtain ⟨cdD,hcD,_⟩:=PySem.W.any_some c.hd
    unfold PySem.W.clsIn at hcD
    split at hcD
    · rename_i c' d' cd' sl' ho
      intro A' Q' E' s' k q
      unfold isType loadHead
      exact wpAny_bind (wpAny_loadPart (k _ _ (X _ _ ho)) (wpAny_pure q))
    · cases hcD
  ne:=λh tp dd its n sl X htp=>by
    obtain ⟨cdD,hcD,_⟩:=PySem.W.any_some c.hd
    refine Bool.eq_false_iff.mpr λq=>?_
    have e:C=tp:=Value.ref.inj (beq_iff_eq.mp q)
    subst e
    unfold PySem.W.clsIn at hcD
    split at hcD
    · rename_i c' d' cd' sl' ho
      exact nomatch (X _ _ ho).symm.trans htp
    · cases hcD
  ca:=λX ⟨_,_,I⟩ k=>Zjo c X I k
end
end L2
namespace L2
open PySem PySem.Spec PyProof.Rows
def Tr(h B:Heap)(e:Addr)(cls a0:Value)(dd:Option Addr)(fl:Value):Prop :=
  ∃oe vs T oT ts,h.get? e=some oe/\oe.cls=cls/\oe.dict=dd/\oe.data = .fields vs/\vs[0]?=some a0/\vs[1]?=some (.ref T)/\B.get? T=none/\T≠e/\h.get? T=some oT/\oT.data = .fields ts/\ts[3]?=some fl
theorem ZeL(o:Obj)(f):(o.mapFields f).dict=o.dict:=by
  obtain ⟨c,d,dt,sl⟩:=o
  cases dt <;> rfl
theorem Zb5{h:Heap}{a:Addr}{o:Obj}{vs:Array Value}(f:Array Value->Array Value)(ho:h.get? a=some o)(hd:o.data = .fields vs):h.UpToSlots (h.update a (Obj.mapFields f)):=λb u e n =>
  ⟨u.slots,by
    rw[Heap.get?_update_other _ _ λz=>by subst z; rw[ho] at e; cases e; exact n vs hd]
    exact e⟩
theorem Zc5{h h' B:Heap}{l:List Env}(u:h.UpToSlots h')(f:h.FunFrames B l):h'.FunFrames B l:=f.of_keeps λb o e n=>let ⟨sl,q⟩:=u b o e n; ⟨_,q,rfl⟩
section
variable{M:Model}{A:Around}{E:Value->Shared->Prop}{s:Shared}{B:Heap}{env:Env}{outer:List Env}{L e:Addr}{oe:Obj}{vs:Array Value}{cls a0:Value}{dd:Option Addr}{Q:Unit->Shared->Prop}
theorem Zgj{hd0:Value}{hn:Bool}(hfr:A.frames=some (env::outer))(fl:s.heap.FunFrames B (env::outer))(hf:env.frame=some L)(he:s.heap.get? e=some oe)(st:B.StaysIn s.heap)(nb:B.get? e=none)(hd:oe.data = .fields vs)
    (h0:vs[0]?=some a0) (hz:1<vs.size) (k:∀h',B.StaysIn h'->h'.FunFrames B (env::outer)->Tr h' B e oe.cls a0 oe.dict (rawInt L)->s.heap.UpToSlots h'->Q () { s with heap:=h' }) :
    wpAny M A (do let a ← frameOf env; let pl ← entryPlaceOf L hn; let b ← EntryCells.newEntry hd0 a .none (rawInt L) .none pl; setField (.ref e) 1 b) Q E s:=by
  have notf:e∉(env::outer).filterMap (·.frame):=λhm=>by
    obtain ⟨_,o,ho,n⟩:=fl.mem hm
    rw[he] at ho; cases ho; exact n vs hd
  refine wpAny_bind (wpAny_frameOf_fun hfr fl hf λh1 so=>wpAny_bind (wpAny_entryPlaceOf λpl hpl=>?_))
  have u1:s.heap.UpToSlots h1:=λb o q _=>so.2.2 b o q
  have st1:B.StaysIn h1:=λb o q=>(so.2.1 b λhm=>by rw[(fl.mem hm).1] at q; cases q).trans (st b o q)
  have he1:h1.get? e=some oe:=(so.2.1 e notf).trans he
  unfold EntryCells.newEntry newFields
  refine wpAny_bind (wpAny_newObj_type ?_ (hpl.sizeOk5 _ _ _ _ _))
  generalize ht:([hd0,Value.ref L,.none,rawInt L,.none]++(if pl.isEmpty then List.replicate 6 Value.none else pl)).toArray=ts
  have ht3:ts[3]?=some (rawInt L):=by rw[<-ht]; simp
  have he2:=Heap.get?_push_of_some (h:=h1) { cls:=.type "traceback", dict:=none,data:=.fields ts } he1
  refine wpAny_setField he2 hd hz (k _ ?_ ?_ ?_ ?_)
  · intro b o q
    rw[Heap.get?_update_other _ _ λz=>by subst z; rw[nb] at q; cases q]
    exact Heap.get?_push_of_some _ (st1 b o q)
  · exact Zc5 ((u1.trans (.of_keeps λb o q=>Heap.get?_push_of_some _ q)).trans (Zb5 _ he2 hd)) fl
  · have nT:h1.objs.size≠e:=Ul (Heap.lt_size he1)
    refine ⟨_,_,h1.objs.size,{ cls:=.type "traceback", dict:=none,data:=.fields ts },ts,Heap.get?_update_self _ he2 (Obj.isFreed_of_fields (Obj.data_mapFields hd _)),Obj.cls_mapFields _ _,ZeL _ _,Obj.data_mapFields hd _,?_,?_,st1.fresh,nT,?_,rfl,ht3⟩
    · rw[Array.getElem?_setIfInBounds_ne (by decide)]; exact h0
    · simp[hz]
    · rw[Heap.get?_update_other _ _ (Ne.symm nT)]
      exact Heap.get?_push_size h1 rfl
  · exact (u1.trans (.of_keeps λb o q=>Heap.get?_push_of_some _ q)).trans (Zb5 _ he2 hd)
theorem Ziz(hfr:A.frames=some (env::outer))(fl:s.heap.FunFrames B (env::outer))(hf:env.frame=some L)(he:s.heap.get? e=some oe)(st:B.StaysIn s.heap)(nb:B.get? e=none)(hd:oe.data = .fields vs)
    (h0:vs[0]?=some a0) (h1:vs[1]?=some .none) (k:∀h',B.StaysIn h'->h'.FunFrames B (env::outer)->Tr h' B e oe.cls a0 oe.dict (rawInt L)->s.heap.UpToSlots h'->Q () { s with heap:=h' }) :
    wpAny M A (noteFrame (.ref e) env) Q E s:=by
  unfold noteFrame
  simp only[hf]
  refine wpAny_bind (wpAny_field he hd h1 ?_)
  rw[if_neg (by decide)]
  exact Zgj hfr fl hf he st nb hd h0 (Array.getElem?_eq_some_iff.mp h1).1 k
theorem Zjp(hfr:A.frames=some (env::outer))(fl:s.heap.FunFrames B (env::outer))(hf:env.frame=some L)(tr:Tr s.heap B e cls a0 dd .none)(st:B.StaysIn s.heap)(nb:B.get? e=none)
    (k:∀h',B.StaysIn h'->h'.FunFrames B (env::outer)->Tr h' B e cls a0 dd (rawInt L)->s.heap.UpToSlots h'->Q () { s with heap:=h' }):wpAny M A (noteFrame (.ref e) env) Q E s:=by
  obtain ⟨oe,vs,T,oT,ts,he,rfl,rfl,hd,h0,h1,nT,hTe,hT,hdT,h3⟩:=tr
  unfold noteFrame
  simp only[hf]
  refine wpAny_bind (wpAny_field he hd h1 ?_)
  rw[if_pos (show (Value.ref T != Value.none)=true from by simp)]
  refine wpAny_bind (wpAny_field hT hdT h3 ?_)
  rw[if_neg (show ¬((Value.none==rawInt L)=true) from by simp[rawInt])]
  have u:=Zb5 (·.setIfInBounds 3 Value.none) hT hdT
  refine wpAny_bind (wpAny_setField hT hdT (Array.getElem?_eq_some_iff.mp h3).1 (Zgj (s:={ s with heap:=s.heap.update T (Obj.mapFields (·.setIfInBounds 3 Value.none)) }) hfr (Zc5 u fl) hf (by rw[Heap.get?_update_other _ _ hTe]; exact he) (λb o q=>?_) nb hd h0 (Array.getElem?_eq_some_iff.mp h1).1 λh' a b c d=>k h' a b c (u.trans d)))
  rw[Heap.get?_update_other _ _ λz=>by subst z; rw[nT] at q; cases q]
  exact st b o q
theorem ZkE{fl0:Value}{l:List Env}(fl:s.heap.FunFrames B l)(tr:Tr s.heap B e cls a0 dd fl0)(st:B.StaysIn s.heap)
    (k:∀h',B.StaysIn h'->h'.FunFrames B l->Tr h' B e cls a0 dd .none->s.heap.UpToSlots h'->Q () { s with heap:=h' }):wpAny M A (setFlight (.ref e) none) Q E s:=by
  obtain ⟨oe,vs,T,oT,ts,he,rfl,rfl,hd,h0,h1,nT,hTe,hT,hdT,h3⟩:=tr
  have h3':3<ts.size:=(Array.getElem?_eq_some_iff.mp h3).1
  have u:=Zb5 (·.setIfInBounds 3 ((none:Option Addr).elim Value.none λf=>rawInt f)) hT hdT
  unfold setFlight
  refine wpAny_bind (wpAny_field he hd h1 ?_)
  rw[if_pos (show (Value.ref T != Value.none)=true from by simp)]
  refine wpAny_setField hT hdT h3' (k _ (λb o q=>?_) (Zc5 u fl) ⟨oe,vs,T,_,_,?_,rfl,rfl,hd,h0,h1,nT,hTe,Heap.get?_update_self _ hT (Obj.isFreed_of_fields (Obj.data_mapFields hdT _)),Obj.data_mapFields hdT _,by simp[h3']⟩ u)
  · rw[Heap.get?_update_other _ _ λz=>by subst z; rw[nT] at q; cases q]
    exact st b o q
  · rw[Heap.get?_update_other _ _ hTe]; exact he
end
end L2
namespace L2
open PySem PySem.Spec PyProof.Rows
structure Air (P:Program) (w:World) (B:Heap) (l:List Env) (H:Hp) (h:Heap) (e t:Addr) (cls:Value) (dd:Option Addr) (fl:Value):Prop where
  hok:HOk P w H h
  st:B.StaysIn h
  nb:B.get? e=none
  fr:h.FunFrames B l
  tr:Tr h B e cls (.ref t) dd fl
  tk:∀b u,H b=some u->∃o,B.get? b=some o
theorem Air.free{P:Program}{w:World}{B:Heap}{l:List Env}{H:Hp}{h:Heap}{e t:Addr}{cls:Value}{dd:Option Addr}{fl:Value}(a:Air P w B l H h e t cls dd fl):H e=none:=by
  cases q:H e with
  | none=>rfl
  | some u=>obtain ⟨o,z⟩:=a.tk e u q; rw[a.nb] at z; cases z
theorem Zjq{P:Program}{w:World}{B:Heap}{H:Hp}{h h':Heap}(x:HOk P w H h)(st:B.StaysIn h)(st':B.StaysIn h')(tk:∀b u,H b=some u->∃o,B.get? b=some o):HOk P w H h':=λa o e =>
  (x a o e).stay (λb u hb q=>by
    have:∃v,H b=some v:=by
      rcases hb with rfl | hb
      · exact ⟨o,e⟩
      · exact ⟨_,hb⟩
    obtain ⟨v,hv⟩:=this
    obtain ⟨ob,z⟩:=tk b v hv
    have e2:=(st b ob z).symm.trans q
    cases e2
    exact st' b _ z) (λ_ q=>q) λ_ _ q=>q
def CXx(P:Program)(w:World):CXT:=λouter H s E ev s' =>
  ∃(e t:Addr) (cls:Value) (dd:Option Addr) (H':Hp) (B:Heap),ev = .ref e/\s'.os=s.os/\AllBare s'.gens/\Un (frs outer) [] H H' s.heap s'.heap/\Air P w B outer H' s'.heap e t cls dd .none ∧
    (∀b o,s.heap.get? b=some o->H b=none->b∉frs outer->B.get? b=some o)/\(∀b o,s.heap.get? b=some o->b∉frs outer->∃o',B.get? b=some o')/\E cls dd H'
section
variable{M:Model}{A:Around}{E:Value->Shared->Prop}{s:Shared}{P:Program}{w:World}{B:Heap}{env:Env}{outer:List Env}{H:Hp}{L e t:Addr}{cls:Value}{dd:Option Addr}{fl:Value}{Q:Unit->Shared->Prop}{B0:Heap}
theorem Air.note(a:Air P w B (env::outer) H s.heap e t cls dd .none)(hfr:A.frames=some (env::outer))(hf:env.frame=some L)(k:∀h',Air P w B (env::outer) H h' e t cls dd (rawInt L)->s.heap.UpToSlots h'->Q () { s with heap:=h' }) :
    wpAny M A (noteFrame (.ref e) env) Q E s :=
  Zjp hfr a.fr hf a.tr a.st a.nb λh' st fr tr up=>k h' ⟨Zjq a.hok a.st st a.tk,st,a.nb,fr,tr,a.tk⟩ up
theorem Air.off{l:List Env}(a:Air P w B l H s.heap e t cls dd fl)(k:∀h',Air P w B l H h' e t cls dd .none->s.heap.UpToSlots h'->Q () { s with heap:=h' }):wpAny M A (setFlight (.ref e) none) Q E s :=
  ZkE a.fr a.tr a.st λh' st fr tr up=>k h' ⟨Zjq a.hok a.st st a.tk,st,a.nb,fr,tr,a.tk⟩ up
theorem Air.leave(a:Air P w B (env::outer) H s.heap e t cls dd .none)(hfr:A.frames=some (env::outer))(hf:env.frame=some L)(k:∀h',Air P w B outer H h' e t cls dd .none->s.heap.UpToSlots h'->Q () { s with heap:=h' }) :
    wpAny M A (leaving env (.ref e)) Q E s:=by
  unfold leaving
  refine wpAny_bind (a.note hfr hf λh1 a1 u1=>?_)
  refine Air.off (s:={ s with heap:=h1 }) a1 λh2 a2 u2=>?_
  obtain ⟨_,_,fr⟩:=a2.fr
  exact k h2 ⟨a2.hok,a2.st,a2.nb,fr,a2.tr,a2.tk⟩ (u1.trans u2)
theorem Zme{s0:Heap}{vs:List Value}(hok:HOk P w H s0)(fl0:s0.FunFrames B0 (env::outer))(hm:Heap.MadeExcOf s0 s.heap e cls vs)(hn:∀b∈frs (env::outer),H b=none)(hfr:A.frames=some (env::outer))(hf:env.frame=some L)
    (k:∀h' t,Air P w (PySem.W.hideAll s0 (frs (env::outer))) (env::outer) H h' e t cls none (rawInt L)->s0.UpToSlots h'->Q () { s with heap:=h' }):wpAny M A (noteFrame (.ref e) env) Q E s:=by
  obtain ⟨t,he,_,_⟩:=hm.there
  have st0:(PySem.W.hideAll s0 (frs (env::outer))).StaysIn s0:=λb o q=>PySem.W.of_hideAll _ q
  have st:(PySem.W.hideAll s0 (frs (env::outer))).StaysIn s.heap:=λb o q=>hm.keeps b o (st0 b o q)
  have tk:∀b u,H b=some u->∃o,(PySem.W.hideAll s0 (frs (env::outer))).get? b=some o:=λb u q=>by
    have lt:=hok.lt q
    obtain ⟨o,ho⟩:∃o,s0.get? b=some o:=by
      have x:=hok b u q
      cases u with
      | lst xs=>obtain ⟨_,_,_,_,z⟩:=x; exact ⟨_,z⟩
      | tup xs=>obtain ⟨_,_,_,o,z,_⟩:=x; exact ⟨_,z⟩
      | dK kvs=>obtain ⟨_,_,_,_,o,_,_,z,_⟩:=x; exact ⟨_,z⟩
      | dT kvs=>obtain ⟨_,_,_,_,o,_,_,z,_⟩:=x; exact ⟨_,z⟩
      | set S n=>obtain ⟨o,_,_,_,z,_⟩:=x; exact ⟨_,z⟩
      | ins C dx fs=>obtain ⟨_,_,_,z,_⟩:=x; exact ⟨_,z⟩
      | own y=>obtain ⟨_,z⟩:=x; exact ⟨_,z⟩
      | xd fs=>obtain ⟨_,⟨_,_,_,z,_⟩,_⟩:=x; exact ⟨_,z⟩
      | rng lo hi=>obtain ⟨_,_,_,z⟩:=x; exact ⟨_,z⟩
      | frz ob v=>obtain ⟨z,_⟩:=x; exact ⟨_,z⟩
      | tbl ps=>exact ⟨_,(show s0.get? b=some _ from x)⟩
      | met f y=>exact ⟨_,(show s0.get? b=some _ from x)⟩
      | ext φ=>obtain ⟨_,⟨_,z⟩,_⟩:=x; exact ⟨_,z⟩
    exact ⟨o,PySem.W.hideAll_get _ ho λhm=>by rw[hn b hm] at q; cases q⟩
  have nb:(PySem.W.hideAll s0 (frs (env::outer))).get? e=none:=by
    cases q:(PySem.W.hideAll s0 (frs (env::outer))).get? e with
    | none=>rfl
    | some o=>have:=st0 e o q; rw[hm.new] at this; cases this
  have fl1:s0.FunFrames (PySem.W.hideAll s0 (frs (env::outer))) (env::outer):=PySem.W.funFrames_hide fl0 λx hx a ha=>List.mem_filterMap.mpr ⟨x,hx,ha⟩
  refine Ziz hfr (Zc5 (.of_keeps hm.keeps) fl1) hf he st nb rfl rfl rfl λh' st' fr tr up=>?_
  exact k h' t ⟨Zjq hok st0 st' tk,st',nb,fr,tr,tk⟩ ((Heap.UpToSlots.of_keeps hm.keeps).trans up)
end
end L2
namespace L2
open PySem PySem.Spec PyProof.Rows
theorem Zjr{env:Env}{outer:List Env}{L b:Addr}(hf:env.frame=some L):b∈frs (env::outer)↔b=L\/b∈frs outer:=by
  unfold frs
  rw[Uy,hf,Qh]
section
variable{X:Cx}{pins:List (Addr×Obj)}{σ:St}{H1 H2:Hp}{s1:Shared}{B h2 h3:Heap}
theorem ZgU(U:Un (frs X.stack) [] H1 H2 s1.heap h2)(fr:h2.FunFrames B X.stack)(up:h2.UpToSlots h3)(st:B.StaysIn h3)(in1:∀b o,s1.heap.get? b=some o->H1 b=none->b∉frs X.stack->B.get? b=some o)
    (in2:∀b o,s1.heap.get? b=some o->b∉frs X.stack->∃o',B.get? b=some o'):Un (frs X.stack) [] H1 H2 s1.heap h3 where
  keep:=λb o q n hb _=>st b o (in1 b o q n hb)
  slot:=λb o q n hb hx=>by
    obtain ⟨sl,e⟩:=U.slot b o q n hb hx
    obtain ⟨_,o',e',nf⟩:=fr.mem hb
    rw[e] at e'
    cases e'
    obtain ⟨sl',e2⟩:=up b _ e nf
    exact ⟨sl',e2⟩
  free:=U.free
  there:=λb o q hx=>by
    by_cases hb:b∈frs X.stack
    · obtain ⟨_,o',e',nf⟩:=fr.mem hb
      obtain ⟨sl,e2⟩:=up b _ e' nf
      exact ⟨_,e2⟩
    · obtain ⟨o',z⟩:=in2 b o q hb
      exact ⟨o',st b o' z⟩
  tups:=U.tups
  frzs:=U.frzs
  tbls:=U.tbls
theorem Zjs(I:Inv X pins σ H1 s1)(hx:X.ex=[])(hs:X.stack=X.env::X.outer)(hf:X.env.frame=some X.env.locals)(U:Un (frs X.stack) [] H1 H2 s1.heap h2)(fr:h2.FunFrames B X.stack)(up:h2.UpToSlots h3)(st:B.StaysIn h3)
    (in1:∀b o,s1.heap.get? b=some o->H1 b=none->b∉frs X.stack->B.get? b=some o) (in2:∀b o,s1.heap.get? b=some o->b∉frs X.stack->∃o',B.get? b=some o') :
    Un X.fs [] X.H₀ H2 X.s₀.heap h3/\(∀b o,X.s₀.heap.get? b=some o->X.H₀ b=none->b∉X.fs->B.get? b=some o)/\∀b o,X.s₀.heap.get? b=some o->b∉X.fs->∃o',B.get? b=some o':=by
  have V:=ZgU U fr up st in1 in2
  have ib:Un X.fs [] X.H₀ H1 X.s₀.heap s1.heap:=by have:=I.base; rw[hx] at this; exact this
  have ne:∀b o,X.s₀.heap.get? b=some o->b≠X.env.locals:=λb o q z=>by
    subst z
    exact absurd (Q6 (Heap.lt_size q) I.ok.above) (Qg _)
  have nm:∀b o,X.s₀.heap.get? b=some o->b∉X.fs->b∉frs X.stack:=λb o q hb z=>by
    rw[hs] at z
    rcases (Zjr hf).mp z with e | e
    · exact ne b o q e
    · exact hb e
  have sub:∀b,b∈X.fs->b∈frs X.stack:=λb hb=>by rw[hs]; exact (Zjr hf).mpr (.inr hb)
  refine ⟨⟨λb o q n hb hx=>?_,λb o q n hb hx=>?_,λb o q n hx=>?_,λb o q hx=>?_,λb xs q=>V.tups b xs (ib.tups b xs q),λb o u q=>V.frzs b o u (ib.frzs b o u q),λb ps q=>?_⟩,λb o q n hb=>?_,λb o q hb=>?_⟩
  · exact V.keep b o (ib.keep b o q n hb hx) (ib.free b o q n hx) (nm b o q hb) hx
  · obtain ⟨sl,e⟩:=ib.slot b o q n hb hx
    obtain ⟨sl',e'⟩:=V.slot b _ e (ib.free b o q n hx) (sub b hb) hx
    exact ⟨sl',e'⟩
  · obtain ⟨o',e⟩:=ib.there b o q hx
    exact V.free b o' e (ib.free b o q n hx) hx
  · obtain ⟨o',e⟩:=ib.there b o q hx
    exact V.there b o' e hx
  · obtain ⟨m1,e1⟩:=ib.tbls b ps q
    obtain ⟨m2,e2⟩:=V.tbls b _ e1
    exact ⟨m1++m2,by rw[e2,Array.append_assoc]⟩
  · exact in1 b o (ib.keep b o q n hb (by simp)) (ib.free b o q n (by simp)) (nm b o q hb)
  · obtain ⟨o',e⟩:=ib.there b o q (by simp)
    exact in2 b o' e (nm b o q hb)
end
section
variable{P:Program}{w:World}{K:PySem.W.Frag}{mg:Str->Option Value}{base:Heap}{N:List Str}{qual:Str}{scope:Scope}{f:Addr}{cd:Value}{A:Around}{outer:List Env}{s:Shared}{H:Hp}{E:XK}
abbrev cxX(P:Program)(w:World)(K:PySem.W.Frag)(mg:Str->Option Value)(base:Heap)(N:List Str)(qual:Str)(scope:Scope)(f:Addr)(cd:Value)(A:Around)(outer:List Env)(s:Shared)(H:Hp)(E:XK):Cx :=
  Zlg (CXx P w) P w K mg base N qual scope f cd A outer s H E
def ZgV(X:Cx)(E:St->XK):Prop:=∀(pins:List (Addr×Obj)) (σ:St) (H:Hp) (s:Shared) (e:Value) (s':Shared),Inv X pins σ H s->CXx X.prog X.w X.stack H s (E σ) e s'->X.xe e s'
theorem ZoB:ZgV (cxX P w K mg base N qual scope f cd A outer s H E) λ_=>E:=by
  intro pins σ H1 s1 ev s2 I h
  obtain ⟨e,t,cls,dd,H2,B,rfl,os,bare,U,a,in1,in2,q⟩:=h
  show wpAny (model P w) (A.deeper (envOfC qual scope s.heap.objs.size f cd)) (leaving (envOfC qual scope s.heap.objs.size f cd) (.ref e)) _ _ s2
  have hfr:=I.ok.frames
  refine Air.leave (L:=s.heap.objs.size) a hfr rfl λh3 a3 up=>?_
  obtain ⟨u,i1,i2⟩:=Zjs I rfl rfl rfl U a.fr up a3.st in1 in2
  exact ⟨e,t,cls,dd,H2,B,rfl,os.trans I.os,bare,u,a3,i1,i2,q⟩
theorem Zfo{X:Cx}:ZgV X λ_=>E0:=λ_ _ _ _ _ _ _ ⟨_,_,_,_,_,_,_,_,_,_,_,_,_,q⟩=>q.elim
def Zjt(X:Cx)(E:XK):Prop:=∀(pins:List (Addr×Obj)) (σ:St) (H:Hp) (s:Shared) (h':Heap) (e:Addr) (cls:Value) (vs:List Value),Inv X pins σ H s->Heap.MadeExcOf s.heap h' e cls vs->E cls none H->X.xe (.ref e) { s with heap:=h' }
theorem ZhK:Zjt (cxX P w K mg base N qual scope f cd A outer s H E) E:=by
  intro pins σ H1 s1 h' e cls vs I hm q
  show wpAny (model P w) (A.deeper (envOfC qual scope s.heap.objs.size f cd)) (leaving (envOfC qual scope s.heap.objs.size f cd) (.ref e)) _ _ _
  have hfr:=I.ok.frames
  unfold leaving
  refine wpAny_bind (Zme (s:={ s1 with heap:=h' }) I.hok I.stack hm I.stkFree hfr rfl λh2 t a2 u2=>?_)
  refine Air.off (s:={ s1 with heap:=h2 }) a2 λh3 a3 u3=>?_
  obtain ⟨_,_,fr⟩:=a3.fr
  have fr0:s1.heap.FunFrames (PySem.W.hideAll s1.heap (frs (cxX P w K mg base N qual scope f cd A outer s H E).stack)) (cxX P w K mg base N qual scope f cd A outer s H E).stack:=PySem.W.funFrames_hide I.stack λx hx a ha=>List.mem_filterMap.mpr ⟨x,hx,ha⟩
  obtain ⟨u,i1,i2⟩:=Zjs I rfl rfl rfl .refl fr0 (u2.trans u3) a3.st (λb o e _ hb=>PySem.W.hideAll_get _ e hb) (λb o e hb=>⟨o,PySem.W.hideAll_get _ e hb⟩)
  exact ⟨e,t,cls,none,H1,_,rfl,I.os,I.bare,u,⟨a3.hok,a3.st,a3.nb,fr,a3.tr,a3.tk⟩,i1,i2,q⟩
theorem Fun.okx{x qual:Str}{st:Stmt}{f:Addr}{fd:FuncData}{N ps:List Str}{k:Nat}{sp:Sp}(F:Fun K x qual st f fd)(S:FnScope N ps (Zah st))(len:∀vs H Q E,sp vs H Q E->vs.length=ps.length)
    (hbody:∀(cdv:Value) (A:Around) (outer:List Env) (s:Shared) (H:Hp) (vs:List V) (Q:VK) (E:XK),Room k (A.deeper (envOfC qual (Zah st) s.heap.objs.size f cdv))->sp vs H Q E →
      ∃t,PSs (cxX P w K mg base N qual (Zah st) f cdv A outer s H E) (Zbi st) t/\t { nx:=λ_ H'=>Q .non H',rt:=Q } (start N vs) H):FnOk P w K mg base (CXx P w) (k+1) f fd ps sp:=by
  obtain ⟨oc,od,kV,doc,pm,an,cdv,ct,osl,rfl,lk,hcd⟩:=F.ex
  exact Zkx lk hcd S len λA outer s H vs Q E hr hsp=>hbody cdv A outer s H vs Q E hr hsp
end
theorem PS.nox{X:Cx}{st:Stmt}{t:TS}(h:PS X.nox st t):PS X st t:=λpins s σ H D I hw =>
  wpAny_mono (h pins s σ H D (I.wish _) hw) (λ_ _ q=>q.unwish) λ_ _ z=>False.elim z
structure HasX (P:Program) (w:World) (K:PySem.W.Frag) (mg:Str->Option Value) (base:Heap) (x:Str) (k:Nat) (ps:List Str) (sp:Sp):Prop where
  ex:∃(f:Addr) (fd:FuncData),FnOk P w K mg base (CXx P w) k f fd ps sp/\mg x=some (.ref f)/\PySem.W.keepIn K (.ref f)=true/\Binds K fd ps []
structure HasMX (P:Program) (w:World) (K:PySem.W.Frag) (mg:Str->Option Value) (base:Heap) (C:Addr) (m:Str) (k:Nat) (ps:List Str) (dvs:List V) (sp:Sp):Prop where
  ex:∃(f:Addr) (fd:FuncData) (ds:List Value),FnOk P w K mg base (CXx P w) k f fd ps sp/\Meth K C m f/\Binds K fd ps ds/\Vals dvs ds
structure HasIX (P:Program) (w:World) (K:PySem.W.Frag) (mg:Str->Option Value) (base:Heap) (C:Addr) (k:Nat) (ps:List Str) (sp:Sp):Prop where
  ex:∃(f:Addr) (fd:FuncData),Mk K C f/\FnOk P w K mg base (CXx P w) k f fd ps sp/\Binds K fd ps []
section
variable{P:Program}{w:World}{K:PySem.W.Frag}{mg:Str->Option Value}{base:Heap}{x m qual:Str}{C:Addr}{st:Stmt}{j k:Nat}{ps:List Str}{dvs:List V}{sp:Sp}
theorem HasX.mono(h:HasX P w K mg base x j ps sp)(e:j<=k):HasX P w K mg base x k ps sp:=let ⟨f,fd,a,b,c,d⟩:=h.ex; ⟨f,fd,a.mono e,b,c,d⟩
theorem HasMX.mono(h:HasMX P w K mg base C m j ps dvs sp)(e:j<=k):HasMX P w K mg base C m k ps dvs sp:=let ⟨f,fd,ds,a,b,c,d⟩:=h.ex; ⟨f,fd,ds,a.mono e,b,c,d⟩
theorem HasIX.mono(h:HasIX P w K mg base C j ps sp)(e:j<=k):HasIX P w K mg base C k ps sp:=let ⟨f,fd,a,b,c⟩:=h.ex; ⟨f,fd,a,b.mono e,c⟩
theorem Here.hasX(h:Here K mg x st)(b:∀f fd,Fun K x x st f fd->Binds K fd ps [])(ok:∀f fd,Fun K x x st f fd->FnOk P w K mg base (CXx P w) k f fd ps sp):HasX P w K mg base x k ps sp :=
  let ⟨f,fd,F,m⟩:=h.ex
  ⟨f,fd,ok f fd F,m,F.kp,b f fd F⟩
theorem HereM.hasMX(h:HereM K C m qual st)(b:∀f fd,Fun K m qual st f fd->Binds K fd ps [])(ok:∀f fd,Fun K m qual st f fd->FnOk P w K mg base (CXx P w) k f fd ps sp):HasMX P w K mg base C m k ps [] sp :=
  let ⟨f,fd,F,M⟩:=h.ex
  ⟨f,fd,[],ok f fd F,M,b f fd F,.nil⟩
end
section
variable{X:Cx}{k:Nat}{f C:Addr}{fd:FuncData}{ps:List Str}{sp:Sp}{dvs:List V}{ds:List Value}{E:St->XK}{x m:Str}{p pos apos:Pos}{e o:Expr}{es:List Expr}{ta:TE}{t:TA}
theorem Zju{pins:List (Addr×Obj)}{σ:St}{H:Hp}{s:Shared}{Q:VK}{us:List Value}{vs:List V}(F:FnOk X.prog X.w X.K X.mg X.base (CXx X.prog X.w) k f fd ps sp)(hr:Room k X.A)(hb:Binds X.K fd ps ds)(hd:Vals dvs ds)(hx:ZgV X E)
    (I:Inv X pins σ H s) (r:Vals vs us) (h:sp (vs++dvs) H Q (E σ)):wpAny (model X.prog X.w) X.A (call (.ref f) us) (EP X pins σ Q) X.xe s:=by
  have r2:Vals (vs++dvs) (us++ds):=r.append hd
  have hl:(us++ds).length=ps.length:=by rw[<-r2.length]; exact F.len _ _ _ _ h
  refine wpAny_call (codeAny_mono (F.run X.A X.stack s H ⟨us,[]⟩ (us++ds) (vs++dvs) Q (E σ) hr I.env0 (hb s us I.kIn hl) r2 h) λr s' hq=>?_)
  cases r with
  | error e=>exact hx pins σ H s e s' I hq
  | ok fl =>
    cases fl with
    | ret u=>exact I.after hq
    | next=>exact False.elim hq
    | brk=>exact False.elim hq
    | cont=>exact False.elim hq
theorem Zfp(h:HasX X.prog X.w X.K X.mg X.base x k ps sp)(hx:ZgV X E)(hr:Room k X.A)(hg:Gl X x)(ha:PA X (e::es) t)(hdb:(x==("__debug__" : Str))=false:=by decide)
    (he:starEach (e::es) X.env=(false,eval e X.env)::starEach es X.env:=by rfl) (hpl:(backTo pos (starEach es X.env)).any (·.1)=false:=by rfl) :
    PE X (.Call (.Name x p) (e::es) [] pos) (λσ H Q=>t σ H λvs H1=>sp vs H1 Q (E σ)):=by
  obtain ⟨f,fd,F,hm,hk,hb⟩:=h.ex
  intro pins s σ H Q I h
  refine wpAny_Call_Name_kw (ZcN I hg hm ?_ hdb)
  refine PySem.W.callWith_K (h₀:=X.base) I.ok.mod.kin hk (thn (ha pos pins s σ H _ I h) λus s1 ⟨vs,H1,I1,r,q⟩=>⟨I1.kIn,?_⟩) he hpl
  exact Zju (dvs:=[]) F hr hb .nil hx I1 r (by rw[List.append_nil]; exact q)
def Zny(P:Program)(w:World)(K:PySem.W.Frag)(mg:Str->Option Value)(base:Heap)(m:Str)(k:Nat)(E:St->XK)(ta:TE)(t:TA):TE:=λσ H Q=>ta σ H λx H1=>∃a C dx fs ps dvs sp,x = .ref a/\H1 a=some (.ins C dx fs)/\Cls K C/\HasMX P w K mg base C m k ps dvs sp/\fs.lookup m=none ∧
  t σ H1 λvs H2=>sp (x::(vs++dvs)) H2 Q (E σ)
theorem Zb6{pl:Sem Bool}(he:PE X o ta)(hx:ZgV X E)(hr:Room k X.A)(ha:PA X (e::es) t)
    (hst:starEach (e::es) X.env=(false,eval e X.env)::starEach es X.env:=by rfl) (hpl:(backTo pos (starEach es X.env)).any (·.1)=false:=by rfl)
    (ht:eval (.Call (.Attribute o m apos) (e::es) [] pos) X.env=(do
      let ov ← eval o X.env
      standAt apos.atName
      let (f,first) ← holding [ov] (getMethod ov m pl)
      callWith pos f first (backTo pos (starEach (e::es) X.env)) (backToKw pos (keywordEach [] X.env))):=by rfl) :
    PE X (.Call (.Attribute o m apos) (e::es) [] pos) (Zny X.prog X.w X.K X.mg X.base m k E ta t):=by
  intro pins s σ H Q I h
  refine PySem.W.methodCall_KW (pl:=pl) (thn (he pins s σ H _ I h) λu s1 ⟨x,H1,I1,rx,a,C,dx,fs,ps,dvs,sp,ex,ea,c,hM,l,q⟩=>?_) ht
  subst ex
  obtain rfl:u=Value.ref a:=rx
  obtain ⟨f,fd,ds,F,hm,hb,hd⟩:=hM.ex
  refine ZeZ I1 ea c hm l ?_
  refine PySem.W.callWith_K (first:=[.ref a]) (h₀:=X.base) I.ok.mod.kin hm.kp (thn (ha pos pins s1 σ H1 _ I1 q) λus s2 ⟨vs,H2,I2,r,q2⟩=>⟨I2.kIn,?_⟩) hst hpl
  exact Zju (us:=.ref a::us) (vs:=.ref a::vs) F hr hb hd hx I2 (.cons rfl r) q2
end
end L2
namespace L2
open PySem PySem.Spec PyProof.Rows
abbrev bmV:List Value:=[.type "ValueError", .type "Exception", .type "BaseException", .type "object"]
structure ExcC (K:PySem.W.Frag) (mg:Str->Option Value) (x:Str) (C:Addr):Prop where
  cls:XCls K C
  mgx:mg x=some (.ref C)
  ein:PySem.W.excIn K C bmV "ValueError.__new__" = true
theorem ExcC.obj{K:PySem.W.Frag}{mg:Str->Option Value}{x:Str}{C:Addr}(c:ExcC K mg x C){h:Heap}(X:K.In h):OwnCls x C bmV "ValueError.__new__" mg h:=by
  refine ⟨c.mgx,?_⟩
  have q:=c.ein
  unfold PySem.W.excIn at q
  split at q
  · rename_i dd cd sl ho
    split at q
    · rename_i C' bm k0 k1 k2 k3 n k5 hm hs
      simp only[Bool.and_eq_true,beq_iff_eq,Bool.not_eq_true'] at q
      obtain ⟨⟨⟨⟨⟨rfl,rfl⟩,hdel⟩,ht⟩,hok⟩,hni⟩:=q
      obtain ⟨nm,bs,mro,ns,qn,hd,sn,sub,ab,col,del⟩:=cd
      dsimp only at hm hdel hok hni
      subst hm hdel
      obtain ⟨l⟩:=sl
      have hl:l=[k0,k1,k2,k3,some (.builtin "ValueError.__new__"),k5]:=hs
      subst hl
      exact ⟨bm,ns,nm,qn,bs,hd,sn,sub,ab,col,dd,k0,k1,k2,k3,k5,_,X _ _ ho,.of_isNs (PySem.W.isNs_of_in X hok),PySem.W.nsMap_none_of_in X hok hni,PySem.W.tail_of_in X ht⟩
    · cases q
  · cases q
section
variable{X:Cx}{k:Nat}{C:Addr}{ps:List Str}{sp:Sp}{x m:Str}{p pos np cpos:Pos}{e:Expr}{es:List Expr}{t:TA}
theorem ZdQ{E:XK}(c:ExcC X.K X.mg x C)(hR:Zjt X E)(hcalm:X.calm=true)(hg:Gl X x)(ha:PA X (e::es) t)(hl:(e::es).length<=1000:=by decide)
    (he:starEach (e::es) X.env=(false,eval e X.env)::starEach es X.env:=by rfl) (hpl:(backTo cpos (starEach es X.env)).any (·.1)=false:=by rfl) (hdb:(x==("__debug__" : Str))=false:=by decide) :
    PS X (.Raise (some (.Call (.Name x np) (e::es) [] cpos)) none pos) (λ_ σ H=>t σ H λvs H1=>vs.length<=1000/\E (.ref C) none H1):=by
  intro pins s σ H D I h
  obtain ⟨bm,N,nm,q,bs,hdct,sn,sub,ab,col,dd,k0,k1,k2,k3,k5,mN,hC,hN,hni,T⟩:=(c.obj I.mod.kin).obj
  refine wpAny_Raise_call_subT (C:=C) (nm:=nm) (q:=q) (N:=N) (bs:=bs) (bm:=bm) (hdct:=hdct) (sn:=sn) (sub:=sub) (ab:=ab) (col:=col) (dd:=dd) (k0:=k0) (k1:=k1) (k2:=k2) (k3:=k3) (k5:=k5) PySem.F.excBase_ValueError
    (mN:=mN) (T.hasType PySem.F.excBase_ValueError.hasBase) (I.ok.hd hcalm) (by rw[he]; show (false||(backTo cpos (starEach es X.env)).any (·.1))=false; rw[hpl]; rfl) hni (ZcN I hg c.mgx ⟨rfl,?_⟩ hdb)
  have z:=ha cpos pins s σ H _ I h
  rw[he] at z ⊢
  refine Calls.evalArgs_plain (wpAny_mono z (λus s2 ⟨vs,H2,I2,r,hv,q2⟩=>⟨rfl,?_,I2.bk _ _ hC,hN.keeps I2.bk,T.keeps I2.bk,λh' e' hm=>hR pins σ H2 s2 h' e' _ _ I2 hm q2⟩) λ_ _ y=>y)
  rw[<-r.length]
  exact Ub (Zc2 hv)
end
end L2
namespace L2
open PySem PySem.Spec PyProof.Rows
def Zmf(e C:Addr)(dd:Option Addr):HO:=.ext λh=>∃oe vs,h.get? e=some oe/\oe.cls = .ref C/\oe.dict=dd/\oe.data = .fields vs
section
variable{X:Cx}{pins:List (Addr×Obj)}{σ σ1:St}{H H1:Hp}{s s1:Shared}{e C:Addr}{dd:Option Addr}
theorem Inv.track(I:Inv X pins σ H s)(I1:Inv X pins σ1 H1 s1)(ne:s1.heap.get? e=none)(hn:H e=none){oe:Obj}{vs:Array Value}(he:s.heap.get? e=some oe)(hc:oe.cls = .ref C)(hd:oe.dict=dd)(hv:oe.data = .fields vs):Inv X pins σ (upd H e (Zmf e C dd)) s:=by
  have nx:∀b u,H b=some u->b≠e:=λb u q z=>by subst z; rw[hn] at q; cases q
  have nh:∀b o,s1.heap.get? b=some o->b≠e:=λb o q z=>by subst z; rw[ne] at q; cases q
  have ib:=I.base
  refine ⟨I.ok,I.os,I.bare,⟨ib.keep,ib.slot,λb o q n hx=>?_,ib.there,λb xs q=>?_,λb o u q=>?_,λb ps q=>?_⟩,I.loc,I.cell,?_,λx c q=>?_,λp hp=>?_,λb u q=>?_,I.len⟩
  · obtain ⟨o',z⟩:=I1.base.there b o q hx
    rw[Zau (nh b o' z)]
    exact ib.free b o q n hx
  · have z:=ib.tups b xs q
    rw[Zau (nx b _ z)]; exact z
  · have z:=ib.frzs b o u q
    rw[Zau (nx b _ z)]; exact z
  · obtain ⟨m,z⟩:=ib.tbls b ps q
    exact ⟨m,by rw[Zau (nx b _ z)]; exact z⟩
  · obtain ⟨m,⟨o,es,ep,z,_⟩,_⟩:=I1.loc
    rw[Zau (nh _ o z)]; exact I.free
  · obtain ⟨v,o,z,_⟩:=I1.cell x c q
    rw[Zau (nh _ o z)]; exact I.freeC x c q
  · obtain ⟨a,b,c,d,f⟩:=I.pin p hp
    exact ⟨a,by rw[Zau (nh _ _ (I1.pin p hp).1)]; exact b,c,d,f⟩
  · by_cases hb:b=e
    · subst hb
      rw[Zaf] at q
      cases q
      refine ⟨⟨oe,vs,he,hc,hd,hv⟩,⟨oe,he⟩,λh1 h2=>?_⟩
      rintro ⟨o1,v1,a,b,c,d⟩ k
      exact ⟨o1,v1,k _ a,b,c,d⟩
    · rw[Zau hb] at q
      exact (I.hok b u q).stay (λc v _ z=>z) (λc z=>by rw[Zau (nx c _ z)]; exact z) λc xs z=>by rw[Zau (nx c _ z)]; exact z
def Cx.suite(X:Cx)(e:Addr):Cx:={ X with A:=X.A.mark (some (.ref e)),calm:=false,xe:=λ_ _=>False }
theorem Inv.suite(I:Inv X pins σ H s)(e:Addr):Inv (X.suite e) pins σ H s :=
  ⟨⟨I.ok.mod,I.ok.kind,I.ok.glob,I.ok.blt,I.ok.above,I.ok.inj,I.ok.has,I.ok.cab,(λz=>nomatch z),I.ok.frames,I.ok.stk,I.ok.exf,I.ok.bs,I.ok.bsz,I.ok.noex,I.ok.exfs,I.ok.funs,I.ok.frf⟩,I.os,I.bare,I.base,I.loc,I.cell,I.free,I.freeC,I.pin,I.hok,I.len⟩
theorem Inv.unsuite(ok:X.Ok)(I:Inv (X.suite e) pins σ H s):Inv X pins σ H s:=⟨ok,I.os,I.bare,I.base,I.loc,I.cell,I.free,I.freeC,I.pin,I.hok,I.len⟩
abbrev Cx.tryB(X:Cx)(pn:List (Addr×Obj))(xe:Value->Shared->Prop):Cx:={ X with pn:=pn,xe:=xe }
theorem Inv.tryB(I:Inv X pins σ H s)(xe:Value->Shared->Prop):Inv (X.tryB (X.pn++pins) xe) [] σ H s :=
  ⟨⟨I.ok.mod,I.ok.kind,I.ok.glob,I.ok.blt,I.ok.above,I.ok.inj,I.ok.has,I.ok.cab,I.ok.hd,I.ok.frames,I.ok.stk,I.ok.exf,I.ok.bs,I.ok.bsz,I.ok.noex,I.ok.exfs,I.ok.funs,I.ok.frf⟩,I.os,I.bare,I.base,I.loc,I.cell,I.free,I.freeC,λp hp=>I.pin p (by rw[List.append_nil] at hp; exact hp),I.hok,I.len⟩
theorem Inv.untryB{xe:Value->Shared->Prop}{pins':List (Addr×Obj)}(ok:X.Ok)(I:Inv (X.tryB (X.pn++pins) xe) pins' σ H s):Inv X pins σ H s :=
  ⟨ok,I.os,I.bare,I.base,I.loc,I.cell,I.free,I.freeC,λp hp=>I.pin p (Uz _ hp),I.hok,I.len⟩
theorem Inv.drop{i:Nat}{n:Str}{h':Heap}{v:Option Value}{m:Str->Option Value}{t':Nat}(I:Inv X pins σ H s)(hN:X.N.Nodup)(hi:X.N[i]?=some n)(hm:s.heap.Ns X.env.locals m)
    (hl:∀(j:Nat) (x:Str) (u:V),X.N[j]?=some x->σ[j]?=some (some u)->Vis X.env.scope x->∃z,RelV u z/\Zo4 X.env s.heap m x z)
    (hn:h'.Ns X.env.locals (λx=>if x=n then v else m x)) (sb:Heap.SameBut X.env.locals s.heap h'):Inv X pins (σ.set i none) H { s with heap:=h',toks:=t' }:=by
  have keep:∀b o,b≠X.env.locals->s.heap.get? b=some o->h'.get? b=some o:=λb o hb q=>sb.extBut b o hb q
  have ne0:∀b o,X.s₀.heap.get? b=some o->b≠X.env.locals:=λb o q z=>by
    subst z
    exact absurd (Q6 (Heap.lt_size q) I.ok.above) (Qg _)
  have nt:∀b u,H b=some u->b≠X.env.locals:=λb u q z=>by subst z; rw[I.free] at q; cases q
  have ib:=I.base
  have hσ:i<σ.length:=by rw[I.len]; exact (Qi.mp hi).1
  refine ⟨I.ok,I.os,I.bare,⟨λb o q a c d=>keep b o (ne0 b o q) (ib.keep b o q a c d),λb o q a c d=>?_,ib.free,λb o q d=>?_,ib.tups,ib.frzs,ib.tbls⟩,⟨_,hn,λj x u a b c=>?_⟩,λx c q=>?_,I.free,I.freeC,λp hp=>?_,λb u q=>?_,?_⟩
  · obtain ⟨sl,z⟩:=ib.slot b o q a c d
    exact ⟨sl,keep b _ (ne0 b o q) z⟩
  · obtain ⟨o',z⟩:=ib.there b o q d
    exact ⟨o',keep b o' (ne0 b o q) z⟩
  · have hji:j≠i:=λz=>by
      subst z
      rw[List.getElem?_set_self hσ] at b
      cases b
    rw[List.getElem?_set_ne (Ne.symm hji)] at b
    obtain ⟨z,r,lk⟩:=hl j x u a b c
    have hxn:x≠n:=λz=>by
      subst z
      exact hji ((List.getElem?_inj (Qi.mp a).1 hN).mp (a.trans hi.symm))
    refine ⟨z,r,?_⟩
    rcases lk with ⟨k1,k2⟩ | ⟨k1,cc,k2,oc,k3,k4⟩
    · exact .inl ⟨k1,by show (if x=n then v else m x)=some z; rw[if_neg hxn]; exact k2⟩
    · exact .inr ⟨k1,cc,k2,oc,keep _ _ (I.cne x cc k2) k3,k4⟩
  · obtain ⟨v0,oc,k3,k4⟩:=I.cell x c q
    exact ⟨v0,oc,keep _ _ (I.cne x c q) k3,k4⟩
  · obtain ⟨a,b,c,d,f⟩:=I.pin p hp
    exact ⟨keep _ _ c a,b,c,d,f⟩
  · exact (I.hok b u q).stay (λc w hc z=>keep c w (by rcases hc with rfl | hc; exact nt _ _ q; exact nt _ _ hc) z) (λ_ z=>z) λ_ _ z=>z
  · rw[Wc]; exact I.len
theorem ZgW{prog:Program}{w:World}{A:Around}{E:Value->Shared->Prop}{K:PySem.W.Frag}{CE:Addr}{Q:Bool->Shared->Prop}{oe:Obj}(KX:K.In s.heap)(ht:PySem.W.typeIn K (.ref CE)=some (.type "type")) (hb:PySem.W.mroIn K CE (.type "BaseException")=some true)
    (hcl:(PySem.W.clsIn K CE).isSome=true) (hm:PySem.W.mroIn K C (.ref CE)=some true) (he:s.heap.get? e=some oe) (hc:oe.cls = .ref C) (h:Q true s):wpAny (model prog w) A (excMatches (.ref e) (.ref CE)) Q E s:=by
  obtain ⟨hh,g,d,tk,os⟩:=s
  have L1:=PySem.W.looks_typeIn (M:=model prog w) KX ht
  have L2:=PySem.W.looks_mroIn (M:=model prog w) KX hb
  have L3:=PySem.W.looks_mroIn (M:=model prog w) KX hm
  have L0:PySem.W.Looks (model prog w) hh (typeOf (.ref e)) (.ref C):=hc ▸ (PySem.W.Looks.ld he).andThen .now
  have f:=tc_notTuple
  have L4:PySem.W.Looks (model prog w) hh (isInstance (.ref CE) (.type "tuple")) false:=L1.andThen (PySem.W.Looks.of_pure f)
  have L5:PySem.W.Looks (model prog w) hh (isType (.ref CE)) true:=by
    obtain ⟨cd,z⟩:=Option.isSome_iff_exists.mp hcl
    unfold PySem.W.clsIn at z
    split at z
    · rename_i c' d' cd' sl' ho
      intro A' Q' E' s' k q
      unfold isType loadHead
      exact wpAny_bind (wpAny_loadPart (k _ _ (KX _ _ ho)) (wpAny_pure q))
    · cases z
  unfold excMatches
  refine wpAny_bind (m:=isInstance (.ref CE) (.type "tuple")) (L4.at ?_)
  refine wpAny_bind (m:=(pure [Value.ref CE]:Sem (List Value))) (wpAny_pure ?_)
  refine wpAny_bind ?_
  rw[List.forIn_cons]
  refine wpAny_bind (wpAny_bind (m:=isExcClass (.ref CE)) ?_)
  unfold isExcClass
  refine wpAny_bind (L5.at (L2.at ?_))
  refine wpAny_pure (wpAny_pure (a:=PUnit.unit) ?_)
  refine wpAny_bind (L0.at (wpAny_bind ?_))
  rw[List.forIn_cons]
  refine wpAny_bind (wpAny_bind (L3.at ?_))
  refine wpAny_pure (wpAny_pure (wpAny_pure h))
def Zli(K:PySem.W.Frag)(CE:Addr)(i:Nat)(ts:Addr->TS)(D:Ends):St->XK:=λσ1 cls dd H1=>∃C,cls = .ref C/\PySem.W.mroIn K C (.ref CE)=some true ∧
  ∀e,H1 e=none->ts e { nx:=λσ2 H2=>D.nx (σ2.set i none) H2,rt:=λ_ _=>False } (σ1.set i (some (.ref e))) (upd H1 e (Zmf e C dd))
def ZpG(K:PySem.W.Frag)(CE:Addr)(i:Nat)(tb:(St->XK)->List (Addr×Obj)->(Value->Shared->Prop)->TS)(ts:Addr->TS):TS:=λD σ H=>∀pn xe,tb (Zli K CE i ts D) pn xe D σ H
structure CatC (K:PySem.W.Frag) (mg:Str->Option Value) (x:Str) (CE:Addr):Prop where
  mgx:mg x=some (.ref CE)
  ty:PySem.W.typeIn K (.ref CE)=some (.type "type")
  be:PySem.W.mroIn K CE (.type "BaseException")=some true
  cl:(PySem.W.clsIn K CE).isSome=true
theorem Znz{body:List Stmt}{b₀:Stmt}{suite:List Stmt}{cx n:Str}{np hpos pos:Pos}{i:Nat}{CE:Addr}{tb:(St->XK)->List (Addr×Obj)->(Value->Shared->Prop)->TS}{ts:Addr->TS}(cE:CatC X.K X.mg cx CE)(hN:X.N.Nodup)(hi:X.N[i]?=some n)(hl:X.env.scope.names.lookup n=some .local)(hg:Gl X cx)
    (hb:∀(E:St->XK) (pn:List (Addr×Obj)) (xe:Value->Shared->Prop),ZgV (X.tryB pn xe) E->PSs (X.tryB pn xe) body (tb E pn xe)) (hs:∀e,PSs (X.suite e) (b₀::suite) (ts e))
    (hstk:X.stack=X.env::X.outer:=by rfl) (hf:X.env.frame=some X.env.locals:=by rfl) (hdb:(cx==("__debug__" : Str))=false:=by decide) :
    PS X (.Try body [.ExceptHandler (some (.Name cx np)) (some n) (b₀::suite) hpos] [] [] pos) (ZpG X.K CE i tb ts):=by
  intro pins s σ H D I h
  let EE:=Zli X.K CE i ts D
  let XE:Value->Shared->Prop:=λev s'=>∃σ1 H1 s1,Inv X pins σ1 H1 s1/\CXx X.prog X.w X.stack H1 s1 (EE σ1) ev s'
  have pass:ZgV (X.tryB (X.pn++pins) XE) EE:=λpins' σ1 H1 s1 ev s' I' h'=>⟨σ1,H1,s1,I'.untryB I.ok,h'⟩
  have back:∀f s',SP (X.tryB (X.pn++pins) XE) [] D f s'->SP X pins D f s':=λf s' q=>by
    cases f with
    | next=>obtain ⟨σ',H',J,q⟩:=q; exact ⟨σ',H',J.untryB I.ok,q⟩
    | brk=>obtain ⟨σ',H',J,q⟩:=q; exact ⟨σ',H',J.untryB I.ok,q⟩
    | cont=>obtain ⟨σ',H',J,q⟩:=q; exact ⟨σ',H',J.untryB I.ok,q⟩
    | ret u=>obtain ⟨v,σ',H',J,r,q⟩:=q; exact ⟨v,σ',H',J.untryB I.ok,r,q⟩
  refine wpAny_Try_except (wpAny_mono (hb EE _ XE pass [] s σ H D (I.tryB XE) (h _ _)) (λf s1 q=>?_) λev s2 hx=>?_)
  · have q':=back f s1 q
    cases f with
    | next=>exact wpAny_execs_nil q'
    | brk=>exact q'
    | cont=>exact q'
    | ret u=>exact q'
  obtain ⟨σ1,H1,s1,I1,e,t,cls,dd,H2,B,rfl,os,bare,U,a,in1,in2,C,rfl,hm,k⟩:=hx
  have hfr:=I.ok.frames
  rw[hstk] at hfr
  have a':Air X.prog X.w B (X.env::X.outer) H2 s2.heap e t (.ref C) dd .none:=by rw[<-hstk]; exact a
  refine a'.note hfr hf λh4 a4 u4=>?_
  refine Air.off (s:={ s2 with heap:=h4 }) a4 λh5 a5 u5=>?_
  have U5:=ZgU U a.fr (u4.trans u5) a5.st in1 in2
  have I5:Inv X pins σ1 H2 { s2 with heap:=h5 }:=I1.call' (ch:=[]) os U5 a5.hok bare λb z=>absurd z (by simp)
  refine wpAny_handleBy_cons (codeAny_handlers_test (ZcN (X:=X.suite e) (I5.suite e) hg cE.mgx ?_ hdb)) (by intro q; cases q)
  obtain ⟨oe,vs,T,oT,tvs,he5,hc5,_⟩:=id a5.tr
  refine ZgW (s:={ s2 with heap:=h5 }) I5.kIn cE.ty cE.be cE.cl hm he5 hc5 ?_
  refine codeAny_handlers_suite_as (Air.off (s:={ s2 with heap:=h5 }) a5 λh6 a6 u6=>?_)
  have U6:=ZgU U a.fr ((u4.trans u5).trans u6) a6.st in1 in2
  have I6:Inv X pins σ1 H2 { s2 with heap:=h6 }:=I1.call' (ch:=[]) os U6 a6.hok bare λb z=>absurd z (by simp)
  obtain ⟨oe6,vs6,T6,oT6,tvs6,he6,hc6,hd6,hv6,_⟩:=id a6.tr
  have ne1:s1.heap.get? e=none:=by
    cases q:s1.heap.get? e with
    | none=>rfl
    | some o =>
      by_cases hb:e∈frs X.stack
      · obtain ⟨_,o',z,nf⟩:=a6.fr.mem (by rw[hstk] at hb; exact hb)
        rw[he6] at z; cases z; exact absurd hv6 (nf _)
      · obtain ⟨o',z⟩:=in2 e o q hb
        rw[a.nb] at z; cases z
  have I7:=I6.track I1 ne1 a6.free he6 hc6 hd6 hv6
  refine Zcy (X:=X) (v:=.ref e) I7 hN hi (.inl hl) rfl (λs8 I8=>?_) (.inr hl)
  refine wpAny_mono (hs e pins s8 _ _ _ (I8.suite e) (k e a6.free)) (λf s9 q=>?_) λ_ _ z=>False.elim z
  cases f with
  | brk=>obtain ⟨_,_,_,z⟩:=q; exact False.elim z
  | cont=>obtain ⟨_,_,_,z⟩:=q; exact False.elim z
  | ret u=>obtain ⟨_,_,_,_,_,z⟩:=q; exact False.elim z
  | next =>
    obtain ⟨σ9,H9,J,q⟩:=q
    have I9:=J.unsuite I.ok
    obtain ⟨m,hn,lk⟩:=id I9.loc
    refine wpAny_nameGoes_keeps hl hn (by rw[I.ok.kind]; rfl) λh' v hn' sb=>?_
    exact ⟨_,_,I9.drop hN hi hn lk hn' sb,q⟩
end
end L2
namespace L2
open PySem PySem.Spec PyProof.Rows
inductive TyX (K:PySem.W.Frag) (H:Hp):V->Value->Prop where
  | of {x:V} {t:Value} (h:TyOf K H x t):TyX K H x t
  | exc {e C:Addr} (h:H e=some (Zmf e C none)) (c:XCls K C):TyX K H (.ref e) (.ref C)
inductive AskC (K:PySem.W.Frag) (H:Hp) (t:Value):V->Bool->Prop where
  | ty {T:String} {b:Bool} (h:PySem.W.kitOne K t (.type T)=some b):AskC K H t (.ty T) b
  | ref {C:Addr} {b:Bool} (h:PySem.W.kitOne K t (.ref C)=some b):AskC K H t (.ref C) b
  | tup {tp:Addr} {cs:List Addr} {b:Bool} (h:H tp=some (.tup (cs.map V.ref))) (q:PySem.W.kitAny K t (cs.map Value.ref)=some b):AskC K H t (.ref tp) b
theorem Zgk:∀ {cs:List Addr} {us:List Value},Vals (cs.map V.ref) us->us=cs.map Value.ref
  | [],_,.nil=>rfl
  | _::_,_,.cons r t=>by cases (show _=Value.ref _ from r); rw[Zgk t]; rfl
section
variable{X:Cx}
theorem Zas:CallR X (.builtin "isinstance") (λxs H Q=>∃x c t b,xs=[x,c]/\TyX X.K H x t/\AskC X.K H t c b/\Q (.bl b) H):=by
  intro pins s σ H xs us Q I r h
  obtain ⟨x,c,t,b,rfl,ty,ask,q⟩:=h
  obtain ⟨u,w',rfl,r1,r2⟩:=Zi6 r
  have fin:∀tk,EP X pins σ Q (.bool b) { s with toks:=tk }:=λtk=>⟨.bl b,H,I.tok _,rfl,q⟩
  obtain ⟨G,Z,g,hb⟩:∃G:Heap->Prop,PySem.W.KitX X.K u t G/\G s.heap/\u ≠ .builtin "__main__.__loader__#opaque" := by
    cases ty with
    | exc he c =>
      rename_i e C
      cases (show u=Value.ref e from r1)
      obtain ⟨⟨oe,vs,a1,a2,a3,a4⟩,_,_⟩:=(show ObjOk X.prog X.w H s.heap e (Zmf e C none) from I.hok e _ he)
      refine ⟨_,ZkD c,⟨oe,none,a1,a2,?_,?_⟩,λz=>nomatch z⟩
      · unfold PySem.W.notCls; rw[a4]
      · rw[a3]; trivial
    | of ty =>
      cases ty with
      | non=>cases (show u=Value.none from r1); exact ⟨_,PySem.W.kitx_none,True.intro,λz=>nomatch z⟩
      | bl y=>cases (show u=Value.bool y from r1); exact ⟨_,PySem.W.kitx_bool,True.intro,λz=>nomatch z⟩
      | int i=>obtain ⟨t,q⟩:=(show ∃t,u=Value.int i t from r1); cases q; exact ⟨_,PySem.W.kitx_int,True.intro,λz=>nomatch z⟩
      | str y=>obtain ⟨t,q⟩:=(show ∃t,u=Value.str y t from r1); cases q; exact ⟨_,PySem.W.kitx_str,True.intro,λz=>nomatch z⟩
      | flt y=>obtain ⟨t,q⟩:=(show ∃t,u=Value.float y t from r1); cases q; exact ⟨_,PySem.W.kitx_float,True.intro,λz=>nomatch z⟩
      | @lst a xs ea =>
        cases (show u=Value.ref a from r1)
        obtain ⟨_,_,n,_,h1⟩:=(show ObjOk X.prog X.w H s.heap a (.lst xs) from I.hok a _ ea)
        exact ⟨_,PySem.W.kitx_list,⟨_,h1,rfl⟩,λz=>nomatch z⟩
      | @frz a ob xs ea =>
        cases (show u=Value.ref a from r1)
        obtain ⟨_,_,_,n,_,h1⟩:=(show ObjOk X.prog X.w H s.heap a (.frz ob (.lst xs)) from I.hok a _ ea)
        exact ⟨_,PySem.W.kitx_list,⟨_,h1,rfl⟩,λz=>nomatch z⟩
      | @tup a xs ea =>
        cases (show u=Value.ref a from r1)
        obtain ⟨_,_,_,p⟩:=(show ObjOk X.prog X.w H s.heap a (.tup xs) from I.hok a _ ea)
        obtain ⟨o,h1,h2,_⟩:=p
        exact ⟨_,PySem.W.kitx_tuple,⟨o,h1,h2⟩,λz=>nomatch z⟩
      | @dK a kvs ea =>
        cases (show u=Value.ref a from r1)
        obtain ⟨_,_,vs,_,p⟩:=(show ObjOk X.prog X.w H s.heap a (.dK kvs) from I.hok a _ ea)
        obtain ⟨o,es,ep,h1,h2,_⟩:=p
        exact ⟨_,PySem.W.kitx_dict,⟨o,h1,h2.1⟩,λz=>nomatch z⟩
      | @dT a kvs ea =>
        cases (show u=Value.ref a from r1)
        obtain ⟨_,_,xs,_,o,es,ep,h1,h2,_⟩:=(show ObjOk X.prog X.w H s.heap a (.dT kvs) from I.hok a _ ea)
        exact ⟨_,PySem.W.kitx_dict,⟨o,h1,h2.1⟩,λz=>nomatch z⟩
      | @ins a C dx fs ea cl ha hn htk hm =>
        cases (show u=Value.ref a from r1)
        obtain ⟨mA,O,_⟩:=Zd8 I.hok ea
        obtain ⟨od,J,_⟩:=O.look
        exact ⟨_,PySem.W.kitx_own (cl.get _) cl.hd ha hn htk hm,J,λz=>nomatch z⟩
  cases ask with
  | ty k=>cases (show w'=Value.type _ from r2); exact PySem.W.kia_one Z I.kIn g k hb fin
  | ref k=>cases (show w'=Value.ref _ from r2); exact PySem.W.kia_one Z I.kIn g k hb fin
  | @tup tp cs b ht k =>
    cases (show w'=Value.ref tp from r2)
    obtain ⟨_,its,rv,o,h1,h2,n,h3⟩:=(show ObjOk X.prog X.w H s.heap tp (.tup (cs.map V.ref)) from I.hok tp _ ht)
    obtain ⟨oc,od,odt,osl⟩:=o
    dsimp only at h2 h3
    subst h2 h3
    exact PySem.W.kia_tup Z I.kIn g h1 (by rw[Zgk rv]; exact k) hb fin
end
theorem Zmg{K:PySem.W.Frag}{C D:Addr}{b:Bool}(hc:(PySem.W.clsIn K D).isSome=true)(ht:PySem.W.typeIn K (.ref D)=some (.type "type")) (hm:PySem.W.mroIn K C (.ref D)=some b) (hne:C≠D):PySem.W.kitOne K (.ref C) (.ref D)=some b:=by
  unfold PySem.W.kitOne PySem.W.kitCls
  rw[if_neg (λz=>hne (Value.ref.inj (beq_iff_eq.mp z)))]
  show (if ((PySem.W.clsIn K D).isSome&&PySem.W.typeIn K (.ref D)==some (.type "type"))=true then PySem.W.subIn K (.ref C) (.ref D) else none)=some b
  rw[hc,ht]
  exact hm
theorem ZkF{K:PySem.W.Frag}{C:Addr}:PySem.W.kitOne K (.ref C) (.ref C)=some true:=by
  unfold PySem.W.kitOne
  rw[if_pos (beq_iff_eq.mpr rfl)]
theorem Zmh{K:PySem.W.Frag}{C:Addr}{T:String}{b:Bool}(h1:PySem.W.kitMeta T=true)(hm:PySem.W.mroIn K C (.type T)=some b):PySem.W.kitOne K (.ref C) (.type T)=some b:=by
  unfold PySem.W.kitOne PySem.W.kitCls
  rw[if_neg (λz=>nomatch (beq_iff_eq.mp z:Value.ref C=Value.type T))]
  show (if PySem.W.kitMeta T=true then PySem.W.subIn K (.ref C) (.type T) else none)=some b
  rw[if_pos h1]
  exact hm
theorem ZoC(K:PySem.W.Frag){C:Addr}(hm:PySem.W.mroIn K C (.type "ValueError")=some true):PySem.W.kitOne K (.ref C) (.type "ValueError")=some true:=Zmh (by decide +kernel) hm
end L2
namespace L2
open PySem PySem.Spec PyProof.Rows
structure FunD (K:PySem.W.Frag) (x qual:Str) (st:Stmt) (f:Addr) (fd:FuncData) (T:Addr) (items:Array Value):Prop where
  ex:∃(oc:Value) (od:Option Addr) (kV doc pm:Value) (an:Option Addr) (cdv ct:Value) (osl:Array (Option Value)),
    fd=PySem.W.fnOf x qual (ZbR st) (Zbi st) (Zah st) (.ref T) kV doc pm an cdv ct/\K.lookup f=some ⟨oc,od,.func fd,osl⟩/\PySem.W.codeIn K cdv qual=true
  tp:∃(tc:Value) (td:Option Addr) (n:Nat) (tsl:Array (Option Value)),K.lookup T=some ⟨tc,td,.seq items n,tsl⟩
  kp:PySem.W.keepIn K (.ref f)=true
section
variable{P:Program}{w:World}{K:PySem.W.Frag}{mg:Str->Option Value}{base:Heap}{x qual m:Str}{st:Stmt}{f C T:Addr}{fd:FuncData}{items:Array Value}{N ps:List Str}{k:Nat}{sp:Sp}{ds:List Value}{dvs:List V}
theorem FunD.ok(F:FunD K x qual st f fd T items)(S:FnScope N ps (Zah st))(len:∀vs H Q E,sp vs H Q E->vs.length=ps.length)
    (hbody:∀(cdv:Value) (A:Around) (outer:List Env) (s:Shared) (H:Hp) (vs:List V) (Q:VK) (E:XK),Room k (A.deeper (envOfC qual (Zah st) s.heap.objs.size f cdv))->sp vs H Q E →
      ∃t,PSs (Zlg CX0 P w K mg base N qual (Zah st) f cdv A outer s H E).nox (Zbi st) t/\t { nx:=λ_ H'=>Q .non H',rt:=Q } (start N vs) H):FnOk P w K mg base CX0 (k+1) f fd ps sp:=by
  obtain ⟨oc,od,kV,doc,pm,an,cdv,ct,osl,rfl,lk,hcd⟩:=F.ex
  refine Zkx lk hcd S len λA outer s H vs Q E hr hsp=>?_
  obtain ⟨t,h,q⟩:=hbody cdv A outer s H vs Q E hr hsp
  exact ⟨t,h.nox,q⟩
theorem FunD.okx(F:FunD K x qual st f fd T items)(S:FnScope N ps (Zah st))(len:∀vs H Q E,sp vs H Q E->vs.length=ps.length)
    (hbody:∀(cdv:Value) (A:Around) (outer:List Env) (s:Shared) (H:Hp) (vs:List V) (Q:VK) (E:XK),Room k (A.deeper (envOfC qual (Zah st) s.heap.objs.size f cdv))->sp vs H Q E →
      ∃t,PSs (cxX P w K mg base N qual (Zah st) f cdv A outer s H E) (Zbi st) t/\t { nx:=λ_ H'=>Q .non H',rt:=Q } (start N vs) H):FnOk P w K mg base (CXx P w) (k+1) f fd ps sp:=by
  obtain ⟨oc,od,kV,doc,pm,an,cdv,ct,osl,rfl,lk,hcd⟩:=F.ex
  exact Zkx lk hcd S len λA outer s H vs Q E hr hsp=>hbody cdv A outer s H vs Q E hr hsp
theorem FunD.binds(F:FunD K x qual st f fd T items)(h:∀ (kV doc pm:Value) (an:Option Addr) (cdv ct:Value) (us:List Value),(us ++ ds).length = ps.length →
      ∃g:Option (Array Value)->Sem (List (Str×Value)),bindArgs (PySem.W.fnOf x qual (ZbR st) (Zbi st) (Zah st) (.ref T) kV doc pm an cdv ct) ⟨us,[]⟩=seqItems? (.ref T) >>= g/\g (some items)=pure (ps.zip (us++ds))):Binds K fd ps ds:=by
  obtain ⟨oc,od,kV,doc,pm,an,cdv,ct,osl,rfl,lk,hcd⟩:=F.ex
  obtain ⟨tc,td,n,tsl,lt⟩:=F.tp
  intro s us KX hl
  obtain ⟨g,h1,h2⟩:=h kV doc pm an cdv ct us hl
  exact .of_defaults rfl (KX _ _ lt) rfl h1 h2
structure HereD (K:PySem.W.Frag) (C:Addr) (m qual:Str) (st:Stmt) (items:Array Value):Prop where
  ex:∃(f:Addr) (fd:FuncData) (T:Addr),FunD K m qual st f fd T items/\Meth K C m f
theorem HereD.hasM(h:HereD K C m qual st items)(hv:Vals dvs ds)(b:∀f fd T,FunD K m qual st f fd T items->Binds K fd ps ds)(ok:∀f fd T,FunD K m qual st f fd T items->FnOk P w K mg base CX0 k f fd ps sp):HasM P w K mg base C m k ps dvs sp :=
  let ⟨f,fd,T,F,M⟩:=h.ex
  ⟨f,fd,ds,ok f fd T F,M,b f fd T F,hv⟩
theorem HereD.hasMX(h:HereD K C m qual st items)(hv:Vals dvs ds)(b:∀f fd T,FunD K m qual st f fd T items->Binds K fd ps ds)(ok:∀f fd T,FunD K m qual st f fd T items->FnOk P w K mg base (CXx P w) k f fd ps sp):HasMX P w K mg base C m k ps dvs sp :=
  let ⟨f,fd,T,F,M⟩:=h.ex
  ⟨f,fd,ds,ok f fd T F,M,b f fd T F,hv⟩
theorem hereD_mk{oc:Value}{od an:Option Addr}{osl:Array (Option Value)}{kV doc pm cdv ct tc:Value}{td:Option Addr}{n:Nat}{tsl:Array (Option Value)}(a:PySem.W.findIn K (.ref C) m=some (some (.ref f)))(i:PySem.W.isFn K (.ref f)=true)
    (l:K.lookup f=some ⟨oc,od,.func (PySem.W.fnOf m qual (ZbR st) (Zbi st) (Zah st) (.ref T) kV doc pm an cdv ct),osl⟩) (lt:K.lookup T=some ⟨tc,td,.seq items n,tsl⟩)
    (c:PySem.W.codeIn K cdv qual=true) (k:PySem.W.keepIn K (.ref f)=true):HereD K C m qual st items:=⟨f,_,T,⟨⟨oc,od,kV,doc,pm,an,cdv,ct,osl,rfl,l,c⟩,⟨tc,td,n,tsl,lt⟩,k⟩,a,i,k⟩
end
theorem Zjv{us:List Value}(h:us.length=1):∃a,us=[a]:=match us,h with | [a],_=>⟨a,rfl⟩
theorem Zdm{us:List Value}(h:us.length=2):∃a b,us=[a,b]:=match us,h with | [a,b],_=>⟨a,b,rfl⟩
theorem Zed{us:List Value}(h:us.length=3):∃a b c,us=[a,b,c]:=match us,h with | [a,b,c],_=>⟨a,b,c,rfl⟩
theorem ZoD{us:List Value}(h:us.length=4):∃a b c d,us=[a,b,c,d]:=match us,h with | [a,b,c,d],_=>⟨a,b,c,d,rfl⟩
end L2
namespace L2
open PySem PySem.Spec PyProof.Rows
section
variable{X:Cx}{pins:List (Addr×Obj)}{σ:St}{H:Hp}{s:Shared}{h':Heap}{fp:List Addr}{t':Nat}
theorem Inv.multi(I:Inv X pins σ H s)(hf:∀b∈fp,Zi0 X pins H b)(k:∀c o,c∉fp->s.heap.get? c=some o->h'.get? c=some o):Inv X pins σ H { s with heap:=h',toks:=t' }:=by
  refine I.call (ch:=fp) ⟨λb o q n hb hx=>k b o hx q,λb o q n hb hx=>⟨o.slots,k b o hx q⟩,λb o q n hx=>n,λb o q hx=>⟨o,k b o hx q⟩,λ_ _ q=>q,λ_ _ _ q=>q,λb ps q=>⟨#[],by rw[q]; simp⟩⟩ (λb u q=>?_) I.bare λb hb=>?_
  · refine (I.hok b u q).stay (λc v hc z=>k c v (λm=>?_) z) (λ_ z=>z) λ_ _ z=>z
    rcases hc with rfl | hc
    · rw[(hf c m).1] at q; cases q
    · rw[(hf c m).1] at hc; cases hc
  · obtain ⟨_,a,_,b,c,d⟩:=hf b hb
    exact ⟨b,a,c,d⟩
theorem Inv.multiT{T:Addr}{xs:List V}{its:List Value}(I:Inv X pins σ H s)(hf:∀b∈fp,Zi0 X pins H b)(k:∀c o,c∉fp->s.heap.get? c=some o->h'.get? c=some o)(hT:s.heap.objs.size<=T)(ht:IsTup h' T its.toArray)(r:Vals xs its)(hz:xs.length<=sizeLine) :
    Inv X pins σ (upd H T (.tup xs)) { s with heap:=h',toks:=t' }:=by
  have nT:=I.hok.fresh hT
  have nx:∀b u,H b=some u->b≠T:=λb u q z=>by subst z; rw[nT] at q; cases q
  refine I.call (ch:=fp) ⟨λb o q n hb hx=>k b o hx q,λb o q n hb hx=>⟨o.slots,k b o hx q⟩,λb o q n hx=>?_,λb o q hx=>⟨o,k b o hx q⟩,λb _ q=>by rw[Zau (nx b _ q)]; exact q,λb _ _ q=>by rw[Zau (nx b _ q)]; exact q,λb ps q=>⟨#[],by rw[Zau (nx b _ q),q]; simp⟩⟩ (λb u q=>?_) I.bare λb hb=>?_
  · rw[Zau (Qa (Q6 (Heap.lt_size q) hT))]; exact n
  · by_cases hb:b=T
    · subst hb
      rw[Zaf] at q
      cases q
      exact ⟨hz,its,r,ht⟩
    · rw[Zau hb] at q
      refine (I.hok b u q).stay (λc v hc z=>k c v (λm=>?_) z) (λc z=>by rw[Zau (nx c _ z)]; exact z) λc _ z=>by rw[Zau (nx c _ z)]; exact z
      rcases hc with rfl | hc
      · rw[(hf c m).1] at q; cases q
      · rw[(hf c m).1] at hc; cases hc
  · obtain ⟨_,a,_,b,c,d⟩:=hf b hb
    exact ⟨b,a,c,d⟩
end
def Itz(K:PySem.W.Frag)(a b:Addr):It :=
  ⟨λi H=>∃xs ys x y,SqL K H a xs/\SqL K H b ys/\xs[i]?=some x/\ys[i]?=some y,
   λi H v H'=>∃T,H T=none/\v = .ref T/\∃x y,(∀xs,SqL K H a xs->xs[i]?=some x)/\(∀ys,SqL K H b ys->ys[i]?=some y)/\H'=upd H T (.tup [x,y]),
   λi H=>∃xs ys,SqL K H a xs/\SqL K H b ys/\(xs.length<=i\/ys.length<=i)⟩
theorem ZkG{P:Program}{w:World}{K:PySem.W.Frag}{elts:List Expr}{k0}{pos:Pos}{a b z TI TO i1 i2:Addr}(D:ZipApart z TI TO i1 i2 a b) :
    Turn P w K (.Tuple elts k0 pos) (Itz K a b) [z,TI,TO,i1,i2] z (λi h=>IsZip h z TI TO .none/\IsPair h TI (.ref i1) (.ref i2)/\(∃p q,IsPair h TO p q)/\h.IsListIter i1 a i/\h.IsListIter i2 b i) where
  mem:=by simp
  obj:=λi h ⟨hz,hTI,⟨p,q,hTO⟩,⟨o1,e1,_,d1⟩,⟨o2,e2,_,d2⟩⟩ c hc=>by
    simp only[Qh,Ur,or_false] at hc
    rcases hc with rfl | rfl | rfl | rfl | rfl
    · exact ⟨_,hz,λv e=>nomatch (show Data.fields _=Data.cell v from e)⟩
    · exact ⟨_,hTI,λv e=>nomatch (show Data.seq _ _=Data.cell v from e)⟩
    · exact ⟨_,hTO,λv e=>nomatch (show Data.seq _ _=Data.cell v from e)⟩
    · exact ⟨o1,e1,λv e=>by rw[d1] at e; cases e⟩
    · exact ⟨o2,e2,λv e=>by rw[d2] at e; cases e⟩
  keep:=λi h h' ⟨hz,hTI,⟨p,q,hTO⟩,h1,h2⟩ k =>
    ⟨k z (by simp) _ hz,k TI (by simp) _ hTI,⟨p,q,k TO (by simp) _ hTO⟩,h1.at λo e=>k i1 (by simp) o e,h2.at λo e=>k i2 (by simp) o e⟩
  item:=by
    intro X hP hw hK hc i pins s σ H E I hf ⟨hz,hTI,⟨p,q,hTO⟩,h1,h2⟩ hg
    subst hP hw hK
    obtain ⟨xs,ys,x,y,hq1,hq2,hx,hy⟩:=hg
    obtain ⟨its,rv,pl,_⟩:=I.list hq1
    obtain ⟨jts,rw',pl2,_⟩:=I.list hq2
    obtain ⟨u,hu,ru⟩:=rv.get hx
    obtain ⟨v,hv,rw2⟩:=rw'.get hy
    refine wpAny_pyNext_zip_item D hz hTI hTO h1 h2 pl.isList pl2.isList (x:=u) (y:=v) (by simpa using hu) (by simpa using hv) λh' a1 a2 a3 a4 a5 a6 a7=>?_
    refine ⟨_,rfl,wpAny_letOwnedTupleGo_zip (s:={ s with heap:=h' }) a1 λh2' b1 b2=>?_⟩
    have kz:∀c o,c∉[z,TI,TO,i1,i2]->s.heap.get? c=some o->h2'.get? c=some o:=λc o hc e=>by
      simp only[Qh,Ur,or_false,not_or] at hc
      obtain ⟨n1,n2,n3,n4,n5⟩:=hc
      exact b2.extBut _ _ n1 (a7 c o n1 n3 n4 n5 e)
    have nTz:s.heap.objs.size≠z:=Ul (Heap.lt_size hz)
    have fresh:=I.hok.fresh (Q2 s.heap.objs.size)
    have I2:Inv X pins σ (upd H s.heap.objs.size (.tup [x,y])) { s with heap:=h2' }:=I.multiT (t':=s.toks) (its:=[u,v]) hf kz (Q2 _) ⟨_,b2.extBut _ _ nTz a5,rfl,_,rfl⟩ (.cons ru (.cons rw2 .nil)) (by show 2<=sizeLine; decide)
    refine ⟨.ref s.heap.objs.size,_,I2,rfl,⟨_,fresh,rfl,x,y,λxs' e=>by rw[I.list_inj e hq1]; exact hx,λys' e=>by rw[I.list_inj e hq2]; exact hy,rfl⟩,⟨b1,?_,⟨u,v,?_⟩,a3.extBut b2.extBut D.i1z,a4.extBut b2.extBut D.i2z⟩,λc hc=>?_⟩
    · exact b2.extBut _ _ D.TIz (a7 _ _ D.TIz D.TITO D.TIi1 D.TIi2 hTI)
    · exact b2.extBut _ _ D.TOz a2
    · have lt:c<s.heap.objs.size:=by
        simp only[Qh,Ur,or_false] at hc
        obtain ⟨_,e1,_⟩:=id h1
        obtain ⟨_,e2,_⟩:=id h2
        rcases hc with rfl | rfl | rfl | rfl | rfl
        · exact Heap.lt_size hz
        · exact Heap.lt_size hTI
        · exact Heap.lt_size hTO
        · exact Heap.lt_size e1
        · exact Heap.lt_size e2
      rw[Zau (Qa lt)]
      exact (hf c hc).1
  done:=by
    intro X hP hw hK hc i pins s σ H E I hf ⟨hz,hTI,⟨p,q,hTO⟩,h1,h2⟩ hg
    subst hP hw hK
    obtain ⟨xs,ys,hq1,hq2,hx⟩:=hg
    obtain ⟨its,rv,pl,_⟩:=I.list hq1
    obtain ⟨jts,rw',pl2,_⟩:=I.list hq2
    have l1:=rv.length
    have l2:=rw'.length
    refine wpAny_pyNext_zip_end (I.ok.hd hc) D hz hTI hTO h1 h2 pl.isList pl2.isList ?_ λh' k=>⟨rfl,I.multi (t':=s.toks) hf λc o hc e=>?_⟩
    · rcases hx with hx | hx
      · left; simp; omega
      · right; simp; omega
    · simp only[Qh,Ur,or_false,not_or] at hc
      obtain ⟨n1,n2,n3,n4,n5⟩:=hc
      exact k c o n1 n3 n4 n5 e
  self:=λ_ _ _ _ _ ⟨hz,_⟩ h=>wpAny_pyIter_zip hz h
section
variable{X:Cx}
def ZpH(K:PySem.W.Frag)(ta:TA):TI:=λσ H R=>ta σ H λvs H1=>∃a b,vs=[.ref a,.ref b]/\(∃xs,SqL K H1 a xs)/\(∃ys,SqL K H1 b ys)/\R (Itz K a b) H1
theorem Zlj{e1 e2:Expr}{elts:List Expr}{k0}{tpos:Pos}{ta:TA}{p pos:Pos}(hg:Gl X "zip") (hm:X.mg "zip" = none) (ha:PA X [e1,e2] ta) (hs:starEach [e1,e2] X.env=[(false,eval e1 X.env),(false,eval e2 X.env)]:=by rfl) (hs2:starEach [e2] X.env=[(false,eval e2 X.env)]:=by rfl) :
    PI X (.Tuple elts k0 tpos) (.Call (.Name "zip" p) [e1,e2] [] pos) (ZpH X.K ta):=by
  intro pins s σ H R I h
  refine wpAny_Call_Name_kw (ZdC I hg hm PyProof.Rows.Boot.«zip» (PyProof.Rows.callWith_type1 (thn (ha pos pins s σ H _ I h) λus s1 ⟨vs,H1,I1,r1,q1⟩=>?_) (by rw[hs,hs2]) (by rw[hs2]; rfl)))
  obtain ⟨a,b,e,⟨xs,hq1⟩,⟨ys,hq2⟩,q⟩:=q1
  subst e
  obtain ⟨u,v,rfl,ru,rv⟩:=Zi6 r1
  cases (show u=Value.ref a from ru)
  cases (show v=Value.ref b from rv)
  obtain ⟨its,_,pl,_⟩:=I1.list hq1
  obtain ⟨jts,_,pl2,_⟩:=I1.list hq2
  have la:a<s1.heap.objs.size:=by obtain ⟨o,e,_⟩:=pl.isList; exact Heap.lt_size e
  have lb:b<s1.heap.objs.size:=by obtain ⟨o,e,_⟩:=pl2.isList; exact Heap.lt_size e
  refine call_zip_2 pl.isList pl2.isList λh' hz hTI hTO h1 h2 hsz k=>?_
  refine wpAny_pyIter_zip (s:={ s1 with heap:=h' }) hz ?_
  refine ⟨_,[s1.heap.objs.size+4,s1.heap.objs.size+2,s1.heap.objs.size+3,s1.heap.objs.size,s1.heap.objs.size+1],_,_,H1,rfl,I1.kept (t':=s1.toks) k,ZkG (zipApart_new la lb),⟨hz,hTI,⟨_,_,hTO⟩,h1,h2⟩,λc hc=>?_,q⟩
  have hc':s1.heap.objs.size<=c:=by
    simp only[Qh,Ur,or_false] at hc
    rcases hc with rfl | rfl | rfl | rfl | rfl <;> omega
  exact I1.fpOk hc' (I1.hok.fresh hc')
end
theorem Zmi{K:PySem.W.Frag}{a b:Addr}{xs ys:List V}{g:TG}{tb:TS}{D:Ends}{σ:St}{H:Hp}(Pv:Nat->St->Hp->Prop)(h0:Pv 0 σ H)(hl:∀i σ H,Pv i σ H->SqL K H a xs/\SqL K H b ys)
    (hs:∀i x y T σ H,xs[i]?=some x->ys[i]?=some y->H T=none->Pv i σ H->g (.ref T) σ (upd H T (.tup [x,y])) λσ2 H2=>tb { D with nx:=Pv (i+1),ct:=Pv (i+1),bk:=D.nx } σ2 H2) (hd:∀i σ H,i=min xs.length ys.length->Pv i σ H->D.nx σ H) :
    ∃W:Nat->Nat->St->Hp->Prop,(∃m,W 0 m σ H)/\∀i m σ H,W i m σ H →
      ((Itz K a b).stop i H/\D.nx σ H)\/((Itz K a b).go i H/\∃N:St->Hp->Prop,(∀σ' H',N σ' H'->∃m',m'<m/\W (i+1) m' σ' H')/\∀x H',(Itz K a b).yld i H x H'->g x σ H' λσ2 H2=>tb { D with nx:=N,ct:=N,bk:=D.nx } σ2 H2):=by
  refine ⟨λi m σ H=>m=min xs.length ys.length-i/\i<=min xs.length ys.length/\Pv i σ H,⟨_,rfl,Qb _,h0⟩,?_⟩
  rintro i m σ H ⟨rfl,hi,p⟩
  obtain ⟨q1,q2⟩:=hl i σ H p
  by_cases hlt:i<min xs.length ys.length
  · have l1:i<xs.length:=by omega
    have l2:i<ys.length:=by omega
    refine .inr ⟨⟨xs,ys,xs[i],ys[i],q1,q2,by simp[l1],by simp[l2]⟩,Pv (i+1),λσ' H' p'=>⟨min xs.length ys.length-(i+1),by omega,rfl,hlt,p'⟩,λx H' y=>?_⟩
    obtain ⟨T,nT,rfl,u,v,e1,e2,rfl⟩:=y
    exact hs i u v T σ H (e1 xs q1) (e2 ys q2) nT p
  · exact .inl ⟨⟨xs,ys,q1,q2,by omega⟩,hd i σ H (by omega) p⟩
section
variable{caps:List (Nat×Str)}{te:TE}
theorem ZoE{x y:V}{cs:List (Option V)}:∀(i:Nat) v,((none:Option V)::none::cs)[i]?=some (some v)->((some x)::(some y)::cs)[i]?=some (some v)
  | 0,v,h=>by simp at h
  | 1,v,h=>by simp at h
  | i+2,v,h=>by simpa using h
end
end L2
namespace L2
open PySem PySem.Spec PyProof.Rows
def One1(x y:V):Prop:=x=y/\((∃i,x = .int i)\/∃a,x = .ref a)
def EqD(K:PySem.W.Frag)(H:Hp):Nat->V->V->Prop
  | 0,x,y=>One1 x y
  | n+1,x,y=>One1 x y\/∃a b xs ys,x = .ref a/\y = .ref b/\SqL K H a xs/\SqL K H b ys/\xs.length=ys.length/\∀(i:Nat) u v,xs[i]?=some u->ys[i]?=some v->EqD K H n u v
theorem One1.at{x y:V}{v u:Value}{A:Around}{s:Shared}(h:One1 x y)(rx:RelV x v)(ry:RelV y u):SeqAt.EqAt A s v u true:=by
  obtain ⟨rfl,⟨i,rfl⟩ | ⟨a,rfl⟩⟩:=h
  · obtain ⟨t1,rfl⟩:=rx
    obtain ⟨t2,rfl⟩:=ry
    have:=SeqAt.EqAt.int_int (A:=A) (s:=s) i t1 i t2
    simpa using this
  · cases rx
    cases ry
    exact SeqAt.EqAt.same _
theorem Zbx(n:Nat):(List.range n).all (λ_=>true)=true:=by simp
theorem EqD.at{X:Cx}{pins:List (Addr×Obj)}{σ:St}{H:Hp}{s:Shared}(I:Inv X pins σ H s):∀(n:Nat) (A:Around) (x y:V) (v u:Value),A.units+n<cLine->EqD X.K H n x y->RelV x v->RelV y u->SeqAt.EqAt A s v u true
  | 0,A,x,y,v,u,_,h,rx,ry=>One1.at h rx ry
  | n+1,A,x,y,v,u,hu,h,rx,ry=>by
    rcases h with h | ⟨a,b,xs,ys,rfl,rfl,hx,hy,hl,hi⟩
    · exact h.at rx ry
    · cases rx
      cases ry
      by_cases hab:a=b
      · subst hab
        exact SeqAt.EqAt.same _
      obtain ⟨its,r1,p1,_⟩:=I.list hx
      obtain ⟨jts,r2,p2,_⟩:=I.list hy
      have l1:=r1.length
      have l2:=r2.length
      refine SeqAt.EqAt.of_refs hab ?_
      have:=SeqAt.RcAt.lists (A:=A) (e:=λ_=>true) p1.isList p2.isList (by simp; omega) (by omega) (λj h1 h2=>?_)
      · rwa [Zbx] at this
      · have j1:j<xs.length:=by simp at h1; omega
        have j2:j<ys.length:=by simp at h2; omega
        obtain ⟨v1,e1,q1⟩:=r1.get (i:=j) (x:=xs[j]) (by simp[j1])
        obtain ⟨v2,e2,q2⟩:=r2.get (i:=j) (x:=ys[j]) (by simp[j2])
        have f1:its.toArray[j]=v1:=by
          have:its[j]?=some its.toArray[j]:=by simp at h1; simp[h1]
          rw[this] at e1; exact Option.some.inj e1
        have f2:jts.toArray[j]=v2:=by
          have:jts[j]?=some jts.toArray[j]:=by simp at h2; simp[h2]
          rw[this] at e2; exact Option.some.inj e2
        rw[f1,f2]
        exact EqD.at I n A.in1 _ _ _ _ (by show A.units+1+n<cLine; omega) (hi j _ _ (by simp[j1]) (by simp[j2])) q1 q2
def Bits(n:Nat)(i:Int):Prop:=Builtin.Int.intBits i<=n
theorem ZgX(i:Int):(PySem.W.WData.int i).weight=Builtin.Int.intBits i:=by
  simp only[PySem.W.WData.weight,Builtin.Int.intBits]
theorem Ze6:∀(ns:List Int) (n:Nat),PySem.W.WData.weightAll (ns.map PySem.W.WData.int)<=n->∀i∈ns,Bits n i
  | [],_,_,_,h=>nomatch h
  | j::ns,n,hw,i,h=>by
    simp only[U4,PySem.W.WData.weightAll] at hw
    rcases Qh.mp h with rfl | h
    · show Builtin.Int.intBits i<=n
      rw[<-ZgX]; omega
    · exact Ze6 ns n (by omega) i h
theorem Zgl{l:PySem.W.OpenLaw}{n:Nat}{q:Program}{loose:List Str}{XP:(Str->Option Value)->Heap->Prop}{YP:World->Heap->Prop}{d:DefRec}
    (hn:l.most=some n) (hdf:d.params.defaults=[])
    (call:∀(w:World) (s₀ s₁:Shared) (mg mb:Str->Option Value) (fa:Addr) (a:Addr) (vs:List Value) (ns:List Int),
      PySem.W.Ground q loose [] XP w s₀ mg mb s₁.heap->YP w s₁.heap->mg d.name=some (.ref fa) →
      s₁.heap.get? a=some { cls:=.type "list", data:=.seq vs.toArray }->IntsAre vs ns->ns.length<=n->(∀i∈ns,Bits 1048576 i)->s₁.gens=#[] →
      codeAny (model l.prog w) callerA (.call (.ref fa) ⟨[.ref a],[]⟩) (λr s'=>r = .ok (.ret (.bool true))/\OldK s₁.heap s'.heap/\s'.os=s₁.os/\AllBare s'.gens) s₁) :
    PySem.W.WalkO q loose XP YP l.row.toRowW d [] (λf vs=>PySem.call f vs):=by
  refine λw s₀ s₁ mg mb G Y fa o pm cd doc dV kV ho hd hcd hD hmg hg args vals as hpre hlay hrd hwl hlo=>?_
  have hb:∀(a:Addr) (vs:List Value) (ns:List Int),vals=[Value.ref a]->args=[PySem.W.WData.list (ns.map PySem.W.WData.int)]->∀i∈ns,Bits 1048576 i:=by
    rintro a vs ns-rfl
    refine Ze6 ns _ ?_
    have h1:(PySem.W.WData.list (ns.map PySem.W.WData.int)).layable=true:=(PySem.W.layW_cons hlay).1
    unfold PySem.W.WData.layable at h1
    simp only[Bool.and_eq_true,decide_eq_true_eq] at h1
    have:=h1.2
    simp only[PySem.W.WData.weight] at this
    exact this
  obtain rfl:dV = .none:=PySem.W.Dflts.none hD hdf
  obtain rfl:kV = .none:=PySem.W.Dflts.noKw hD
  obtain ⟨a,vs,ns,rfl,rfl,hobj,hints,hlen⟩:=Att.script_of hn hpre hwl
  refine PySem.W.enter_call (codeAny_mono (call w s₀ s₁ mg mb fa a vs ns G Y hmg hobj hints hlen (hb a vs ns rfl rfl) hg) λr s' hq=>?_)
  obtain ⟨rfl,h2,h3,h4⟩:=hq
  exact ⟨.inl ⟨.bool true,.bool true,[],rfl,λ_=>rfl,.bool true,Att.post_true l _,λ_=>⟨List.Pairwise.nil,λ_ hm=>(nomatch hm)⟩⟩,h2,h3,h4⟩
theorem walk_ofB{l:PySem.W.OpenLaw}{n k:Nat}{q:Program}{loose:List Str}{XP:(Str->Option Value)->Heap->Prop}{YP:World->Heap->Prop}{d:DefRec}{K:Params->PySem.W.Frag}{CX:World->CXT}{sp:World->Sp}{x:Str}
    (hn:l.most=some n) (hn2:n<=sizeLine) (hdf:d.params.defaults=[]) (hr:Room k callerA)
    (hY:∀(w:World) (h:Heap),YP w h->(K w.params).In h)
    (F:∀(w:World) (mg:Str->Option Value) (fa:Addr) (h:Heap),(K w.params).In h->h.Ns mainGlobals mg->mg d.name=some (.ref fa) →
      ∃fd:FuncData,(∀(s:Shared) (u:Value),BindsTo s fd ⟨[u],[]⟩ [(x,u)]) ∧
        ∀base:Heap,(K w.params).In base->base.Ns mainGlobals mg->FnOk l.prog w (K w.params) mg base (CX w) k fa fd [x] (sp w))
    (hsp:∀(w:World) (H:Hp) (a:Addr) (ns:List Int),ns.length<=n->(∀i∈ns,Bits 1048576 i)->Zoj H->SqL (K w.params) H a (ns.map V.int)->sp w [.ref a] H (λv _=>v = .bl true) λ_ _ _=>False)
    (hCX:∀(w:World) (H:Hp) (s:Shared) (e:Value) (s':Shared),CX w [] H s (λ_ _ _=>False) e s'->False) :
    PySem.W.WalkO q loose XP YP l.row.toRowW d [] (λf vs=>PySem.call f vs):=by
  refine Zgl hn hdf λw s₀ s₁ mg mb fa a vs ns G Y hmg hobj hints hlen hbits hg=>?_
  have KX:=hY w _ Y
  obtain ⟨fd,hb,hF⟩:=F w mg fa _ KX G.T.g hmg
  exact ZhF KX G.T.g G.T.b G.T.builtins G.T.nolimit hg hobj hints (Q0 hlen hn2) hr hF hb (λH hO hS=>hsp w H a ns hlen hbits hO hS) λH e s'=>hCX w H s₁ e s'
theorem Bits.lt{n:Nat}{i:Int}(h:Bits n i):i.natAbs<2^n:=by
  unfold Bits Builtin.Int.intBits at h
  by_cases h0:i=0
  · subst h0; exact Ud (by simp)
  · have:i.natAbs.log2+1<=n:=by simpa [h0] using h
    exact (Nat.log2_lt (by omega)).mp (by omega)
theorem Bits.of{n:Nat}{i:Int}(h:i.natAbs<2^n):Bits n i:=ZcP h
theorem Bits.cell{n:Nat}{c k:Int}(h:Bits n c)(h0:0<=k)(h1:k<256):Bits (n+17) (c*(k+2)+k*k):=by
  refine Bits.of ?_
  have hc:=h.lt
  have e1:(c*(k+2)).natAbs<=c.natAbs*258:=by
    rw[Qf]
    exact Wp _ (by omega)
  have e2:(k*k).natAbs<=256*256:=by
    rw[Qf]
    exact W1 (by omega) (by omega)
  have e3:2^(n+17)=2^n*131072:=by rw[Wt]
  have e4:1<=2^n:=Ud (by simp)
  rw[e3]
  generalize 2^n=P at *
  omega
theorem Bits.mono{m n:Nat}{i:Int}(h:Bits m i)(hm:m<=n):Bits n i:=Q0 h hm
theorem Bits.mul{i j:Int}(h:Bits 2097152 i)(h':Bits 2097152 j):IntMulOk i j:=by
  have h1:Builtin.Int.intBits i<=2097152:=h
  have h2:Builtin.Int.intBits j<=2097152:=h'
  have h3:Builtin.Int.intTooBig (Builtin.Int.intBits i+Builtin.Int.intBits j)=false:=by
    unfold Builtin.Int.intTooBig
    rw[bitsLine_eq]
    exact decide_eq_false (by omega)
  unfold IntMulOk
  rw[h3]
  simp
end L2
namespace L2
open PySem PySem.Spec PyProof.Rows
section
variable{X:Cx}
theorem ZhL(K:PySem.W.Frag)(h:X.K=K):IxR X (Zpa K):=by subst h; exact Zav
theorem Zjw(K:PySem.W.Frag)(h:X.K=K):IxR X (Zpb K):=by subst h; exact Zat
theorem Zfq(K:PySem.W.Frag)(h:X.K=K):CallR X (.builtin "len") (λxs H Q=>∃p ys,xs=[.ref p]/\(SqL K H p ys\/SqT K H p ys)/\Q (.int ys.length) H):=by subst h; exact Zam
theorem Za2(K:PySem.W.Frag)(h:X.K=K):CallR X (.type "list") (λxs H Q=>∃p ys,xs=[.ref p]/\(SqL K H p ys\/SqT K H p ys)/\∀l,H l=none->Q (.ref l) (upd H l (.lst ys))):=by subst h; exact Zgc
theorem ZkH(K:PySem.W.Frag)(h:X.K=K){tg l:Expr}{tl:TE}(hl:PE X l tl):PI X tg l (Znl K tl):=by subst h; exact ZaC hl
structure CxIs (X:Cx) (P:Program) (w:World) (K:PySem.W.Frag) (mg:Str->Option Value) (base:Heap):Prop where
  p:X.prog=P
  w:X.w=w
  k:X.K=K
  m:X.mg=mg
  b:X.base=base
variable{o e:Expr}{es:List Expr}{m:Str}{apos pos:Pos}{ta:TE}{t:TA}{k:Nat}{E:St->XK}
theorem Zgm{pl:Sem Bool}{P:Program}{w:World}{K:PySem.W.Frag}{mg:Str->Option Value}{base:Heap}(hX:CxIs X P w K mg base)(he:PE X o ta)(hr:Room k X.A)(ha:PA X (e::es) t)
    (hst:starEach (e::es) X.env=(false,eval e X.env)::starEach es X.env:=by rfl) (hpl:(backTo pos (starEach es X.env)).any (·.1)=false:=by rfl)
    (ht:eval (.Call (.Attribute o m apos) (e::es) [] pos) X.env=(do
      let ov ← eval o X.env
      standAt apos.atName
      let (f,first) ← holding [ov] (getMethod ov m pl)
      callWith pos f first (backTo pos (starEach (e::es) X.env)) (backToKw pos (keywordEach [] X.env))):=by rfl) :
    PE X (.Call (.Attribute o m apos) (e::es) [] pos) (Zlh P w K mg base m k ta t):=by
  obtain ⟨rfl,rfl,rfl,rfl,rfl⟩:=hX
  exact Zbw he hr ha hst hpl ht
end
end L2
namespace L2
open PySem PySem.Spec PyProof.Rows
theorem Zmj{X:Cx}{pos:Pos}(K:PySem.W.Frag)(h:X.K=K){es:List Expr}{k:Nat}{t:TGs}{n:Nat}(hc:X.calm=true)(h1:PGs X es t)
    (hn:(assignEach es X.env).length=n:=by rfl) (hst:(assignEach es X.env).findIdx? (·.1)=none:=by rfl):PG X (.Tuple es k pos) (Zoq K n t):=by subst h; exact Zlc hc h1 hn hst
theorem Zjx{caps:List (Nat×Str)}{te:TE}{K:PySem.W.Frag}{a b:Addr}{xs ys:List V}{σ:St}{H:Hp}{QL:List V->Hp->Prop}(Pv:Nat->List V->Hp->Prop)(hz:xs.length<=1000)(h0:Pv 0 [] H)(hl:∀i zs H,Pv i zs H->SqL K H a xs/\SqL K H b ys)
    (hs:∀i x y T zs H,xs[i]?=some x->ys[i]?=some y->zs.length=i->H T=none->Pv i zs H->te (some x::some y::caps.map λp=>(σ[p.1]?).join) (upd H T (.tup [x,y])) λv H'=>Pv (i+1) (zs++[v]) H')
    (hd:∀zs H,zs.length=min xs.length ys.length->Pv (min xs.length ys.length) zs H->QL zs H) :
    Ze4 2 caps (Zoq K 2 (ZlQ (ZcO 0) (ZlQ (ZcO 1) Zo7))) te σ (Itz K a b) H QL:=by
  have hz':xs.length<sizeLine:=Zc2 hz
  refine ⟨λi m zs H=>m=min xs.length ys.length-i/\i<=min xs.length ys.length/\zs.length=i/\Pv i zs H,⟨_,rfl,Qb _,rfl,h0⟩,?_⟩
  rintro i m zs H' ⟨rfl,hi,hy,p⟩
  obtain ⟨q1,q2⟩:=hl i zs H' p
  refine ⟨by omega,?_⟩
  by_cases hlt:i<min xs.length ys.length
  · have l1:i<xs.length:=by omega
    have l2:i<ys.length:=by omega
    refine .inr ⟨⟨xs,ys,xs[i],ys[i],q1,q2,by simp[l1],by simp[l2]⟩,by omega,λv H4=>Pv (i+1) (zs++[v]) H4,λv H4 p'=>⟨min xs.length ys.length-(i+1),by omega,rfl,hlt,by rw[Q7,hy]; rfl,p'⟩,λx H2 y=>?_⟩
    obtain ⟨T,nT,rfl,u,v,e1,e2,rfl⟩:=y
    exact ⟨T,[u,v],rfl,SqT.of Zaf,rfl,u,_,rfl,v,_,rfl,rfl,ZoE,hs i u v T zs H' (e1 xs q1) (e2 ys q2) hy nT p⟩
  · have e:i=min xs.length ys.length:=by omega
    subst e
    exact .inl ⟨⟨xs,ys,q1,q2,by omega⟩,hd zs H' hy p⟩
end L2
namespace L2
open PySem PySem.Spec PyProof.Rows
theorem Zmk:10^1000<2^4000:=by decide +kernel
theorem Zpe{i j:Int}(h:i.natAbs<=10^1000)(h':j.natAbs<=10^1000):IntMulOk i j :=
  .of_bits (Q0 (ZcP (n:=4000) (Q9 h Zmk)) (by decide)) (Q0 (ZcP (n:=4000) (Q9 h' Zmk)) (by decide))
theorem ZkI{j:Int}(h:j.natAbs<=10^1000):j.natAbs.log2<9000:=by
  rcases Nat.eq_zero_or_pos j.natAbs with z | z
  · rw[z]; decide
  · exact Nat.lt_trans ((Nat.log2_lt (Ul z)).mpr (Q9 h Zmk)) (by decide)
section
variable{X:Cx}
theorem ZdR:OpR X (binaryOp .FloorDiv) (rI (λ_ j=>j≠0/\j.natAbs<=10^1000) λi j => .int (i.fdiv j)):=opI λ_ _ _ _ _ _ _ hc q=>floordiv_int hc.1 q (.inl (PyProof.noPylong_of_log2 (ZkI hc.2)))
theorem Zcl:∀ {ns:List Int} {us:List Value},Vals (ns.map V.int) us->IntsAre us ns
  | [],_,.nil => .nil
  | _::_,_,.cons r t=>by obtain ⟨k,rfl⟩:=r; exact .cons _ _ (Zcl t)
theorem ZhM(hc:X.calm=true):CallR X (.builtin "sum") (λxs H Q=>∃(p:Addr) (ns:List Int),xs=[.ref p]/\SqL X.K H p (ns.map V.int)/\Q (.int ns.sum) H):=by
  intro pins s σ H xs us Q I r h
  obtain ⟨p,ns,rfl,hq,q⟩:=h
  obtain ⟨u,rfl,rx⟩:=Zip r
  cases rx
  obtain ⟨its,r',pl,hz⟩:=I.list hq
  have hi:=Zcl r'
  obtain ⟨xs,e⟩:=hi.allInts.items
  have hs:(numsOf its).sum=ns.sum:=by rw[hi.numsOf]
  have e2:its=(intItems xs).toList:=by rw[<-e]
  rw[e2,nums_intItems] at hs
  refine sum_intListG (xs:=xs) (I.ok.hd hc) (by rw[<-e]; exact pl.isList) λh' tk t' hk=>?_
  rw[preSum_eq,Us (by simp)]
  rw[hs]
  exact ⟨.int ns.sum,H,I.kept hk,⟨t',rfl⟩,q⟩
end
end L2
namespace L2
open PySem PySem.Spec PyProof.Rows
structure OneCell (scope:Scope) (x0:Str):Prop where
  one:∀y∈scope.names,y.2 = .cell->y.1=x0
  lk:scope.names.lookup x0=some .cell
  cf:∀n acc,cellsFrom n scope.names acc=(x0,n)::acc
  pc:∀h,pushCells h scope.names=h.push { cls:=.type "cell", data:=.cell none }
section
variable{X:Cx}{tg iter elt:Expr}{scope:Scope}{pos:Pos}{wi:TI}{g:TG}{te:TE}{own:List Str}{caps:List (Nat×Str)}{x0:Str}
end
end L2
namespace L2
open PySem PySem.Spec PyProof.Rows
section
variable{X:Cx}{k:Nat}{f C:Addr}{fd:FuncData}{ps:List Str}{sp:Sp}{dvs:List V}{ds:List Value}{E:St->XK}{x:Str}{p pos:Pos}{e:Expr}{es:List Expr}{t:TA}
end
end L2
namespace L2
open PySem PySem.Spec PyProof.Rows
@[irreducible] def PEI (X:Cx) (e:Expr) (t:TE):Prop:=PE X e t
@[irreducible] def PSI (X:Cx) (st:Stmt) (t:TS):Prop:=PS X st t
@[irreducible] def PSsI (X:Cx) (st:List Stmt) (t:TS):Prop:=PSs X st t
section
variable{X:Cx}{st:Stmt}{rest:List Stmt}{t u:TS}{e:Expr}{te:TE}{pos:Pos}
end
end L2
namespace L2
open PySem PySem.Spec PyProof.Rows
section
variable{X:Cx}
end
def Fl(H:Hp)(x:V)(d:PyData):Prop:=(x = .non/\d = .none)\/(∃b,x = .bl b/\d = .bool b)\/(∃i,x = .int i/\d = .int i)\/(∃y,x = .str y/\d = .str y)\/(∃a,x = .ref a/\d = .dict []/\H a=some (.dK []))
def Rp(H:Hp):Nat->V->PyData->Prop
  | 0,x,d=>Fl H x d
  | n+1,x,d=>Fl H x d\/(∃a xs ds,x = .ref a/\d = .list ds/\H a=some (.lst xs)/\xs.length=ds.length/\∀(i:Nat) u e,xs[i]?=some u->ds[i]?=some e->Rp H n u e) ∨
      (∃a xs ds,x = .ref a/\d = .tuple ds/\H a=some (.tup xs)/\xs.length=ds.length/\∀(i:Nat) u e,xs[i]?=some u->ds[i]?=some e->Rp H n u e)
theorem Fl.same{H H':Hp}{x:V}{d:PyData}(h:Fl H x d)(S:Same H H'):Fl H' x d:=by
  rcases h with h | h | h | h | ⟨a,e1,e2,h⟩
  · exact .inl h
  · exact .inr (.inl h)
  · exact .inr (.inr (.inl h))
  · exact .inr (.inr (.inr (.inl h)))
  · exact .inr (.inr (.inr (.inr ⟨a,e1,e2,S _ _ h⟩)))
theorem Rp.same{H H':Hp}(S:Same H H'):∀ {n:Nat} {x:V} {d:PyData},Rp H n x d->Rp H' n x d
  | 0,_,_,h=>Fl.same h S
  | n+1,x,d,h=>by
    rcases h with h | ⟨a,xs,ds,e1,e2,h,l,r⟩ | ⟨a,xs,ds,e1,e2,h,l,r⟩
    · exact .inl (Fl.same h S)
    · exact .inr (.inl ⟨a,xs,ds,e1,e2,S _ _ h,l,λi u e a b=>Rp.same S (r i u e a b)⟩)
    · exact .inr (.inr ⟨a,xs,ds,e1,e2,S _ _ h,l,λi u e a b=>Rp.same S (r i u e a b)⟩)
theorem Rp.up{H:Hp}:∀ {n:Nat} {x:V} {d:PyData},Rp H n x d->Rp H (n+1) x d
  | 0,_,_,h => .inl h
  | n+1,x,d,h=>by
    rcases h with h | ⟨a,xs,ds,e1,e2,h,l,r⟩ | ⟨a,xs,ds,e1,e2,h,l,r⟩
    · exact .inl h
    · exact .inr (.inl ⟨a,xs,ds,e1,e2,h,l,λi u e a b=>Rp.up (r i u e a b)⟩)
    · exact .inr (.inr ⟨a,xs,ds,e1,e2,h,l,λi u e a b=>Rp.up (r i u e a b)⟩)
theorem Rp.mono{H:Hp}{x:V}{d:PyData}{n m:Nat}(h:Rp H n x d)(l:n<=m):Rp H m x d:=by
  induction m with
  | zero => obtain rfl:n = 0:=by omega
            exact h
  | succ m ih =>
    by_cases e:n=m+1
    · subst e; exact h
    · exact (ih (by omega)).up
section
variable{X:Cx}{pins:List (Addr×Obj)}{σ:St}{H:Hp}{s:Shared}
theorem ZnA(I:Inv X pins σ H s){a:Addr}(h:H a=some (.dK [])):(a==sysModules)=false/\s.heap.DictOf (ZcM X.prog X.w) a []:=by
  obtain ⟨_,z,vs,kv,p⟩:=(show ObjOk X.prog X.w H s.heap a (.dK []) from I.hok a _ h)
  cases kv
  exact ⟨z,p⟩
theorem ZdS{P P':Program}{w w':World}{h:Heap}{a:Addr}(d:h.DictOf (ZcM P w) a []):h.DictOf (ZcM P' w') a []:=by
  obtain ⟨o,es,ep,h1,h2,h3,h4,h5,h6⟩:=d
  refine ⟨o,es,ep,h1,h2,h3,?_,?_,h6⟩
  · have:es.toList=[]:=by cases q:es.toList with
      | nil=>rfl
      | cons x r=>rw[q] at h5; cases h5
    intro e he
    rw[Array.mem_def,this] at he
    cases he
  · cases q:es.toList with
    | nil=>exact .nil
    | cons x r=>rw[q] at h5; cases h5
theorem Fl.rc{A:Around}{x y:V}{v u:Value}{d:PyData}(I:Inv X pins σ H s)(hu:A.units<cLine)(hx:Fl H x d)(hy:Fl H y d)(rx:RelV x v)(ry:RelV y u):SeqAt.RcAt A s v u true/\SeqAt.RcNeAt A s v u false:=by
  rcases hx with ⟨rfl,rfl⟩ | ⟨b,rfl,rfl⟩ | ⟨i,rfl,rfl⟩ | ⟨z,rfl,rfl⟩ | ⟨a,rfl,rfl,ha⟩ <;> rcases hy with ⟨rfl,e⟩ | ⟨b',rfl,e⟩ | ⟨i',rfl,e⟩ | ⟨z',rfl,e⟩ | ⟨a',rfl,e,ha'⟩ <;> cases e
  · cases rx; cases ry; exact ⟨SeqAt.RcAt.none_none,SeqAt.RcNeAt.none_none⟩
  · cases rx; cases ry
    exact ⟨by have:=SeqAt.RcAt.bool_bool (A:=A) (s:=s) b b; simpa using this,by have:=SeqAt.RcNeAt.bool_bool (A:=A) (s:=s) b b; simpa using this⟩
  · obtain ⟨t1,rfl⟩:=rx
    obtain ⟨t2,rfl⟩:=ry
    exact ⟨by have:=SeqAt.RcAt.int_int (A:=A) (s:=s) i t1 i t2; simpa using this,by have:=SeqAt.RcNeAt.int_int (A:=A) (s:=s) i t1 i t2; simpa using this⟩
  · obtain ⟨t1,rfl⟩:=rx
    obtain ⟨t2,rfl⟩:=ry
    exact ⟨by have:=SeqAt.RcAt.str_str (A:=A) (s:=s) z t1 z t2; simpa using this,by have:=SeqAt.RcNeAt.str_str (A:=A) (s:=s) z t1 z t2; simpa using this⟩
  · cases rx; cases ry
    obtain ⟨n1,d1⟩:=ZnA I ha
    obtain ⟨n2,d2⟩:=ZnA I ha'
    refine ⟨λprog w E Q q=>?_,λprog w E Q q=>?_⟩
    · exact PySem.W.keq_eq (knd:=ZcM prog w) (r:=true) n1 n2 (ZdS d1) (ZdS d2) hu (λ_ => .nil) q
    · exact PySem.W.keq_ne (knd:=ZcM prog w) (r:=true) n1 n2 (ZdS d1) (ZdS d2) hu (λ_ => .nil) q
theorem Fl.at{A:Around}{x y:V}{v u:Value}{d:PyData}(I:Inv X pins σ H s)(hu:A.units<cLine)(hx:Fl H x d)(hy:Fl H y d)(rx:RelV x v)(ry:RelV y u):SeqAt.EqAt A s v u true:=by
  have rc:=(Fl.rc I hu hx hy rx ry).1
  rcases hx with ⟨rfl,rfl⟩ | ⟨b,rfl,rfl⟩ | ⟨i,rfl,rfl⟩ | ⟨z,rfl,rfl⟩ | ⟨a,rfl,rfl,ha⟩ <;> rcases hy with ⟨rfl,e⟩ | ⟨b',rfl,e⟩ | ⟨i',rfl,e⟩ | ⟨z',rfl,e⟩ | ⟨a',rfl,e,ha'⟩ <;> cases e
  · cases rx; cases ry; exact SeqAt.EqAt.same _
  · cases rx; cases ry; exact SeqAt.EqAt.same _
  · obtain ⟨t1,rfl⟩:=rx
    obtain ⟨t2,rfl⟩:=ry
    have:=SeqAt.EqAt.int_int (A:=A) (s:=s) i t1 i t2
    simpa using this
  · obtain ⟨t1,rfl⟩:=rx
    obtain ⟨t2,rfl⟩:=ry
    have:=SeqAt.EqAt.str_str (A:=A) (s:=s) z t1 z t2
    simpa using this
  · cases rx; cases ry
    by_cases hab:a=a'
    · subst hab; exact SeqAt.EqAt.same _
    · exact SeqAt.EqAt.of_refs hab rc
theorem Vals.at2{xs:List V}{its:List Value}(r:Vals xs its){j:Nat}(h:j<its.toArray.size):∃x,xs[j]?=some x/\RelV x its.toArray[j]:=by
  have l:=r.length
  have j1:j<xs.length:=by simp at h; omega
  obtain ⟨v1,e1,q1⟩:=r.get (i:=j) (x:=xs[j]) (by simp[j1])
  have f1:its.toArray[j]=v1:=by
    have:its[j]?=some its.toArray[j]:=by simp at h; simp[h]
    rw[this] at e1; exact Option.some.inj e1
  exact ⟨xs[j],by simp[j1],by rw[f1]; exact q1⟩
theorem ZaG{α β:Type}{xs:List α}{ds:List β}{j:Nat}{x:α}(h:xs[j]?=some x)(l:xs.length=ds.length):∃d,ds[j]?=some d:=by
  have:=(Qi.mp h).1
  exact ⟨ds[j]'(by omega),Q5 (by omega)⟩
theorem Rp.both(I:Inv X pins σ H s):∀(n:Nat) (A:Around) (x y:V) (v u:Value) (d:PyData),A.units+n<cLine->Rp H n x d->Rp H n y d->RelV x v->RelV y u->SeqAt.EqAt A s v u true/\SeqAt.RcAt A s v u true/\SeqAt.RcNeAt A s v u false
  | 0,A,x,y,v,u,d,hu,hx,hy,rx,ry=>⟨Fl.at I hu hx hy rx ry,Fl.rc I hu hx hy rx ry⟩
  | n+1,A,x,y,v,u,d,hu,hx,hy,rx,ry=>by
    have hu0:A.units<cLine:=by omega
    rcases hx with hx | ⟨a,xs,ds,rfl,rfl,ha,hl,hi⟩ | ⟨a,xs,ds,rfl,rfl,ha,hl,hi⟩
    · have hy':Fl H y d:=by
        rcases hy with hy | ⟨b,ys,es,rfl,rfl,hb,hm,hj⟩ | ⟨b,ys,es,rfl,rfl,hb,hm,hj⟩
        · exact hy
        · rcases hx with ⟨_,e⟩ | ⟨_,_,e⟩ | ⟨_,_,e⟩ | ⟨_,_,e⟩ | ⟨_,_,e,_⟩ <;> cases e
        · rcases hx with ⟨_,e⟩ | ⟨_,_,e⟩ | ⟨_,_,e⟩ | ⟨_,_,e⟩ | ⟨_,_,e,_⟩ <;> cases e
      exact ⟨Fl.at I hu0 hx hy' rx ry,Fl.rc I hu0 hx hy' rx ry⟩
    · obtain ⟨b,ys,rfl,hb,hm,hj⟩:∃b ys,y = .ref b/\H b=some (.lst ys)/\ys.length=ds.length/\∀(i:Nat) u e,ys[i]?=some u->ds[i]?=some e->Rp H n u e:=by
        rcases hy with hy | ⟨b,ys,es,e1,e2,hb,hm,hj⟩ | ⟨b,ys,es,e1,e2,hb,hm,hj⟩
        · rcases hy with ⟨_,e⟩ | ⟨_,_,e⟩ | ⟨_,_,e⟩ | ⟨_,_,e⟩ | ⟨_,_,e,_⟩ <;> cases e
        · cases e2; exact ⟨b,ys,e1,hb,hm,hj⟩
        · cases e2
      cases rx
      cases ry
      obtain ⟨its,r1,p1,_⟩:=I.list (SqL.of ha)
      obtain ⟨jts,r2,p2,_⟩:=I.list (SqL.of hb)
      have l1:=r1.length
      have l2:=r2.length
      have el:∀(j:Nat) (h1:j<its.toArray.size) (h2:j<jts.toArray.size),SeqAt.EqAt A.in1 s its.toArray[j] jts.toArray[j] true:=λj h1 h2=>by
        obtain ⟨x1,g1,q1⟩:=r1.at2 h1
        obtain ⟨x2,g2,q2⟩:=r2.at2 h2
        obtain ⟨d,gd⟩:=ZaG g1 hl
        exact (Rp.both I n A.in1 _ _ _ _ d (by show A.units+1+n<cLine; omega) (hi j _ _ g1 gd) (hj j _ _ g2 gd) q1 q2).1
      have rc:=SeqAt.RcAt.lists (A:=A) (e:=λ_=>true) p1.isList p2.isList (by simp; omega) hu0 el
      have rn:=SeqAt.RcNeAt.lists (A:=A) (e:=λ_=>true) p1.isList p2.isList (by simp; omega) hu0 el
      rw[Zbx] at rc rn
      refine ⟨?_,rc,rn⟩
      by_cases hab:a=b
      · subst hab; exact SeqAt.EqAt.same _
      · exact SeqAt.EqAt.of_refs hab rc
    · obtain ⟨b,ys,rfl,hb,hm,hj⟩:∃b ys,y = .ref b/\H b=some (.tup ys)/\ys.length=ds.length/\∀(i:Nat) u e,ys[i]?=some u->ds[i]?=some e->Rp H n u e:=by
        rcases hy with hy | ⟨b,ys,es,e1,e2,hb,hm,hj⟩ | ⟨b,ys,es,e1,e2,hb,hm,hj⟩
        · rcases hy with ⟨_,e⟩ | ⟨_,_,e⟩ | ⟨_,_,e⟩ | ⟨_,_,e⟩ | ⟨_,_,e,_⟩ <;> cases e
        · cases e2
        · cases e2; exact ⟨b,ys,e1,hb,hm,hj⟩
      cases rx
      cases ry
      obtain ⟨its,r1,p1,_⟩:=I.tuple (SqT.of ha)
      obtain ⟨jts,r2,p2,_⟩:=I.tuple (SqT.of hb)
      have l1:=r1.length
      have l2:=r2.length
      have el:∀(j:Nat) (h1:j<its.toArray.size) (h2:j<jts.toArray.size),SeqAt.EqAt A.in1 s its.toArray[j] jts.toArray[j] true:=λj h1 h2=>by
        obtain ⟨x1,g1,q1⟩:=r1.at2 h1
        obtain ⟨x2,g2,q2⟩:=r2.at2 h2
        obtain ⟨d,gd⟩:=ZaG g1 hl
        exact (Rp.both I n A.in1 _ _ _ _ d (by show A.units+1+n<cLine; omega) (hi j _ _ g1 gd) (hj j _ _ g2 gd) q1 q2).1
      have es:(its.toArray.size==jts.toArray.size)=true:=by simp; omega
      have rc:=SeqAt.RcAt.tuples (A:=A) (e:=λ_=>true) p1 p2 hu0 el
      have rn:=SeqAt.RcNeAt.tuples (A:=A) (e:=λ_=>true) p1 p2 hu0 el
      rw[Zbx,es] at rc rn
      refine ⟨?_,rc,rn⟩
      by_cases hab:a=b
      · subst hab; exact SeqAt.EqAt.same _
      · exact SeqAt.EqAt.of_refs hab rc
end
section
variable{X:Cx}{k:Nat}
def ZpI:R2:=λx y H Q=>∃d,Rp H 8 x d/\Rp H 8 y d/\Q (.bl true) H
theorem Zlk(hr:Room k X.A):OpR X (compareOp .Eq) ZpI:=by
  intro pins s σ H x y v u Q I rx ry h
  obtain ⟨d,hx,hy,q⟩:=h
  have hu:=hr.units
  exact (Rp.both I 8 X.A x y v u d (by omega) hx hy rx ry).2.1 _ _ _ _ ⟨.bl true,H,I,rfl,q⟩
end
end L2
namespace L2
open PySem PySem.Spec PyProof.Rows
section
variable{X:Cx}{es:List Expr}{te:TE}{t:TA}{p:Pos}{k:Nat}
end
def All2(R:V->PyData->Prop)(xs:List V)(ds:List PyData):Prop:=xs.length=ds.length/\∀(i:Nat) v d,xs[i]?=some v->ds[i]?=some d->R v d
section
variable{R R':V->PyData->Prop}{xs ys:List V}{ds es:List PyData}{x:V}{d:PyData}
theorem All2.nil:All2 R [] []:=⟨rfl,λi v d h=>by simp at h⟩
theorem All2.cons(h:R x d)(t:All2 R xs ds):All2 R (x::xs) (d::ds):=by
  refine ⟨by simp[t.1],λi v e hv he=>?_⟩
  cases i with
  | zero=>cases hv; cases he; exact h
  | succ i=>exact t.2 i v e (by simpa using hv) (by simpa using he)
theorem All2.mono(h:All2 R xs ds)(f:∀v d,R v d->R' v d):All2 R' xs ds:=⟨h.1,λi v d a b=>f v d (h.2 i v d a b)⟩
theorem All2.append(h:All2 R xs ds)(g:All2 R ys es):All2 R (xs++ys) (ds++es):=by
  refine ⟨by rw[Q7,Q7,h.1,g.1],λi v e hv he=>?_⟩
  have l:=h.1
  by_cases hi:i<xs.length
  · rw[Qv hi] at hv
    rw[Qv (by omega)] at he
    exact h.2 i v e hv he
  · rw[W5 (by omega)] at hv he
    rw[<-l] at he
    exact g.2 _ v e hv he
theorem All2.take(h:All2 R xs ds)(n:Nat):All2 R (xs.take n) (ds.take n):=by
  refine ⟨by rw[Q8,Q8,h.1],λi v e hv he=>?_⟩
  rw[W7] at hv he
  split at hv
  · rename_i hi
    rw[if_pos hi] at he
    exact h.2 i v e hv he
  · cases hv
theorem All2.drop(h:All2 R xs ds)(n:Nat):All2 R (xs.drop n) (ds.drop n):=by
  refine ⟨by rw[W0,W0,h.1],λi v e hv he=>?_⟩
  rw[Uf] at hv he
  exact h.2 _ v e hv he
theorem All2.set(h:All2 R xs ds)(n:Nat)(g:R x d):All2 R (xs.set n x) (ds.set n d):=by
  refine ⟨by rw[Wc,Wc,h.1],λi v e hv he=>?_⟩
  rw[Wu] at hv he
  have l:=h.1
  split at hv
  · rename_i hi
    rw[if_pos hi] at he
    split at hv
    · rename_i hl
      rw[if_pos (by omega)] at he
      cases hv; cases he; exact g
    · cases hv
  · rename_i hi
    rw[if_neg hi] at he
    exact h.2 i v e hv he
theorem All2.one(h:R x d):All2 R [x] [d]:=.cons h .nil
theorem All2.get(h:All2 R xs ds){i:Nat}(hv:xs[i]?=some x):∃d,ds[i]?=some d/\R x d:=by
  obtain ⟨d,e⟩:=ZaG hv h.1
  exact ⟨d,e,h.2 i x d hv e⟩
theorem All2.get'(h:All2 R xs ds){i:Nat}(hi:i<ds.length):∃x,xs[i]?=some x/\R x ds[i]:=by
  have l:=h.1
  exact ⟨xs[i]'(by omega),Q5 (by omega),h.2 i _ _ (Q5 (by omega)) (Q5 hi)⟩
theorem Zjy{H:Hp}{n:Nat}{a:Addr}(h:H a=some (.lst xs))(g:All2 (Rp H n) xs ds):Rp H (n+1) (.ref a) (.list ds):=.inr (.inl ⟨a,xs,ds,rfl,rfl,h,g.1,g.2⟩)
theorem Zgn{H:Hp}{n:Nat}{a:Addr}(h:H a=some (.tup xs))(g:All2 (Rp H n) xs ds):Rp H (n+1) (.ref a) (.tuple ds):=.inr (.inr ⟨a,xs,ds,rfl,rfl,h,g.1,g.2⟩)
end
end L2
namespace L2
open PySem PySem.Spec PyProof.Rows
theorem Bits.le{n:Nat}{i j:Int}(h:Bits n j)(l:i.natAbs<=j.natAbs):Bits n i:=Bits.of (Q9 l h.lt)
theorem Bits.up{n m:Nat}{i:Int}(h:Bits n i)(l:n<=m):Bits m i:=Q0 h l
theorem Bits.mulT{i j:Int}(h:Bits 1000000 i)(h':Bits 1000000 j):IntMulOk i j:=Bits.mul (h.up (by decide)) (h'.up (by decide))
theorem Bits.mulG{i j:Int}(h:Bits 1000000 i)(h':Bits 4000 j):IntMulOk i j:=h.mulT (h'.up (by decide))
theorem Bits.times{n m:Nat}{i j:Int}(h:Bits n i)(h':Bits m j):Bits (n+m) (i*j):=Bits.of (by
  rw[Qf,Wt]
  exact Nat.mul_lt_mul'' h.lt h'.lt)
theorem Bits.plus{n:Nat}{i j:Int}(h:Bits n i)(h':Bits n j):Bits (n+1) (i+j):=Bits.of (by
  have:=Int.natAbs_add_le i j
  have a:=h.lt
  have b:=h'.lt
  rw[Ug]
  omega)
theorem Bits.log{n:Nat}{i:Int}(h:Bits n i)(h0:i≠0):i.natAbs.log2<n:=by
  have:i.natAbs.log2+1<=n:=by unfold Bits Builtin.Int.intBits at h; simpa [h0] using h
  omega
section
variable{X:Cx}
theorem ZbI:OpR X (binaryOp .FloorDiv) (rI (λ_ j=>j≠0/\Bits 4000 j) λi j => .int (i.fdiv j)):=opI λ_ _ _ _ _ _ _ hc q=>floordiv_int hc.1 q (.inl (PyProof.noPylong_of_log2 (Nat.lt_trans (hc.2.log hc.1) (by decide))))
end
end L2
namespace L2
open PySem PySem.Spec PyProof.Rows
def AllG{β:Type}(R:V->β->Prop)(xs:List V)(ds:List β):Prop:=xs.length=ds.length/\∀(i:Nat) v d,xs[i]?=some v->ds[i]?=some d->R v d
section
variable{β:Type}{R R':V->β->Prop}{xs ys:List V}{ds es:List β}{x:V}{d:β}
theorem AllG.nil:AllG R [] []:=⟨rfl,λi v d h=>by simp at h⟩
theorem AllG.cons(h:R x d)(t:AllG R xs ds):AllG R (x::xs) (d::ds):=by
  refine ⟨by simp[t.1],λi v e hv he=>?_⟩
  cases i with
  | zero=>cases hv; cases he; exact h
  | succ i=>exact t.2 i v e (by simpa using hv) (by simpa using he)
theorem AllG.mono(h:AllG R xs ds)(f:∀v d,R v d->R' v d):AllG R' xs ds:=⟨h.1,λi v d a b=>f v d (h.2 i v d a b)⟩
theorem AllG.append(h:AllG R xs ds)(g:AllG R ys es):AllG R (xs++ys) (ds++es):=by
  refine ⟨by rw[Q7,Q7,h.1,g.1],λi v e hv he=>?_⟩
  have l:=h.1
  by_cases hi:i<xs.length
  · rw[Qv hi] at hv
    rw[Qv (by omega)] at he
    exact h.2 i v e hv he
  · rw[W5 (by omega)] at hv he
    rw[<-l] at he
    exact g.2 _ v e hv he
theorem AllG.take(h:AllG R xs ds)(n:Nat):AllG R (xs.take n) (ds.take n):=by
  refine ⟨by rw[Q8,Q8,h.1],λi v e hv he=>?_⟩
  rw[W7] at hv he
  split at hv
  · rename_i hi
    rw[if_pos hi] at he
    exact h.2 i v e hv he
  · cases hv
theorem AllG.drop(h:AllG R xs ds)(n:Nat):AllG R (xs.drop n) (ds.drop n):=by
  refine ⟨by rw[W0,W0,h.1],λi v e hv he=>?_⟩
  rw[Uf] at hv he
  exact h.2 _ v e hv he
theorem AllG.set(h:AllG R xs ds)(n:Nat)(g:R x d):AllG R (xs.set n x) (ds.set n d):=by
  refine ⟨by rw[Wc,Wc,h.1],λi v e hv he=>?_⟩
  rw[Wu] at hv he
  have l:=h.1
  split at hv
  · rename_i hi
    rw[if_pos hi] at he
    split at hv
    · rename_i hl
      rw[if_pos (by omega)] at he
      cases hv; cases he; exact g
    · cases hv
  · rename_i hi
    rw[if_neg hi] at he
    exact h.2 i v e hv he
theorem AllG.one(h:R x d):AllG R [x] [d]:=.cons h .nil
theorem AllG.get(h:AllG R xs ds){i:Nat}(hv:xs[i]?=some x):∃d,ds[i]?=some d/\R x d:=by
  obtain ⟨d,e⟩:=ZaG hv h.1
  exact ⟨d,e,h.2 i x d hv e⟩
theorem AllG.get'(h:AllG R xs ds){i:Nat}(hi:i<ds.length):∃x,xs[i]?=some x/\R x ds[i]:=by
  have l:=h.1
  exact ⟨xs[i]'(by omega),Q5 (by omega),h.2 i _ _ (Q5 (by omega)) (Q5 hi)⟩
theorem AllG.at(h:AllG R xs ds){i:Nat}{b:β}(hd:ds[i]?=some b):∃x,xs[i]?=some x/\R x b:=by
  have l:=h.1
  have hi:=(Qi.mp hd).1
  exact ⟨xs[i]'(by omega),Q5 (by omega),h.2 i _ _ (Q5 (by omega)) hd⟩
theorem AllG.all2{D:β->PyData}{R2:V->PyData->Prop}(h:AllG R xs ds)(f:∀v b,R v b->R2 v (D b)):All2 R2 xs (ds.map D):=by
  refine ⟨by rw[Q1]; exact h.1,λi v d hv hd=>?_⟩
  rw[Qc] at hd
  cases e:ds[i]? with
  | none=>rw[e] at hd; cases hd
  | some b=>rw[e] at hd; cases hd; exact f v b (h.2 i v b hv e)
theorem AllG.zip{α:Type}{R3:V->α->Prop}{as:List α}(h:AllG R xs ds)(g:AllG R3 ys as){i:Nat}{a b:V}(ha:xs[i]?=some a)(hb:ys[i]?=some b):∃p q,ds[i]?=some p/\as[i]?=some q/\R a p/\R3 b q:=by
  obtain ⟨p,hp,rp⟩:=h.get ha
  obtain ⟨q,hq,rq⟩:=g.get hb
  exact ⟨p,q,hp,hq,rp,rq⟩
end
end L2
namespace L2
open PySem PySem.Spec PyProof.Rows
section
variable{X:Cx}{k:Nat}
theorem Zll{x y:V}{us:List Value}(r:Vals [x,y] us):∃u v,us=[u,v]/\RelV x u/\RelV y v:=by
  cases r with
  | cons r t=>cases t with
    | cons r2 t2=>cases t2; exact ⟨_,_,rfl,r,r2⟩
end
end L2
namespace L2
open PySem PySem.Spec PyProof.Rows
section
variable{X:Cx}{tg:Expr}
end
section
variable{X:Cx}{k:Nat}
end
end L2
namespace L2
open PySem PySem.Spec PyProof.Rows
section
variable{X:Cx}{tg iter elt:Expr}{scope:Scope}{pos:Pos}{wi:TI}{g:TG}{te:TE}{own:List Str}{caps:List (Nat×Str)}
end
end L2
namespace L2
open PySem PySem.Spec PyProof.Rows
def ZnB(H:Hp)(x y:V)(b:Bool):Prop:=(∃i j:Int,x = .int i/\y = .int j/\b=decide (i=j)) ∨
  (∃(a c:Addr) (n1 d1 n2 d2:Int),x = .ref a/\y = .ref c/\H a=some (.tup [.int n1,.int d1])/\H c=some (.tup [.int n2,.int d2])/\b=(decide (n1=n2)&&decide (d1=d2)))
section
variable{X:Cx}{k:Nat}
def ZpJ:R2:=λx y H Q=>∃b,ZnB H x y b/\Q (.bl b) H
theorem Zml{pins:List (Addr×Obj)}{s:Shared}{σ:St}{H:Hp}{a c:Addr}{n1 d1 n2 d2:Int}{A:Around}(I:Inv X pins σ H s)(ha:H a=some (.tup [.int n1,.int d1]))(hc:H c=some (.tup [.int n2,.int d2]))(hu:A.units<cLine) :
    SeqAt.RcAt A s (.ref a) (.ref c) (decide (n1=n2)&&decide (d1=d2))/\SeqAt.RcNeAt A s (.ref a) (.ref c) (!(decide (n1=n2)&&decide (d1=d2))):=by
  obtain ⟨its,r1,p1,_⟩:=I.tuple (SqT.of ha)
  obtain ⟨u1,u2,rfl,ru1,ru2⟩:=Zll r1
  obtain ⟨t1,rfl⟩:=ru1
  obtain ⟨t2,rfl⟩:=ru2
  obtain ⟨jts,r2,p2,_⟩:=I.tuple (SqT.of hc)
  obtain ⟨w1,w2,rfl,rw1,rw2⟩:=Zll r2
  obtain ⟨s1,rfl⟩:=rw1
  obtain ⟨s2,rfl⟩:=rw2
  have el:∀(j:Nat) (h1:j<(#[Value.int n1 t1,Value.int d1 t2]:Array Value).size) (h2:j<(#[Value.int n2 s1,Value.int d2 s2]:Array Value).size),SeqAt.EqAt A.in1 s (#[Value.int n1 t1,Value.int d1 t2]:Array Value)[j] (#[Value.int n2 s1,Value.int d2 s2]:Array Value)[j] (if j=0 then n1==n2 else d1==d2):=λj h1 h2=>by
    have h1':j<2:=h1
    match j,h1' with
    | 0,_=>exact SeqAt.EqAt.int_int n1 t1 n2 s1
    | 1,_=>exact SeqAt.EqAt.int_int d1 t2 d2 s2
  have e:((List.range (min (#[Value.int n1 t1,Value.int d1 t2]).size (#[Value.int n2 s1,Value.int d2 s2]).size)).all (λj=>if j=0 then n1==n2 else d1==d2)&&(#[Value.int n1 t1,Value.int d1 t2]).size==(#[Value.int n2 s1,Value.int d2 s2]).size)=(decide (n1=n2)&&decide (d1=d2)):=by
    show ((n1==n2)&&((d1==d2)&&true)&&true)=_
    rw[Bool.and_true,Bool.and_true]
    rfl
  have rc:=SeqAt.RcAt.tuples (A:=A) (e:=λj=>if j=0 then n1==n2 else d1==d2) p1 p2 hu el
  have rn:=SeqAt.RcNeAt.tuples (A:=A) (e:=λj=>if j=0 then n1==n2 else d1==d2) p1 p2 hu el
  rw[e] at rc rn
  exact ⟨rc,rn⟩
theorem ZnC(hr:Room k X.A):OpR X (compareOp .Eq) ZpJ:=by
  intro pins s σ H x y v u Q I rx ry h
  obtain ⟨b,hb,q⟩:=h
  rcases hb with ⟨i,j,rfl,rfl,rfl⟩ | ⟨a,c,n1,d1,n2,d2,rfl,rfl,ha,hc,rfl⟩
  · refine Zbz pins s σ H _ _ v u Q I rx ry ⟨rfl,?_⟩
    have:decide (V.int i=V.int j)=decide (i=j):=by rw[ZgQ]; rfl
    rw[this]; exact q
  · cases rx
    cases ry
    have hu:X.A.units<cLine:=by have:=hr.units; omega
    exact (Zml I ha hc hu).1 _ _ _ _ ⟨.bl _,H,I,rfl,q⟩
end
end L2
namespace L2
open PySem PySem.Spec PyProof.Rows
section
variable{X:Cx}{tg iter elt cnd:Expr}{scope:Scope}{pos:Pos}{wi:TI}{g:TG}{tt:TT}{te:TE}{own:List Str}{caps:List (Nat×Str)}
end
end L2
namespace L2
open PySem PySem.Spec PyProof.Rows
end L2
namespace My
open PySem L2 PyProof.Rows
def top(i:Nat):Stmt:=PySem.Challenge.pw_turnframe_k47_great.main.body.getD i (.Pass ⟨0,0,0,0⟩)
abbrev Zdn:Stmt:=top 13
abbrev Zee:Stmt:=top 14
abbrev Zfr:Stmt:=top 15
abbrev Zcm:Stmt:=top 16
abbrev Zdo:Stmt:=top 17
abbrev Za4:Stmt:=ZbA (top 19) 2
abbrev ZaJ:Stmt:=ZbA (top 20) 0
abbrev ZbB:Stmt:=ZbA (top 20) 1
abbrev Zbq:Stmt:=ZbA (top 20) 2
abbrev Zbr:Stmt:=ZbA (top 20) 3
abbrev ZaH:Stmt:=ZbA (top 20) 5
abbrev ZaK:Stmt:=ZbA (top 20) 6
abbrev ZbC:Stmt:=ZbA (top 21) 0
abbrev Za6:Stmt:=ZbA (top 21) 1
abbrev Zb7:Stmt:=ZbA (top 21) 3
abbrev Zb8:Stmt:=ZbA (top 21) 4
abbrev ZaS:Stmt:=ZbA (top 21) 6
abbrev ZcQ:Stmt:=top 23
abbrev Zb9:Stmt:=top 24
abbrev ZcR:Stmt:=top 25
abbrev Zcn:Stmt:=top 26
abbrev Zfs:Stmt:=top 27
abbrev ZcS:Stmt:=top 28
abbrev ZbS:Stmt:=top 29
abbrev ZbD:Stmt:=top 31
abbrev ZbE:Stmt:=top 33
abbrev Zbs:Stmt:=top 34
abbrev ZgY:Stmt:=top 36
abbrev Zef:Stmt:=top 38
abbrev ZcT:Stmt:=top 39
abbrev Zco:Stmt:=top 40
abbrev Zeg:Stmt:=top 41
abbrev Zcp:Stmt:=top 42
abbrev Zft:Stmt:=top 43
abbrev Zcq:Stmt:=top 44
abbrev Zfu:Stmt:=top 45
abbrev Zfv:Stmt:=top 46
abbrev Zeh:Stmt:=top 47
abbrev Zei:Stmt:=top 48
abbrev Zca:Stmt:=top 49
abbrev Zej:Stmt:=top 50
abbrev Zek:Stmt:=top 51
abbrev ZgZ:Stmt:=top 52
abbrev Zcb:Stmt:=top 53
abbrev ZbT:Stmt:=top 54
abbrev Zel:Stmt:=top 55
abbrev Zdp:Stmt:=top 56
abbrev Zfw:Stmt:=top 57
abbrev Zfx:Stmt:=top 58
abbrev Zem:Stmt:=top 59
abbrev Zdq:Stmt:=top 60
abbrev ZcU:Stmt:=top 61
abbrev Zen:Stmt:=top 62
abbrev Zfy:Stmt:=top 63
abbrev Zdr:Stmt:=top 64
abbrev ZcV:Stmt:=top 65
abbrev ZcW:Stmt:=top 66
abbrev ZcX:Stmt:=top 67
abbrev Zfz:Stmt:=top 68
abbrev ZfA:Stmt:=top 69
abbrev Zc6:Stmt:=top 70
abbrev ZfB:Stmt:=top 71
abbrev Zmm:Stmt:=top 72
structure Nm (mg:Str->Option Value):Prop where
  abs:mg "abs" = none
  isinstance:mg "isinstance" = none
  int:mg "int" = none
  bool:mg "bool" = none
  tuple:mg "tuple" = none
  list:mg "list" = none
  len:mg "len" = none
  range:mg "range" = none
  PB:∃t,mg "PRIME_BOUND" = some (.int 1000000 t)
theorem nm_mk{mg:Str->Option Value}{v:Value}(h1:mg "PRIME_BOUND" = some v) (h2:∃t,v = .int 1000000 t) (a1:mg "abs" = none) (a2:mg "isinstance" = none) (a3:mg "int" = none) (a4:mg "bool" = none) (a5:mg "tuple" = none) (a6:mg "list" = none) (a7:mg "len" = none) (a8:mg "range" = none):Nm mg :=
  ⟨a1,a2,a3,a4,a5,a6,a7,a8,let ⟨t,e⟩:=h2; ⟨t,by rw[h1,e]⟩⟩
structure Kd (K:PySem.W.Frag) (mg:Str->Option Value) (CF CR:Addr):Prop where
  clF:Cls K CF
  clR:Cls K CR
  nP:NoAttr K CR "prime"
  mkF:Mk0 K CF
  mgF:mg "Fractions" = some (.ref CF)
  mgR:mg "Rests" = some (.ref CR)
def fsR(p:Int):List (Str×V):=Zf5 "prime" (.int p) []
theorem ZbV(p:Int):(fsR p).lookup ("prime" : Str)=some (.int p):=by
  unfold fsR
  rw[Zb1,if_pos rfl]
theorem Ze7(p:Int){m:Str}(h:¬m = "prime"):(fsR p).lookup m=none:=by
  unfold fsR
  rw[Zb1,if_neg h]
  rfl
structure Fc (a b:Int):Prop where
  pos:0<b
  cop:Int.gcd a b=1
def FrA(CF:Addr)(H:Hp)(a:Addr):Prop:=∃dx,H a=some (.ins CF dx [])
theorem Zjz{b:Int}(h:0<b):0<b.natAbs:=Ud (Int.natAbs_ne_zero.mpr (Wy h))
def ZaV:Sp:=λvs H Q _=>∃a b:Int,vs=[.int a,.int b]/\Q (.int (Int.gcd a b)) H
section
variable{P:Program}{w:World}{K:PySem.W.Frag}{mg:Str->Option Value}{base:Heap}
theorem sc_divisor:FnScope ["one", "other", "rest"] ["one", "other"] (Zah Zee):=⟨rfl,rfl,rfl,by decide +kernel,rfl,by decide +kernel,by decide +kernel⟩
theorem ZiA(h:Here K mg "divisor" Zee) (T:Nm mg):Has P w K mg base "divisor" 1 ["one", "other"] ZaV:=by
  refine h.has (λf fd F=>F.binds λ_ _ _ _ _ _ us hl=>by obtain ⟨_,_,rfl⟩:=Zdm hl; exact rfl) λf fd F=>F.ok sc_divisor (λvs H Q E h=>?_) (λcdv A outer s H vs Q E hr h=>?_)
  · obtain ⟨a,b,rfl,_⟩:=h
    rfl
  obtain ⟨x,y,rfl,k⟩:=h
  have nd:=sc_divisor.nd
  refine ⟨_,(Zac (ZbM PassesOwn.never (Zaq Zin (pv 1) Zad (Zaw _)) (Zac (Zal (i:=2) nd rfl (Or.inl rfl) (Zai ZaN (pv 0) (pv 1)))
      (Zac (Zal (i:=0) nd rfl (Or.inl rfl) (pv 1))
      (Zae (Zal (i:=1) nd rfl (Or.inl rfl) (pv 2))))))
    (Zae (Zan (Zaj Zfj (by rfl) T.abs boot_abs (Zaa (pv 0) Zab))))),?_⟩
  refine ⟨λm σ H'=>∃(a b:Int) (r:Option V),m=b.natAbs/\σ=[some (.int a),some (.int b),r]/\H'=H/\Int.gcd a b=Int.gcd x y,⟨_,x,y,none,rfl,rfl,rfl,rfl⟩,?_⟩
  rintro m σ H' ⟨a,b,r,rfl,rfl,rfl,g⟩
  refine ⟨_,rfl,rfl,_,rfl,?_⟩
  refine Ze1 (λhb=>⟨_,λ_ _ h=>h,?_⟩) (λhb=>?_)
  · refine ⟨_,rfl,_,rfl,_,_,rfl,rfl,hb,_,rfl,_,rfl,?_⟩
    exact ⟨_,M1.fmod_lt a hb,b,a.fmod b,_,rfl,rfl,rfl,by rw[M1.fmod_gcd]; exact g⟩
  · refine ⟨_,rfl,_,rfl,?_⟩
    subst hb
    rw[<-M1.gcd_zero' a,g]
    exact k
end
section
variable{P:Program}{w:World}{K:PySem.W.Frag}{mg:Str->Option Value}{base:Heap}
theorem sc_l_divisor:FnScope ["_law_one", "_law_other"] ["_law_one", "_law_other"] (Zah ZcT):=⟨rfl,rfl,rfl,by decide +kernel,rfl,by decide +kernel,by decide +kernel⟩
theorem Zgo(h:Here K mg "_law_divisor" ZcT) (T:Nm mg):Has P w K mg base "_law_divisor" 1 ["_law_one", "_law_other"] ZaV:=by
  refine h.has (λf fd F=>F.binds λ_ _ _ _ _ _ us hl=>by obtain ⟨_,_,rfl⟩:=Zdm hl; exact rfl) λf fd F=>F.ok sc_l_divisor (λvs H Q E h=>?_) (λcdv A outer s H vs Q E hr h=>?_)
  · obtain ⟨a,b,rfl,_⟩:=h
    rfl
  obtain ⟨x,y,rfl,k⟩:=h
  have nd:=sc_l_divisor.nd
  refine ⟨_,(Zac (ZbM PassesOwn.never (Zaq Zin (pv 1) Zad (Zaw _)) (Zae (Znj (i:=0) (j:=1) rfl nd rfl rfl (by decide) rfl rfl (Zaa (pv 1) (Zaa (Zai ZaN (pv 0) (pv 1)) Zab)) rfl)))
    (Zae (Zan (Zaj Zfj (by rfl) T.abs boot_abs (Zaa (pv 0) Zab))))),?_⟩
  refine ⟨λm σ H'=>∃(a b:Int),m=b.natAbs/\σ=[some (.int a),some (.int b)]/\H'=H/\Int.gcd a b=Int.gcd x y,⟨_,x,y,rfl,rfl,rfl,rfl⟩,?_⟩
  rintro m σ H' ⟨a,b,rfl,rfl,rfl,g⟩
  refine ⟨_,rfl,rfl,_,rfl,?_⟩
  refine Ze1 (λhb=>⟨_,λ_ _ h=>h,?_⟩) (λhb=>?_)
  · refine ⟨_,rfl,_,rfl,_,rfl,_,_,rfl,rfl,hb,_,_,rfl,?_⟩
    exact ⟨_,M1.fmod_lt a hb,b,a.fmod b,rfl,rfl,rfl,by rw[M1.fmod_gcd]; exact g⟩
  · refine ⟨_,rfl,_,rfl,?_⟩
    subst hb
    rw[<-M1.gcd_zero' a,g]
    exact k
end
def ZdT:Sp:=λvs H Q _=>∃i:Int,vs=[.int i]/\Q (.bl true) H
section
variable{P:Program}{w:World}{K:PySem.W.Frag}{mg:Str->Option Value}{base:Heap}
theorem Zg0:FnScope ["thing"] ["thing"] (Zah Zdn):=⟨rfl,rfl,rfl,by decide +kernel,rfl,by decide +kernel,by decide +kernel⟩
theorem Zg1(h:Here K mg "is_whole" Zdn) (T:Nm mg):Has P w K mg base "is_whole" 1 ["thing"] ZdT:=by
  refine h.has (λf fd F=>F.binds λ_ _ _ _ _ _ us hl=>by obtain ⟨_,rfl⟩:=Zjv hl; exact rfl) λf fd F=>F.ok Zg0 (λvs H Q E h=>?_) (λcdv A outer s H vs Q E hr h=>?_)
  · obtain ⟨_,rfl,_⟩:=h
    rfl
  obtain ⟨i,rfl,k⟩:=h
  refine ⟨_,(Zae (Zan (Zd4 (Zaj Zb2 (by rfl) T.isinstance boot_isinstance (Zaa (pv 0) (Zaa (ZcH (by rfl) T.int boot_int) Zab))) (ZeY (Zlb (Zaj Zb2 (by rfl) T.isinstance boot_isinstance (Zaa (pv 0) (Zaa (ZcH (by rfl) T.bool boot_bool) Zab)))))))),?_⟩
  refine ⟨_,rfl,_,_,_,_,rfl,.int i,Zb3 K _,_,rfl,?_⟩
  refine Ziv ?_
  exact ⟨_,rfl,_,_,_,_,rfl,.int i,ZdE K,_,rfl,k⟩
end
section
variable{P:Program}{w:World}{K:PySem.W.Frag}{mg:Str->Option Value}{base:Heap}
theorem ZiB:FnScope ["_law_found"] ["_law_found"] (Zah Zef):=⟨rfl,rfl,rfl,by decide +kernel,rfl,by decide +kernel,by decide +kernel⟩
theorem ZiC(h:Here K mg "_law_whole" Zef) (T:Nm mg):Has P w K mg base "_law_whole" 1 ["_law_found"] ZdT:=by
  refine h.has (λf fd F=>F.binds λ_ _ _ _ _ _ us hl=>by obtain ⟨_,rfl⟩:=Zjv hl; exact rfl) λf fd F=>F.ok ZiB (λvs H Q E h=>?_) (λcdv A outer s H vs Q E hr h=>?_)
  · obtain ⟨_,rfl,_⟩:=h
    rfl
  obtain ⟨i,rfl,k⟩:=h
  refine ⟨_,(Zae (Zan (Zd4 (Zaj Zb2 (by rfl) T.isinstance boot_isinstance (Zaa (pv 0) (Zaa (ZcH (by rfl) T.int boot_int) Zab))) (ZeY (Zlb (Zaj Zb2 (by rfl) T.isinstance boot_isinstance (Zaa (pv 0) (Zaa (ZcH (by rfl) T.bool boot_bool) Zab)))))))),?_⟩
  refine ⟨_,rfl,_,_,_,_,rfl,.int i,Zb3 K _,_,rfl,?_⟩
  refine Ziv ?_
  exact ⟨_,rfl,_,_,_,_,rfl,.int i,ZdE K,_,rfl,k⟩
end
def ZdU:Sp:=λvs H Q _=>∃n:Int,vs=[.int n]/\n<1000000/\(M2.Prm n->Q (.bl true) H)/\(¬M2.Prm n->Q (.bl false) H)
section
variable{P:Program}{w:World}{K:PySem.W.Frag}{mg:Str->Option Value}{base:Heap}
theorem sc_is_prime:FnScope ["number", "trial"] ["number"] (Zah Zdo):=⟨rfl,rfl,rfl,by decide +kernel,rfl,by decide +kernel,by decide +kernel⟩
theorem Zg2(h:Here K mg "is_prime" Zdo) (T:Nm mg):Has P w K mg base "is_prime" 1 ["number"] ZdU:=by
  refine h.has (λf fd F=>F.binds λ_ _ _ _ _ _ us hl=>by obtain ⟨_,rfl⟩:=Zjv hl; exact rfl) λf fd F=>F.ok sc_is_prime (λvs H Q E h=>?_) (λcdv A outer s H vs Q E hr h=>?_)
  · obtain ⟨_,rfl,_⟩:=h
    rfl
  obtain ⟨n,rfl,hn,kt,kf⟩:=h
  have nd:=sc_is_prime.nd
  obtain ⟨tk,hPB⟩:=T.PB
  refine ⟨_,(Zac (ZaD (Zc1 (Zaq Zio (pv 0) Zad (Zaw _)) (Zc0 (Zaq ZlU (pv 0) (Zb0 (v:=.int 1000000) (by rfl) hPB ⟨tk,rfl⟩) (Zaw _)))).pt (Zae (Zan Zdl)) Zar)
    (Zac (ZaD (Zaq Zbz (Zai Za0 (pv 0) Zad) Zad (Zaw _)) (Zae (Zan (Zcj Zbz (pv 0) Zad (Zaw _)))) Zar)
    (Zac (Zal (i:=1) nd rfl (Or.inl rfl) Zad)
    (Zac (ZbM PassesOwn.never (Zaq ZlT (Zai Zay (pv 1) (pv 1)) (pv 0) (Zaw _)) (Zac (ZaD (Zaq Zbz (Zai ZaN (pv 0) (pv 1)) Zad (Zaw _)) (Zae (Zan Zdl)) Zar)
      (Zae (ZiZ (i:=1) nd rfl (Or.inl rfl) Zad Zld))))
    (Zae (Zan Zdl)))))),?_⟩
  refine ⟨_,rfl,_,_,rfl,rfl,_,rfl,?_⟩
  refine Zbm (λh=>Ziv (kf λp=>by have:=p.1; omega)) (λh2=>?_)
  refine ⟨_,rfl,_,_,rfl,rfl,_,rfl,?_⟩
  refine Zbm (λh=>absurd h (by omega)) (λ_=>?_)
  refine ⟨_,rfl,_,_,rfl,rfl,(by show (0:Int)<_; decide),rfl,_,rfl,?_⟩
  refine Zbn (λe=>?_) (λe=>?_)
  · refine ⟨_,rfl,rfl,?_⟩
    rw[Zl7]
    have iff:=M2.prm_even (n:=n) (by omega) e
    by_cases hp:n=2
    · rw[decide_eq_true hp]; exact kt (iff.mpr hp)
    · rw[decide_eq_false hp]; exact kf λz=>hp (iff.mp z)
  refine ⟨λm σ H'=>∃t:Int,m=(n+2-t).toNat/\σ=[some (.int n),some (.int t)]/\H'=H/\3<=t/\t%2=1/\t<=n+2/\M2.No n t,⟨_,3,rfl,rfl,rfl,by omega,by omega,by omega,M2.No.odd e⟩,?_⟩
  rintro m σ H' ⟨t,rfl,rfl,rfl,h3,ho,hle,no⟩
  have tf:t.natAbs<=10^150:=Q0 (show t.natAbs<=1000002 by omega) (by decide)
  refine ⟨_,rfl,_,rfl,_,_,rfl,rfl,(ZaO tf tf),_,rfl,_,_,rfl,rfl,_,rfl,?_⟩
  refine Zbm (λhl=>⟨_,λ_ _ h=>h,?_⟩) (λhl=>?_)
  · refine ⟨_,rfl,_,rfl,_,_,rfl,rfl,(show t≠0 by omega),rfl,_,rfl,?_⟩
    have lt:=M2.le_of_sq (by omega) hl
    refine Zbn (λz=>kf (M2.found (by omega) hl ((M2.fmod_dvd (by omega)).mp z))) (λz=>?_)
    refine ⟨_,rfl,_,_,rfl,rfl,?_⟩
    exact ⟨_,by omega,t+2,rfl,rfl,rfl,by omega,by omega,by omega,no.next e ho λd=>z ((M2.fmod_dvd (by omega)).mpr d)⟩
  · exact kt (no.done (by omega) (by omega) hl)
end
section
variable{P:Program}{w:World}{K:PySem.W.Frag}{mg:Str->Option Value}{base:Heap}
theorem sc_l_is_prime:FnScope ["_law_number", "_law_by"] ["_law_number"] (Zah Zco):=⟨rfl,rfl,rfl,by decide +kernel,rfl,by decide +kernel,by decide +kernel⟩
theorem ZfC(h:Here K mg "_law_is_prime" Zco):Has P w K mg base "_law_is_prime" 1 ["_law_number"] ZdU:=by
  refine h.has (λf fd F=>F.binds λ_ _ _ _ _ _ us hl=>by obtain ⟨_,rfl⟩:=Zjv hl; exact rfl) λf fd F=>F.ok sc_l_is_prime (λvs H Q E h=>?_) (λcdv A outer s H vs Q E hr h=>?_)
  · obtain ⟨_,rfl,_⟩:=h
    rfl
  obtain ⟨n,rfl,hn,kt,kf⟩:=h
  have nd:=sc_l_is_prime.nd
  refine ⟨_,(Zac (Zal (i:=1) nd rfl (Or.inl rfl) Zad)
    (Zac (ZbM PassesOwn.never (Zaq ZlT (Zai Zay (pv 1) (pv 1)) (pv 0) (Zaw _)) (Zac (ZaD (Zaq Zbz (Zai ZaN (pv 0) (pv 1)) Zad (Zaw _)) (Zae (Zan Zdl)) Zar)
      (Zae (Zal (i:=1) nd rfl (Or.inl rfl) (Zai ZaE (pv 1) Zad)))))
    (Zae (Zan (Zcj ZdM (pv 0) Zad (Zaw _)))))),?_⟩
  refine ⟨λm σ H'=>∃t:Int,m=(n+2-t).toNat/\σ=[some (.int n),some (.int t)]/\H'=H/\2<=t/\(t<=2\/t<=n)/\M2.No n t,⟨_,2,rfl,rfl,rfl,by omega,by omega,M2.No.two⟩,?_⟩
  rintro m σ H' ⟨t,rfl,rfl,rfl,h3,hle,no⟩
  have tf:t.natAbs<=10^150:=Q0 (show t.natAbs<=1000002 by omega) (by decide)
  refine ⟨_,rfl,_,rfl,_,_,rfl,rfl,(ZaO tf tf),_,rfl,_,_,rfl,rfl,_,rfl,?_⟩
  refine Zbm (λhl=>⟨_,λ_ _ h=>h,?_⟩) (λhl=>?_)
  · refine ⟨_,rfl,_,rfl,_,_,rfl,rfl,(show t≠0 by omega),rfl,_,rfl,?_⟩
    have lt:=M2.le_of_sq (by omega) hl
    refine Zbn (λz=>kf (M2.found (by omega) hl ((M2.fmod_dvd (by omega)).mp z))) (λz=>?_)
    refine ⟨_,rfl,_,_,rfl,rfl,?_⟩
    exact ⟨_,by omega,t+1,rfl,rfl,rfl,by omega,by omega,no.one λd=>z ((M2.fmod_dvd (by omega)).mpr d)⟩
  · refine ⟨_,rfl,_,_,rfl,rfl,?_⟩
    show Q (V.bl (decide (1<n))) _
    by_cases h2:1<n
    · rw[decide_eq_true h2]; exact kt (no.done (by omega) (by omega) hl)
    · rw[decide_eq_false h2]; exact kf λp=>by have:=p.1; omega
end
def Zc7(K:PySem.W.Frag):Sp:=λvs H Q _=>∃(p r:Addr) (q a0 a1 a2 b0 b1 b2:Int),vs=[.ref p,.int q,.ref r]/\SqT K H p [.int a0,.int a1,.int a2]/\SqT K H r [.int b0,.int b1,.int b2] ∧
  IntMulOk q b0/\IntMulOk q b1/\IntMulOk q b2/\∀t,H t=none->Q (.ref t) (upd H t (.tup [.int (a0-q*b0),.int (a1-q*b1),.int (a2-q*b2)]))
section
variable{P:Program}{w:World}{K:PySem.W.Frag}{mg:Str->Option Value}{base:Heap}
theorem ZfD:FnScope ["some", "factor", "others"] ["some", "factor", "others"] (Zah Zcm):=⟨rfl,rfl,rfl,by decide +kernel,rfl,by decide +kernel,by decide +kernel⟩
theorem ZfE(h:Here K mg "less_times" Zcm):Has P w K mg base "less_times" 1 ["some", "factor", "others"] (Zc7 K):=by
  refine h.has (λf fd F=>F.binds λ_ _ _ _ _ _ us hl=>by obtain ⟨_,_,_,rfl⟩:=Zed hl; exact rfl) λf fd F=>F.ok ZfD (λvs H Q E h=>?_) (λcdv A outer s H vs Q E hr h=>?_)
  · obtain ⟨_,_,_,_,_,_,_,_,_,rfl,_⟩:=h
    rfl
  obtain ⟨p,r,q,a0,a1,a2,b0,b1,b2,rfl,hp,hq,m0,m1,m2,k⟩:=h
  refine ⟨_,(Zae (Zan (Zbh (Zaa (Zai Zbb (Zao Zat (pv 0) Zad (λ_ _=>rfl)) (Zai Zay (pv 1) (Zao Zat (pv 2) Zad (λ_ _=>rfl)))) (Zaa (Zai Zbb (Zao Zat (pv 0) Zad (λ_ _=>rfl)) (Zai Zay (pv 1) (Zao Zat (pv 2) Zad (λ_ _=>rfl)))) (Zaa (Zai Zbb (Zao Zat (pv 0) Zad (λ_ _=>rfl)) (Zai Zay (pv 1) (Zao Zat (pv 2) Zad (λ_ _=>rfl)))) Zab)))))),?_⟩
  refine ⟨_,rfl,_,_,_,_,rfl,rfl,hp,rfl,_,rfl,_,rfl,_,_,_,_,rfl,rfl,hq,rfl,_,_,rfl,rfl,m0,_,_,rfl,rfl,?_⟩
  refine ⟨_,rfl,_,_,_,_,rfl,rfl,hp,rfl,_,rfl,_,rfl,_,_,_,_,rfl,rfl,hq,rfl,_,_,rfl,rfl,m1,_,_,rfl,rfl,?_⟩
  refine ⟨_,rfl,_,_,_,_,rfl,rfl,hp,rfl,_,rfl,_,rfl,_,_,_,_,rfl,rfl,hq,rfl,_,_,rfl,rfl,m2,_,_,rfl,rfl,?_⟩
  exact ⟨(by show 3<=sizeLine; decide),k⟩
end
def Zc8:Sp:=λvs H Q _=>∃x y:Int,vs=[.int x,.int y]/\x.natAbs<=10^100/\y.natAbs<=10^100 ∧
  ∀(t:Addr) (H':Hp) (u v:Int),Same H H'->H' t=some (.tup [.int (Int.gcd x y),.int u,.int v])->(Int.gcd x y:Int)=x*u+y*v->u.natAbs<=10^101->v.natAbs<=10^101->Q (.ref t) H'
section
variable{P:Program}{w:World}{K:PySem.W.Frag}{mg:Str->Option Value}{base:Heap}
theorem sc_shares:FnScope ["one", "other", "upper", "lower", "following"] ["one", "other"] (Zah Zfr):=⟨rfl,rfl,rfl,by decide +kernel,rfl,by decide +kernel,by decide +kernel⟩
theorem ZjA(h:Here K mg "shares" Zfr) (h_less_times:Has P w K mg base "less_times" 1 ["some", "factor", "others"] (Zc7 K)):Has P w K mg base "shares" 2 ["one", "other"] Zc8:=by
  refine h.has (λf fd F=>F.binds λ_ _ _ _ _ _ us hl=>by obtain ⟨_,_,rfl⟩:=Zdm hl; exact rfl) λf fd F=>F.ok sc_shares (λvs H Q E h=>?_) (λcdv A outer s H vs Q E hr h=>?_)
  · obtain ⟨_,_,rfl,_⟩:=h
    rfl
  obtain ⟨x,y,rfl,bx,bY,k⟩:=h
  have nd:=sc_shares.nd
  refine ⟨_,(Zac (Zal (i:=2) nd rfl (Or.inl rfl) (Zbh (Zaa (pv 0) (Zaa Zad (Zaa Zad Zab)))))
    (Zac (Zal (i:=3) nd rfl (Or.inl rfl) (Zbh (Zaa (pv 1) (Zaa Zad (Zaa Zad Zab)))))
    (Zac (ZbM PassesOwn.never (Zaq Zin (Zao Zat (pv 3) Zad (λ_ _=>rfl)) Zad (Zaw _)) (Zac (Zal (i:=4) nd rfl (Or.inl rfl) (Zak h_less_times hr (by rfl) (Zaa (pv 2) (Zaa (Zai Zfl (Zao Zat (pv 2) Zad (λ_ _=>rfl)) (Zao Zat (pv 3) Zad (λ_ _=>rfl))) (Zaa (pv 3) Zab)))))
      (Zac (Zal (i:=2) nd rfl (Or.inl rfl) (pv 3))
      (Zae (Zal (i:=3) nd rfl (Or.inl rfl) (pv 4))))))
    (Zac (ZaD (Zaq Zio (Zao Zat (pv 2) Zad (λ_ _=>rfl)) Zad (Zaw _)) (Zae (Zan (Zak h_less_times hr (by rfl) (Zaa (Zbh (Zaa Zad (Zaa Zad (Zaa Zad Zab)))) (Zaa Zad (Zaa (pv 2) Zab)))))) Zar)
    (Zae (Zan (pv 2))))))),?_⟩
  refine ⟨_,rfl,(by show 3<=sizeLine; decide),λp0 hp0=>?_⟩
  refine ⟨_,rfl,(by show 3<=sizeLine; decide),λp1 hp1=>?_⟩
  have S0:Same H (upd H p0 (.tup [.int x,.int 1,.int 0])):=Zag hp0 _
  have S1:=S0.trans (Zag hp1 (.tup [.int y,.int 0,.int 1]))
  refine ⟨λm σ H'=>∃(p r:Addr) (f:Option V) (a u1 v1 b u2 v2:Int),m=b.natAbs/\σ=[some (.int x),some (.int y),some (.ref p),some (.ref r),f]/\Same H H'/\H' p=some (.tup [.int a,.int u1,.int v1])/\H' r=some (.tup [.int b,.int u2,.int v2])/\M1.Sh x y a u1 v1 b u2 v2,
    ⟨_,p0,p1,none,x,1,0,y,0,1,rfl,rfl,S1,by rw[Zau (ZaA Zaf hp1)]; exact Zaf,Zaf,M1.Sh.start x y⟩,?_⟩
  rintro m σ H' ⟨p,r,f,a,u1,v1,b,u2,v2,rfl,rfl,S,hp,hr',I⟩
  have bd:=I.bound
  have lim:x.natAbs+2*y.natAbs+1+1<=10^150:=by omega
  have lim0:=Nat.le_of_succ_le lim
  refine ⟨_,rfl,_,_,_,_,rfl,rfl,SqT.of hr',rfl,rfl,_,rfl,?_⟩
  refine Ze1 (λhb=>⟨_,λ_ _ h=>h,?_⟩) (λhb=>?_)
  · refine ⟨_,rfl,_,rfl,_,_,_,_,rfl,rfl,SqT.of hp,rfl,_,rfl,_,_,_,_,rfl,rfl,SqT.of hr',rfl,_,_,rfl,rfl,⟨hb,Q0 bd.2.2.2.1 lim0⟩,_,rfl,?_⟩
    have fd:=Q0 (M1.fdiv_small a hb) (Q0 (Nat.succ_le_succ bd.1) lim)
    refine ⟨p,r,a.fdiv b,a,u1,v1,b,u2,v2,rfl,SqT.of hp,SqT.of hr',ZaO fd (Q0 bd.2.2.2.1 lim0),ZaO fd (Q0 bd.2.2.2.2.1 lim0),ZaO fd (Q0 bd.2.2.2.2.2 lim0),λt ht=>?_⟩
    refine ⟨_,rfl,_,rfl,?_⟩
    exact ⟨_,(by rw[M1.rest_eq]; exact M1.fmod_lt a hb),r,t,_,b,u2,v2,_,_,_,rfl,rfl,S.trans (Zag ht _),by rw[Zau (ZaA hr' ht)]; exact hr',Zaf,I.turn hb⟩
  · subst hb
    obtain ⟨g1,g2⟩:=I.done
    refine ⟨_,rfl,_,_,_,_,rfl,rfl,SqT.of hp,rfl,_,_,rfl,rfl,_,rfl,?_⟩
    refine Zbm (λhn=>?_) (λhn=>?_)
    · refine ⟨(by show 3<=sizeLine; decide),λz hz=>?_⟩
      refine ⟨_,rfl,?_⟩
      refine ⟨z,p,1,0,0,0,a,u1,v1,rfl,SqT.of Zaf,SqT.of (by rw[Zau (ZaA hp hz)]; exact hp),ZaO (by decide) (Q0 bd.1 lim0),ZaO (by decide) (Q0 bd.2.1 lim0),ZaO (by decide) (Q0 bd.2.2.1 lim0),λt ht=>?_⟩
      have ed:(0:Int)-1*a=Int.gcd x y:=by omega
      refine k t _ (0-1*u1) (0-1*v1) ((S.trans (Zag hz _)).trans (Zag ht _)) (by rw[Zaf,ed]) ?_ (by omega) (by omega)
      rw[<-ed,g2,U9,U9,U9,Int.mul_sub,Int.mul_sub]
      omega
    · refine ⟨_,rfl,?_⟩
      have ed:a=Int.gcd x y:=by omega
      refine k p H' u1 v1 S (by rw[<-ed]; exact hp) (by rw[<-ed]; exact g2) (by omega) (by omega)
end
def ReA(CR:Addr)(p:Int)(H:Hp)(a:Addr):Prop:=∃dx,H a=some (.ins CR dx (fsR p))
def ZhN(CR:Addr):Sp:=λvs H Q _=>∃(x dx:Addr) (p:Int),vs=[.ref x,.int p]/\H x=some (.ins CR dx [])/\M2.Prm p/\p<1000000/\Q .non (upd H x (.ins CR dx (fsR p)))
section
variable{P:Program}{w:World}{K:PySem.W.Frag}{mg:Str->Option Value}{base:Heap}
theorem Zds:FnScope ["self", "prime"] ["self", "prime"] (Zah ZbC):=⟨rfl,rfl,rfl,by decide +kernel,rfl,by decide +kernel,by decide +kernel⟩
theorem ZkJ{CR:Addr}(h:HereI K CR "Rests.__init__" ZbC) (cl:Cls K CR) (nP:NoAttr K CR "prime") (h_is_whole:Has P w K mg base "is_whole" 1 ["thing"] ZdT) (h_is_prime:Has P w K mg base "is_prime" 1 ["number"] ZdU):HasI P w K mg base CR 2 ["self", "prime"] (ZhN CR):=by
  refine h.hasI (λf fd F=>F.binds λ_ _ _ _ _ _ us hl=>by obtain ⟨_,_,rfl⟩:=Zdm hl; exact rfl) λf fd F=>F.ok Zds (λvs H Q E h=>?_) (λcdv A outer s H vs Q E hr h=>?_)
  · obtain ⟨_,_,_,rfl,_⟩:=h
    rfl
  obtain ⟨x,dx,p,rfl,hx,hp,lp,k⟩:=h
  refine ⟨_,(Zac (ZaD (Zc1 (Zci (ZaL (Zak h_is_whole hr (by rfl) (Zaa (pv 1) Zab)))) (Zc0 (Zci (ZaL (Zak h_is_prime hr (by rfl) (Zaa (pv 1) Zab)))))).pt (Zae Zks) Zar)
    (Zae (Zno (pv 0) (pv 1) rfl))),?_⟩
  refine ⟨_,rfl,p,rfl,_,rfl,?_⟩
  refine ZdP ?_
  refine ⟨_,rfl,p,rfl,lp,λ_=>⟨_,rfl,?_⟩,λz=>absurd hp z⟩
  refine ZdP ?_
  exact ⟨_,rfl,_,rfl,x,CR,dx,_,rfl,hx,cl,nP,(by show 0<1000; decide),k⟩
end
structure CN (K:PySem.W.Frag) (mg:Str->Option Value) (x:Str) (C:Addr):Prop where
  m:mg x=some (.ref C)
  c:PySem.W.isClsIn K C=true
  t:PySem.W.typeIn K (.ref C)=some (.type "type")
structure Rf (K:PySem.W.Frag) (mg:Str->Option Value) (CE cK cN cF cT cI cX cM cR:Addr):Prop where
  e:CN K mg "FrameError" CE
  eb:PySem.W.mroIn K CE (.type "BaseException")=some true
  k:CN K mg "NoKind" cK
  n:CN K mg "NoNumber" cN
  f:CN K mg "NoFit" cF
  t:CN K mg "NoTurn" cT
  i:CN K mg "NoInverse" cI
  x:CN K mg "NoText" cX
  m:CN K mg "NoName" cM
  r:CN K mg "NoRow" cR
  ve:mg "ValueError" = none
theorem Rf.cat{K:PySem.W.Frag}{mg:Str->Option Value}{CE cK cN cF cT cI cX cM cR:Addr}(R:Rf K mg CE cK cN cF cT cI cX cM cR):CatC K mg "FrameError" CE:=⟨R.e.m,R.e.t,R.eb,R.e.c⟩
def ZkK(K:PySem.W.Frag)(C:Addr):List Addr->Prop
  | []=>True
  | D::r=>(PySem.W.mroIn K C (.ref D)=some false/\C≠D)/\ZkK K C r
structure Rz (K:PySem.W.Frag) (mg:Str->Option Value) (x:Str) (CE C:Addr) (os:List Addr):Prop where
  c:ExcC K mg x C
  e:PySem.W.mroIn K C (.ref CE)=some true
  v:PySem.W.mroIn K C (.type "ValueError")=some true
  o:ZkK K C os
theorem CN.no{K:PySem.W.Frag}{mg:Str->Option Value}{x:Str}{C D:Addr}(n:CN K mg x D)(h:PySem.W.mroIn K C (.ref D)=some false/\C≠D):PySem.W.kitOne K (.ref C) (.ref D)=some false:=Zmg n.c n.t h.1 h.2
def Zpf(m:Nat)(g:Nat->V):List V:=(List.range m).map g
theorem Zaz{rs:List Addr}{i:Nat}{x:V}(h:(rs.map V.ref)[i]?=some x):∃r,rs[i]?=some r/\x = .ref r:=by
  rw[Qc] at h
  cases e:rs[i]? with
  | none=>rw[e] at h; cases h
  | some r=>rw[e] at h; exact ⟨r,rfl,(Option.some.inj h).symm⟩
theorem ZbG{rs:List Addr}{i:Nat}{r:Addr}(h:rs[i]?=some r):atI (rs.map V.ref) (i:Int)=some (.ref r):=ZaF (by rw[Qc,h]; rfl)
def Rows(H:Hp)(rs:List Addr)(m:Nat)(g:Nat->Nat->V):Prop:=∀(i:Nat) (r:Addr),rs[i]?=some r->H r=some (.lst (Zpf m (g i)))
structure Tb (H:Hp) (t:Addr) (rs:List Addr) (m:Nat) (g:Nat->Nat->V):Prop where
  l:H t=some (.lst (rs.map V.ref))
  r:Rows H rs m g
structure New (H:Hp) (rs:List Addr):Prop where
  nd:rs.Nodup
  no:∀r∈rs,H r=none
theorem New.nil{H:Hp}:New H []:=⟨List.nodup_nil,λ_ h=>nomatch h⟩
theorem New.snoc{H:Hp}{rs:List Addr}{r:Addr}(h:New H rs)(n:H r=none)(hr:r∉rs):New H (rs++[r]) :=
  ⟨by rw[List.nodup_append]; exact ⟨h.nd,by simp,λa ha b hb=>by rw[Q3] at hb; subst hb; exact λz=>hr (z ▸ ha)⟩,λx hx=>by
    rcases Qq.mp hx with hx | hx
    · exact h.no x hx
    · rw[Q3.mp hx]; exact n⟩
theorem Rows.same{H H':Hp}{rs:List Addr}{m:Nat}{g:Nat->Nat->V}(h:Rows H rs m g)(S:Same H H'):Rows H' rs m g:=λi r e=>S _ _ (h i r e)
theorem Tb.same{H H':Hp}{t:Addr}{rs:List Addr}{m:Nat}{g:Nat->Nat->V}(h:Tb H t rs m g)(S:Same H H'):Tb H' t rs m g:=⟨S _ _ h.l,h.r.same S⟩
theorem Rows.snoc{H:Hp}{rs:List Addr}{r:Addr}{m:Nat}{g:Nat->Nat->V}(h:Rows H rs m g)(e:H r=some (.lst (Zpf m (g rs.length)))):Rows H (rs++[r]) m g:=λi x hx=>by
  rw[List.getElem?_append] at hx
  split at hx
  · exact h i x hx
  · rename_i hi
    have:i-rs.length=0:=by
      cases q:i-rs.length with
      | zero=>rfl
      | succ n=>rw[q] at hx; simp at hx
    have hi2:i=rs.length:=by omega
    subst hi2
    simp at hx
    subst hx
    exact e
theorem Rows.notin{H:Hp}{rs:List Addr}{r:Addr}{m:Nat}{g:Nat->Nat->V}(h:Rows H rs m g)(n:H r=none):r∉rs:=λz=>by
  obtain ⟨i,hi,e⟩:=List.getElem_of_mem z
  have:=h i r (by rw[<-e]; simp[hi])
  rw[this] at n
  cases n
theorem Zgp{l:List Addr}(h:l.Nodup){i j:Nat}{a:Addr}(hi:l[i]?=some a)(hj:l[j]?=some a):i=j:=by
  obtain ⟨l1,e1⟩:=Qi.mp hi
  obtain ⟨l2,e2⟩:=Qi.mp hj
  have p:=List.pairwise_iff_getElem.mp h
  rcases Nat.lt_trichotomy i j with c | c | c
  · exact absurd (e1.trans e2.symm) (p i j l1 l2 c)
  · exact c
  · exact absurd (e2.trans e1.symm) (p j i l2 l1 c)
theorem New.out{H:Hp}{rs:List Addr}{a:Addr}{o:HO}(h:New H rs)(q:H a=some o):a∉rs:=λm=>by rw[h.no a m] at q; cases q
theorem Zmn{n i:Nat}(h:i<n):ixN n ((i:Nat):Int)=some i:=by
  have:=ZaF (xs:=List.range n) (j:=i) (v:=i) (by simp[h])
  unfold atI at this
  rw[W3] at this
  cases q:ixN n (i:Int) with
  | none=>rw[q] at this; cases this
  | some j =>
    rw[q] at this
    simp only[Option.bind_some] at this
    have h2:=(Qi.mp this).2
    simp at h2
    rw[h2]
def KdA(CF CR:Addr)(p:Int)(H:Hp)(k:Addr):Prop:=(p=0/\FrA CF H k)\/(M2.Prm p/\p<1000000/\ReA CR p H k)
theorem KdA.same{CF CR:Addr}{p:Int}{H H':Hp}{k:Addr}(h:KdA CF CR p H k)(S:Same H H'):KdA CF CR p H' k:=by
  rcases h with ⟨e,dx,h⟩ | ⟨e,l,dx,h⟩
  · exact .inl ⟨e,dx,S _ _ h⟩
  · exact .inr ⟨e,l,dx,S _ _ h⟩
def Ez(H:Hp)(p e:Int)(v:V):Prop:=(p=0/\∃t,v = .ref t/\H t=some (.tup [.int e,.int 1]))\/(0<p/\v = .int e)
theorem Ez.same{H H':Hp}{p e:Int}{v:V}(h:Ez H p e v)(S:Same H H'):Ez H' p e v:=by
  rcases h with ⟨z,t,rfl,h⟩ | h
  · exact .inl ⟨z,t,rfl,S _ _ h⟩
  · exact .inr h
theorem ZnD{ns:List Int}{i:Nat}(h:i<ns.length):atI (ns.map V.int) (i:Int)=some (.int ns[i]):=ZaF (by rw[Qc,Q5 h] <;> rfl)
def PK(p:Int):Prop:=p=0\/(M2.Prm p/\p<1000000)
def Nu(H:Hp)(p:Int)(v:V):Prop:=(p=0/\∃t a b,v = .ref t/\H t=some (.tup [.int a,.int b])/\Fc a b/\a.natAbs<=10^60/\b.natAbs<=10^60)\/(0<p/\∃x,v = .int x/\0<=x/\x<p)
theorem Nu.same{H H':Hp}{p:Int}{v:V}(h:Nu H p v)(S:Same H H'):Nu H' p v:=by
  rcases h with ⟨z,t,a,b,rfl,h,r⟩ | h
  · exact .inl ⟨z,t,a,b,rfl,S _ _ h,r⟩
  · exact .inr h
structure Ce (H:Hp) (c:Addr) (cs:List Int):Prop where
  l:H c=some (.lst (cs.map V.int))
  h1:1<=cs.length
  h2:cs.length<=66
  b:∀i∈cs,Bits 1048576 i
theorem Ce.same{H H':Hp}{c:Addr}{cs:List Int}(h:Ce H c cs)(S:Same H H'):Ce H' c cs:=⟨S _ _ h.l,h.h1,h.h2,h.b⟩
def Off(D:List Addr)(H H':Hp):Prop:=∀a o,a∉D->H a=some o->H' a=some o
theorem Off.same{D:List Addr}{H0 H H':Hp}(O:Off D H H')(S:Same H0 H)(n:∀r∈D,H0 r=none):Same H0 H':=λb o q=>O b o (λm=>by rw[n b m] at q; cases q) (S _ _ q)
def NuEq(H:Hp)(p:Int)(x y:V):Prop:=(0<p/\∃i,x = .int i/\y = .int i)\/(p=0/\∃s t a b,x = .ref s/\y = .ref t/\H s=some (.tup [.int a,.int b])/\H t=some (.tup [.int a,.int b]))
theorem NuEq.same{H H':Hp}{p:Int}{x y:V}(h:NuEq H p x y)(S:Same H H'):NuEq H' p x y:=by
  rcases h with h | ⟨z,s,t,a,b,e1,e2,h1,h2⟩
  · exact .inl h
  · exact .inr ⟨z,s,t,a,b,e1,e2,S _ _ h1,S _ _ h2⟩
theorem Nu.eq{H:Hp}{p:Int}{x:V}(h:Nu H p x):NuEq H p x x:=by
  rcases h with ⟨z,t,a,b,e,h,_⟩ | ⟨z,i,e,_⟩
  · exact .inr ⟨z,t,t,a,b,e,e,h,h⟩
  · exact .inl ⟨z,i,e,e⟩
theorem Ez.eq{H:Hp}{p e:Int}{x y:V}(h:Ez H p e x)(h':Ez H p e y):NuEq H p x y:=by
  rcases h with ⟨z,t,e1,h1⟩ | ⟨z,e1⟩
  · rcases h' with ⟨_,t',e2,h2⟩ | ⟨z',_⟩
    · exact .inr ⟨z,t,t',_,_,e1,e2,h1,h2⟩
    · omega
  · rcases h' with ⟨z',_⟩ | ⟨_,e2⟩
    · omega
    · exact .inl ⟨z,_,e1,e2⟩
theorem Nu.kind{H:Hp}{p:Int}{x:V}(h:Nu H p x):(∃i,x = .int i)\/∃a,x = .ref a:=by
  rcases h with ⟨_,t,_,_,e,_⟩ | ⟨_,i,e,_⟩
  · exact .inr ⟨t,e⟩
  · exact .inl ⟨i,e⟩
end My
namespace My
open PySem L2 PyProof.Rows
class Fd (α:Type) extends Lean.Grind.CommRing α where
  inv:α->α
  mul_inv:∀a:α,a≠0->a*inv a=1
  zne:(0:α)≠1
instance:Fd Rat where
  inv:=Rat.inv
  mul_inv:=λa h=>Rat.mul_inv_cancel a h
  zne:=by decide
theorem bez:∀a b:Nat,∃u v:Int,a*u+b*v=(Nat.gcd a b:Int):=by
  intro a b
  induction a,b using Nat.gcd.induction with
  | H0 n=>exact ⟨0,1,by simp⟩
  | H1 m n hm ih =>
    obtain ⟨u,v,e⟩:=ih
    refine ⟨v-(n/m:Nat)*u,u,?_⟩
    rw[Nat.gcd_rec,<-e]
    have h:(n:Int)=m*(n/m:Nat)+(n%m:Nat):=by
      have:=Nat.div_add_mod n m
      exact_mod_cast this.symm
    rw[Int.mul_sub]
    conv=>lhs; rw[h]
    rw[Int.add_mul]
    generalize ((n/m:Nat):Int)=q
    generalize ((n%m:Nat):Int)=r
    have e1:(m:Int)*(q*u)=m*q*u:=by rw[Qn]
    omega
structure PrN (p:Nat):Prop where
  pr:M2.Prm (p:Int)
  lt:p<1000000
theorem PrN.two{p:Nat}(h:PrN p):2<=p:=by have:=h.pr.1; omega
theorem PrN.nz{p:Nat}(h:PrN p):NeZero p:=⟨by have:=h.two; omega⟩
theorem ZjB{p:Nat}(h:PrN p):letI:=h.nz; ∀a:Fin p,a≠0->∃b:Fin p,a*b=1:=by
  letI:=h.nz
  intro a ha
  have h2:=h.two
  have nd:¬(p:Int) ∣ (a.val:Int):=by
    rintro ⟨k,hk⟩
    have hv:a.val≠0:=λz=>ha (Fin.ext (by simpa using z))
    have hl:=a.isLt
    have hk0:0<k:=by
      rcases Int.lt_or_le 0 k with c | c
      · exact c
      · have:(p:Int)*k<=0:=Int.mul_nonpos_of_nonneg_of_nonpos (by omega) c
        omega
    have:(p:Int)*1<=p*k:=Int.mul_le_mul_of_nonneg_left (by omega) (by omega)
    omega
  have g:=M2.prm_gcd h.pr nd
  obtain ⟨u,v,e⟩:=bez a.val p
  have g':Nat.gcd a.val p=1:=by
    have:Int.gcd (a.val:Int) (p:Int)=Nat.gcd a.val p:=rfl
    omega
  rw[g'] at e
  refine ⟨⟨(u%p).toNat,?_⟩,?_⟩
  · have:=Wz u (show 0<(p:Int) by omega)
    have:=Wv u (show (p:Int)≠0 by omega)
    omega
  · refine Fin.ext ?_
    rw[Fin.val_mul]
    have e0:=Wv u (show (p:Int)≠0 by omega)
    have e1:((a.val*(u%p).toNat%p:Nat):Int)=((1:Nat):Int):=by
      rw[Wr,U0,Int.toNat_of_nonneg e0,Int.mul_emod,Int.emod_emod_of_dvd _ (Int.dvd_refl _),<-Int.mul_emod]
      have:(a.val:Int)*u=1-p*v:=by omega
      rw[this,Int.sub_emod,Int.mul_emod_right]
      simp
      exact Ww (by omega) (by omega)
    have e2:a.val*(u%p).toNat%p=1:=by exact_mod_cast e1
    have e3:(1:Fin p).val=1:=by
      show 1%p=1
      exact Nat.mod_eq_of_lt h2
    rw[e3]
    exact e2
@[reducible] noncomputable def finFd {p:Nat} (h:PrN p):Fd (Fin p) :=
  letI:=h.nz
  { (inferInstance:Lean.Grind.CommRing (Fin p)) with
    inv:=λa=>if ha:a≠0 then Classical.choose (ZjB h a ha) else 0
    mul_inv:=λa ha=>by
      simp only[dif_pos ha]
      exact Classical.choose_spec (ZjB h a ha)
    zne:=λz=>by
      have:=congrArg Fin.val z
      have h2:=h.two
      have e3:(1:Fin p).val=1:=by
        show 1%p=1
        exact Nat.mod_eq_of_lt h2
      have e4:(0:Fin p).val=0:=by simp
      rw[e3,e4] at this
      cases this }
inductive KX where
  | q
  | r (p:Nat) (h:PrN p)
@[reducible] def KX.F:KX->Type
  | .q=>Rat
  | .r p _=>Fin p
noncomputable instance (κ:KX):Fd κ.F:=match κ with
  | .q=>inferInstanceAs (Fd Rat)
  | .r _ h=>finFd h
def KX.P:KX->Int
  | .q=>0
  | .r p _=>p
def KX.D:(κ:KX)->κ.F->PyData
  | .q,x => .tuple [.int x.num,.int x.den]
  | .r _ _,x => .int x.val
def NR(κ:KX)(H:Hp)(v:V)(x:κ.F):Prop:=match κ with
  | .q=>∃a,v = .ref a/\H a=some (.tup [.int x.num,.int x.den])
  | .r _ _=>v = .int x.val
theorem NR.same{κ:KX}{H H':Hp}{v:V}{x:κ.F}(h:NR κ H v x)(S:Same H H'):NR κ H' v x:=by
  cases κ with
  | q=>obtain ⟨a,e,h⟩:=h; exact ⟨a,e,S _ _ h⟩
  | r p hp=>exact h
theorem NR.off{κ:KX}{H H':Hp}{t:Addr}{ys:List V}{v:V}{x:κ.F}(h:NR κ H v x)(ht:H t=some (.lst ys))(O:Off [t] H H'):NR κ H' v x:=by
  cases κ with
  | q =>
    obtain ⟨a,e,h⟩:=h
    refine ⟨a,e,O _ _ (λm=>?_) h⟩
    rw[Q3.mp m,ht] at h
    cases h
  | r p hp=>exact h
theorem Zcc{H:Hp}{i:Int}:Fl H (.int i) (.int i):=.inr (.inr (.inl ⟨i,rfl,rfl⟩))
theorem NR.rp{κ:KX}{H:Hp}{v:V}{x:κ.F}(h:NR κ H v x):Rp H 1 v (κ.D x):=by
  cases κ with
  | q =>
    obtain ⟨a,rfl,h⟩:=h
    exact Zgn h (.cons Zcc (.cons Zcc .nil))
  | r p hp =>
    have h:v = .int x.val:=h
    subst h
    exact .inl Zcc
def Bd(κ:KX)(n m:Nat)(x:κ.F):Prop:=match κ with
  | .q=>Bits n x.num/\Bits m (x.den:Int)
  | .r _ _=>True
theorem ZjC{n d N D:Int}(fc:Fc n d)(hD:0<D)(e:n*D=N*d):(Rat.divInt N D).num=n/\((Rat.divInt N D).den:Int)=d:=by
  have hd:=fc.pos
  have q0:∃q:Rat,q.num=n/\(q.den:Int)=d:=by
    refine ⟨⟨n,d.toNat,by omega,?_⟩,rfl,by show ((d.toNat:Nat):Int)=d; omega⟩
    have:=fc.cop
    rw[Nat.coprime_iff_gcd_eq_one]
    have e:Int.gcd n d=Nat.gcd n.natAbs d.natAbs:=rfl
    have e2:d.natAbs=d.toNat:=by omega
    rw[<-e2]
    omega
  obtain ⟨q,e1,e2⟩:=q0
  have:Rat.divInt N D=q:=by
    rw[<-Qs q,e1,e2,Qt (by omega) (by omega)]
    exact e.symm
  rw[this]
  exact ⟨e1,e2⟩
theorem Zbd(x:Rat):Fc x.num x.den:=⟨by have:=x.den_nz; omega,by
  have:=x.reduced
  rw[Nat.coprime_iff_gcd_eq_one] at this
  exact this⟩
theorem Zmo{x y:Rat}{n d:Int}(fc:Fc n d)(e:n*((x.den:Int)*y.den)=(x.num*y.den+y.num*x.den)*d):(x+y).num=n/\((x+y).den:Int)=d:=by
  have hx:=(Zbd x).pos
  have hy:=(Zbd y).pos
  have:x+y=Rat.divInt (x.num*y.den+y.num*x.den) ((x.den:Int)*y.den):=by
    rw[<-Ut _ _ (by omega) (by omega),Qs,Qs]
  rw[this]
  exact ZjC fc (Qk hx hy) e
theorem Zg3{x y:Rat}{n d:Int}(fc:Fc n d)(e:n*((x.den:Int)*y.den)=(x.num*y.num)*d):(x*y).num=n/\((x*y).den:Int)=d:=by
  have hx:=(Zbd x).pos
  have hy:=(Zbd y).pos
  have:x*y=Rat.divInt (x.num*y.num) ((x.den:Int)*y.den):=by
    rw[<-Wj,Qs,Qs]
  rw[this]
  exact ZjC fc (Qk hx hy) e
end My
namespace My
open PySem L2 PyProof.Rows
def Zgq(K:PySem.W.Frag)(CF:Addr):Sp:=λvs H Q _=>∃(s p q:Addr) (a1 b1 a2 b2:Int),vs=[.ref s,.ref p,.ref q]/\FrA CF H s/\SqT K H p [.int a1,.int b1]/\SqT K H q [.int a2,.int b2]/\Fc a1 b1/\Fc a2 b2 ∧
  Bits 1000000 a1/\Bits 4000 b1/\Bits 1000000 a2/\Bits 4000 b2 ∧
  ∀(t:Addr) (H':Hp) (x y:Int),Same H H'->H' t=some (.tup [.int x,.int y])->H t=none->Fc x y->x*(b1*b2)=(a1*b2+a2*b1)*y->Q (.ref t) H'
section
variable{P:Program}{w:World}{K:PySem.W.Frag}{mg:Str->Option Value}{base:Heap}
theorem sc_Fractions_plusG:FnScope ["self", "one", "other", "common", "ahead", "top", "left"] ["self", "one", "other"] (Zah ZbB):=⟨rfl,rfl,rfl,by decide +kernel,rfl,by decide +kernel,by decide +kernel⟩
theorem ZjD{CF:Addr}(h:HereM K CF "plus" "Fractions.plus" ZbB) (h_divisor:Has P w K mg base "divisor" 1 ["one", "other"] ZaV):HasM P w K mg base CF "plus" 2 ["self", "one", "other"] [] (Zgq K CF):=by
  refine h.hasM (λf fd F=>F.binds λ_ _ _ _ _ _ us hl=>by obtain ⟨_,_,_,rfl⟩:=Zed hl; exact rfl) λf fd F=>F.ok sc_Fractions_plusG (λvs H Q E h=>?_) (λcdv A outer s H vs Q E hr h=>?_)
  · obtain ⟨_,_,_,_,_,_,_,rfl,_⟩:=h
    rfl
  obtain ⟨sf,p,q,a1,b1,a2,b2,rfl,_,hp,hq,f1,f2,la1,lb1,la2,lb2,k⟩:=h
  have nd:=sc_Fractions_plusG.nd
  refine ⟨_,(Zac (Zal (i:=3) nd rfl (Or.inl rfl) (Zak h_divisor hr (by rfl) (Zaa (Zao Zat (pv 1) Zad (λ_ _=>rfl)) (Zaa (Zao Zat (pv 2) Zad (λ_ _=>rfl)) Zab))))
    (Zac (Zal (i:=4) nd rfl (Or.inl rfl) (Zai ZbI (Zao Zat (pv 1) Zad (λ_ _=>rfl)) (pv 3)))
    (Zac (Zal (i:=5) nd rfl (Or.inl rfl) (Zai ZaE (Zai Zay (Zao Zat (pv 1) Zad (λ_ _=>rfl)) (Zai ZbI (Zao Zat (pv 2) Zad (λ_ _=>rfl)) (pv 3))) (Zai Zay (Zao Zat (pv 2) Zad (λ_ _=>rfl)) (pv 4))))
    (Zac (Zal (i:=6) nd rfl (Or.inl rfl) (Zak h_divisor hr (by rfl) (Zaa (pv 5) (Zaa (pv 3) Zab))))
    (Zae (Zan (Zbh (Zaa (Zai ZbI (pv 5) (pv 6)) (Zaa (Zai Zay (pv 4) (Zai ZbI (Zao Zat (pv 2) Zad (λ_ _=>rfl)) (pv 6))) Zab))))))))),?_⟩
  have hb1:=f1.pos
  have hb2:=f2.pos
  have hg:=M3.gcd_ne (a:=b1) (b:=b2) (by omega)
  have gl:Int.gcd b1 b2<=b2.natAbs:=U1 (by omega) (Wk.mpr (W2 b1 b2))
  have hg1:(Int.gcd b1 b2:Int)≠0/\Bits 4000 (Int.gcd b1 b2:Int):=⟨by omega,lb2.le (by rw[Qo]; exact gl)⟩
  have d1:=M3.fdiv_le (Ws b1 b2) hg1.1
  have d2:=M3.fdiv_le (W2 b1 b2) hg1.1
  refine ⟨_,rfl,_,_,_,_,rfl,rfl,hp,rfl,_,rfl,_,_,_,_,rfl,rfl,hq,rfl,b1,b2,rfl,?_⟩
  refine ⟨_,rfl,_,_,_,_,rfl,rfl,hp,rfl,_,rfl,_,_,rfl,rfl,hg1,?_⟩
  refine ⟨_,rfl,_,_,_,_,rfl,rfl,hp,rfl,_,rfl,_,_,_,_,rfl,rfl,hq,rfl,_,rfl,_,_,rfl,rfl,hg1,_,_,rfl,rfl,la1.mulG (lb2.le d2),_,rfl,_,_,_,_,rfl,rfl,hq,rfl,_,rfl,_,_,rfl,rfl,la2.mulG (lb1.le d1),_,_,rfl,rfl,?_⟩
  refine ⟨_,rfl,_,rfl,_,_,rfl,?_⟩
  obtain ⟨o1,o2,o3,o4⟩:=M3.plus_ok hb1 hb2 f1.cop f2.cop rfl
  have ll:Int.gcd (a1*b2.fdiv (Int.gcd b1 b2)+a2*b1.fdiv (Int.gcd b1 b2)) (Int.gcd b1 b2)<=Int.gcd b1 b2:=U1 (by omega) (Int.ofNat_dvd.mp (W2 (a1*b2.fdiv (Int.gcd b1 b2)+a2*b1.fdiv (Int.gcd b1 b2)) (Int.gcd b1 b2)))
  have hl1:(Int.gcd (a1*b2.fdiv (Int.gcd b1 b2)+a2*b1.fdiv (Int.gcd b1 b2)) (Int.gcd b1 b2):Int)≠0/\Bits 4000 (Int.gcd (a1*b2.fdiv (Int.gcd b1 b2)+a2*b1.fdiv (Int.gcd b1 b2)) (Int.gcd b1 b2):Int):=⟨by have:=M3.gcd_ne (a:=a1*b2.fdiv (Int.gcd b1 b2)+a2*b1.fdiv (Int.gcd b1 b2)) (b:=(Int.gcd b1 b2:Int)) (by omega); omega,lb2.le (by rw[Qo]; exact Q0 ll gl)⟩
  have d3:=M3.fdiv_le (Ws (a1*b2.fdiv (Int.gcd b1 b2)+a2*b1.fdiv (Int.gcd b1 b2)) (Int.gcd b1 b2)) hl1.1
  have d4:=M3.fdiv_le (Ue (W2 (a1*b2.fdiv (Int.gcd b1 b2)+a2*b1.fdiv (Int.gcd b1 b2)) (Int.gcd b1 b2)) (W2 b1 b2)) hl1.1
  refine ⟨_,rfl,_,rfl,_,_,rfl,rfl,hl1,_,rfl,_,rfl,_,_,_,_,rfl,rfl,hq,rfl,_,rfl,_,_,rfl,rfl,hl1,_,_,rfl,rfl,((lb1.le d1).up (by decide)).mulG (lb2.le d4),(by show 2<=sizeLine; decide),λt ht'=>?_⟩
  exact k t _ _ _ (Zag ht' _) Zaf ht' ⟨o2,o3⟩ o4
end
def Ze8(K:PySem.W.Frag)(CF:Addr):Sp:=λvs H Q _=>∃(s p q:Addr) (a1 b1 a2 b2:Int),vs=[.ref s,.ref p,.ref q]/\FrA CF H s/\SqT K H p [.int a1,.int b1]/\SqT K H q [.int a2,.int b2]/\Fc a1 b1/\Fc a2 b2 ∧
  Bits 1000000 a1/\Bits 4000 b1/\Bits 1000000 a2/\Bits 4000 b2 ∧
  ∀(t:Addr) (H':Hp) (x y:Int),Same H H'->H' t=some (.tup [.int x,.int y])->H t=none->Fc x y->x*(b1*b2)=(a1*a2)*y->Q (.ref t) H'
section
variable{P:Program}{w:World}{K:PySem.W.Frag}{mg:Str->Option Value}{base:Heap}
theorem sc_Fractions_timesG:FnScope ["self", "one", "other", "falling", "rising", "top"] ["self", "one", "other"] (Zah Zbr):=⟨rfl,rfl,rfl,by decide +kernel,rfl,by decide +kernel,by decide +kernel⟩
theorem ZiD{CF:Addr}(h:HereM K CF "times" "Fractions.times" Zbr) (h_divisor:Has P w K mg base "divisor" 1 ["one", "other"] ZaV):HasM P w K mg base CF "times" 2 ["self", "one", "other"] [] (Ze8 K CF):=by
  refine h.hasM (λf fd F=>F.binds λ_ _ _ _ _ _ us hl=>by obtain ⟨_,_,_,rfl⟩:=Zed hl; exact rfl) λf fd F=>F.ok sc_Fractions_timesG (λvs H Q E h=>?_) (λcdv A outer s H vs Q E hr h=>?_)
  · obtain ⟨_,_,_,_,_,_,_,rfl,_⟩:=h
    rfl
  obtain ⟨sf,p,q,a1,b1,a2,b2,rfl,_,hp,hq,f1,f2,la1,lb1,la2,lb2,k⟩:=h
  have nd:=sc_Fractions_timesG.nd
  refine ⟨_,(Zac (Zal (i:=3) nd rfl (Or.inl rfl) (Zak h_divisor hr (by rfl) (Zaa (Zao Zat (pv 1) Zad (λ_ _=>rfl)) (Zaa (Zao Zat (pv 2) Zad (λ_ _=>rfl)) Zab))))
    (Zac (Zal (i:=4) nd rfl (Or.inl rfl) (Zak h_divisor hr (by rfl) (Zaa (Zao Zat (pv 2) Zad (λ_ _=>rfl)) (Zaa (Zao Zat (pv 1) Zad (λ_ _=>rfl)) Zab))))
    (Zac (Zal (i:=5) nd rfl (Or.inl rfl) (Zai Zay (Zai ZbI (Zao Zat (pv 1) Zad (λ_ _=>rfl)) (pv 3)) (Zai ZbI (Zao Zat (pv 2) Zad (λ_ _=>rfl)) (pv 4))))
    (Zae (Zan (Zbh (Zaa (pv 5) (Zaa (Zai Zay (Zai ZbI (Zao Zat (pv 1) Zad (λ_ _=>rfl)) (pv 4)) (Zai ZbI (Zao Zat (pv 2) Zad (λ_ _=>rfl)) (pv 3))) Zab)))))))),?_⟩
  have hb1:=f1.pos
  have hb2:=f2.pos
  have hf:=M3.gcd_ne (a:=a1) (b:=b2) (by omega)
  have hg:=M3.gcd_ne (a:=a2) (b:=b1) (by omega)
  have gf:Int.gcd a1 b2<=b2.natAbs:=U1 (Zjz hb2) (Wk.mpr (W2 a1 b2))
  have gg:Int.gcd a2 b1<=b1.natAbs:=U1 (Zjz hb1) (Wk.mpr (W2 a2 b1))
  have hf1:(Int.gcd a1 b2:Int)≠0/\Bits 4000 (Int.gcd a1 b2:Int):=⟨by omega,lb2.le (by rw[Qo]; exact gf)⟩
  have hg1:(Int.gcd a2 b1:Int)≠0/\Bits 4000 (Int.gcd a2 b1:Int):=⟨by omega,lb1.le (by rw[Qo]; exact gg)⟩
  have d1:=M3.fdiv_le (Ws a1 b2) hf1.1
  have d2:=M3.fdiv_le (W2 a1 b2) hf1.1
  have d3:=M3.fdiv_le (Ws a2 b1) hg1.1
  have d4:=M3.fdiv_le (W2 a2 b1) hg1.1
  refine ⟨_,rfl,_,_,_,_,rfl,rfl,hp,rfl,_,rfl,_,_,_,_,rfl,rfl,hq,rfl,a1,b2,rfl,?_⟩
  refine ⟨_,rfl,_,_,_,_,rfl,rfl,hq,rfl,_,rfl,_,_,_,_,rfl,rfl,hp,rfl,a2,b1,rfl,?_⟩
  refine ⟨_,rfl,_,_,_,_,rfl,rfl,hp,rfl,_,rfl,_,_,rfl,rfl,hf1,_,rfl,_,_,_,_,rfl,rfl,hq,rfl,_,rfl,_,_,rfl,rfl,hg1,_,_,rfl,rfl,(la1.le d1).mulT (la2.le d3),?_⟩
  refine ⟨_,rfl,_,rfl,_,_,_,_,rfl,rfl,hp,rfl,_,rfl,_,_,rfl,rfl,hg1,_,rfl,_,_,_,_,rfl,rfl,hq,rfl,_,rfl,_,_,rfl,rfl,hf1,_,_,rfl,rfl,((lb1.le d4).up (by decide)).mulG (lb2.le d2),(by show 2<=sizeLine; decide),λt ht'=>?_⟩
  obtain ⟨o2,o3,o4⟩:=M3.times_ok hb1 hb2 f1.cop f2.cop
  exact k t _ _ _ (Zag ht' _) Zaf ht' ⟨o2,o3⟩ o4
end
def ZhO(CR:Addr)(g:Int->Int->Int):Sp:=λvs H Q _=>∃(s:Addr) (p a b:Int),vs=[.ref s,.int a,.int b]/\ReA CR p H s/\2<=p/\a.natAbs<=10^150/\b.natAbs<=10^150/\Q (.int (g a b%p)) H
section
variable{P:Program}{w:World}{K:PySem.W.Frag}{mg:Str->Option Value}{base:Heap}
end
section
variable{P:Program}{w:World}{K:PySem.W.Frag}{mg:Str->Option Value}{base:Heap}
theorem ZeM:FnScope ["self", "one", "other"] ["self", "one", "other"] (Zah Zb8):=⟨rfl,rfl,rfl,by decide +kernel,rfl,by decide +kernel,by decide +kernel⟩
theorem ZjE{CR:Addr}(h:HereM K CR "times" "Rests.times" Zb8) (cl:Cls K CR) (nP:NoAttr K CR "prime"):HasM P w K mg base CR "times" 1 ["self", "one", "other"] [] (ZhO CR λa b=>a*b):=by
  refine h.hasM (λf fd F=>F.binds λ_ _ _ _ _ _ us hl=>by obtain ⟨_,_,_,rfl⟩:=Zed hl; exact rfl) λf fd F=>F.ok ZeM (λvs H Q E h=>?_) (λcdv A outer s H vs Q E hr h=>?_)
  · obtain ⟨_,_,_,_,rfl,_⟩:=h
    rfl
  obtain ⟨sr,p,a,b,rfl,⟨dx,hs⟩,h2,la,lb,k⟩:=h
  refine ⟨_,(Zae (Zan (Zai ZaN (Zai Zay (pv 1) (pv 2)) (Ze0 (pv 0) rfl)))),?_⟩
  refine ⟨_,rfl,_,rfl,_,_,rfl,rfl,ZaO la lb,_,rfl,sr,CR,dx,_,_,rfl,hs,cl,nP,ZbV p,_,_,rfl,rfl,(show p≠0 by omega),?_⟩
  show Q (V.int ((a*b).fmod p)) _
  rw[Qz _ (by omega)]
  exact k
end
theorem ZoF{t b:Int}(hb:b≠0):∃c:Int,c=(if b<0 then -(Int.gcd t b:Int) else (Int.gcd t b:Int))/\c≠0/\c.natAbs<=b.natAbs/\Fc (t.fdiv c) (b.fdiv c)/\t.fdiv c*b=t*b.fdiv c/\(t.fdiv c).natAbs<=t.natAbs/\(b.fdiv c).natAbs<=b.natAbs:=by
  have hg:=M3.gcd_ne (a:=t) hb
  have gl:Int.gcd t b<=b.natAbs:=U1 (by omega) (Wk.mpr (W2 t b))
  by_cases h:b<0
  · refine ⟨-(Int.gcd t b:Int),by rw[if_pos h],by omega,by omega,?_⟩
    have e1:t.fdiv (-(Int.gcd t b:Int))=(-t).fdiv (Int.gcd t b):=by rw[<-Int.neg_fdiv_neg,Int.neg_neg]
    have e2:b.fdiv (-(Int.gcd t b:Int))=(-b).fdiv (Int.gcd t b):=by rw[<-Int.neg_fdiv_neg,Int.neg_neg]
    have e3:Int.gcd t b=Int.gcd (-t) (-b):=by rw[Int.neg_gcd,Int.gcd_neg]
    obtain ⟨l1,l2,l3,l4,l5⟩:=M3.low (t:=-t) (b:=-b) (by omega)
    rw[e1,e2,e3]
    refine ⟨⟨l2,l1⟩,?_,by omega,by omega⟩
    rw[Wo,Int.neg_mul] at l3
    exact Int.neg_inj.mp l3
  · refine ⟨(Int.gcd t b:Int),by rw[if_neg h],by omega,by omega,?_⟩
    obtain ⟨l1,l2,l3,l4,l5⟩:=M3.low (t:=t) (b:=b) (by omega)
    exact ⟨⟨l2,l1⟩,l3,l4,l5⟩
def Zdt(cN:Addr):Sp:=λvs H Q E=>∃(s:Addr) (t b:Int),vs=[.ref s,.int t,.int b]/\b.natAbs<=10^150/\(b=0->E (.ref cN) none H) ∧
  (b≠0->∀(r:Addr) (x y:Int),H r=none->Fc x y->x*b=t*y->x.natAbs<=t.natAbs->y.natAbs<=b.natAbs->Q (.ref r) (upd H r (.tup [.int x,.int y])))
section
variable{P:Program}{w:World}{K:PySem.W.Frag}{mg:Str->Option Value}{base:Heap}
theorem sc_Fractions_number:FnScope ["self", "top", "bottom", "common"] ["self", "top", "bottom"] (Zah ZaJ):=⟨rfl,rfl,rfl,by decide +kernel,rfl,by decide +kernel,by decide +kernel⟩
theorem Zg4{cN:Addr}{f T:Addr}{fd:FuncData}{items:Array Value}(F:FunD K "number" "Fractions.number" ZaJ f fd T items) (c:ExcC K mg "NoNumber" cN) (h_divisor:Has P w K mg base "divisor" 1 ["one", "other"] ZaV):FnOk P w K mg base (CXx P w) 2 f fd ["self", "top", "bottom"] (Zdt cN):=by
  refine F.okx sc_Fractions_number (λvs H Q E h=>?_) (λcdv A outer s H vs Q E hr h=>?_)
  · obtain ⟨_,_,_,rfl,_⟩:=h
    rfl
  obtain ⟨sf,t,b,rfl,lb,k0,k⟩:=h
  have nd:=sc_Fractions_number.nd
  refine ⟨_,(Zac (ZaD (Zaq Zbz (pv 2) Zad (Zaw _)) (Zae (ZdQ c ZhK rfl (by rfl) (Zaa ZhA Zab))) Zar)
    (Zac (Zal (i:=3) nd rfl (Or.inl rfl) (Zak h_divisor hr (by rfl) (Zaa (pv 1) (Zaa (pv 2) Zab))))
    (Zac (ZaD (Zaq Zio (pv 2) Zad (Zaw _)) (Zae (Zal (i:=3) nd rfl (Or.inl rfl) (ZeJ ZcI (pv 3)))) Zar)
    (Zae (Zan (Zbh (Zaa (Zai Zfl (pv 1) (pv 3)) (Zaa (Zai Zfl (pv 2) (pv 3)) Zab)))))))),?_⟩
  refine ⟨_,rfl,rfl,_,rfl,?_⟩
  refine Zbn (λz=>⟨(by show 1<=1000; decide),k0 z⟩) (λhb=>?_)
  refine ⟨_,rfl,_,rfl,t,b,rfl,?_⟩
  obtain ⟨c,ec,c0,cl,fc,e,l1,l2⟩:=ZoF (t:=t) hb
  refine ⟨_,rfl,_,_,rfl,rfl,_,rfl,?_⟩
  refine Zbm (λhn=>?_) (λhn=>?_)
  · refine ⟨_,rfl,_,rfl,?_⟩
    have ec':c = -(Int.gcd t b:Int):=by rw[ec,if_pos hn]
    refine ⟨_,rfl,_,rfl,_,_,rfl,rfl,(by rw[<-ec']; exact ⟨c0,by omega⟩),_,rfl,_,rfl,_,_,rfl,rfl,(by rw[<-ec']; exact ⟨c0,by omega⟩),(by show 2<=sizeLine; decide),λr hr'=>?_⟩
    rw[<-ec']
    exact k hb r _ _ hr' fc e l1 l2
  · have ec':c=(Int.gcd t b:Int):=by rw[ec,if_neg hn]
    refine ⟨_,rfl,_,rfl,_,_,rfl,rfl,(by rw[<-ec']; exact ⟨c0,by omega⟩),_,rfl,_,rfl,_,_,rfl,rfl,(by rw[<-ec']; exact ⟨c0,by omega⟩),(by show 2<=sizeLine; decide),λr hr'=>?_⟩
    rw[<-ec']
    exact k hb r _ _ hr' fc e l1 l2
theorem Zg5{CF cN:Addr}{tk:Tok}(h:HereD K CF "number" "Fractions.number" ZaJ #[.int 1 tk]) (c:ExcC K mg "NoNumber" cN) (h_divisor:Has P w K mg base "divisor" 1 ["one", "other"] ZaV):HasMX P w K mg base CF "number" 2 ["self", "top", "bottom"] [.int 1] (Zdt cN) :=
  h.hasMX (ds:=[.int 1 tk]) (.cons ⟨_,rfl⟩ .nil) (λf fd T F=>F.binds λ_ _ _ _ _ _ us hl=>by obtain ⟨_,_,rfl⟩:=Zdm (show us.length=2 by simpa using hl); exact ⟨_,rfl,rfl⟩) λf fd T F=>Zg4 F c h_divisor
end
theorem ZoG{p t b u v r:Int}(hp:2<=p)(h:(1:Int)=b*u+p*v)(hr:r=t*u%p):0<=r/\r<p/\p ∣ r*b-t:=by
  subst hr
  refine ⟨Wv _ (by omega),Wz _ (by omega),?_⟩
  have e:=Int.emod_add_mul_ediv (t*u) p
  have e1:t*u%p=t*u-p*(t*u/p):=by omega
  refine ⟨-(t*v)-(t*u/p)*b,?_⟩
  rw[e1]
  have e2:t=t*b*u+t*p*v:=by
    have:=congrArg (t * ·) h
    simp only[U3,Int.mul_add] at this
    rw[Qn,Qn]; exact this
  generalize t*u/p=k at *
  rw[Int.sub_mul,Int.mul_sub,Wo,Qn p k b]
  have e3:t*u*b=t*b*u:=by rw[Qn,Qj u b,<-Qn]
  have e4:p*(t*v)=t*p*v:=by rw[<-Qn,Qj p t]
  omega
def ZbW(CR cN:Addr):Sp:=λvs H Q E=>∃(s:Addr) (p t b:Int),vs=[.ref s,.int t,.int b]/\ReA CR p H s/\M2.Prm p/\p<1000000/\t.natAbs<=10^140/\b.natAbs<=10^100/\(p ∣ b->E (.ref cN) none H) ∧
  (¬p ∣ b->∀(H':Hp) (r:Int),Same H H'->0<=r->r<p->p ∣ r*b-t->Q (.int r) H')
section
variable{P:Program}{w:World}{K:PySem.W.Frag}{mg:Str->Option Value}{base:Heap}
theorem Zeo:FnScope ["self", "top", "bottom"] ["self", "top", "bottom"] (Zah Za6):=⟨rfl,rfl,rfl,by decide +kernel,rfl,by decide +kernel,by decide +kernel⟩
theorem Zep{CR cN:Addr}{f T:Addr}{fd:FuncData}{items:Array Value}(F:FunD K "number" "Rests.number" Za6 f fd T items) (cl:Cls K CR) (nP:NoAttr K CR "prime") (c:ExcC K mg "NoNumber" cN) (h_shares:Has P w K mg base "shares" 2 ["one", "other"] Zc8):FnOk P w K mg base (CXx P w) 3 f fd ["self", "top", "bottom"] (ZbW CR cN):=by
  refine F.okx Zeo (λvs H Q E h=>?_) (λcdv A outer s H vs Q E hr h=>?_)
  · obtain ⟨_,_,_,_,rfl,_⟩:=h
    rfl
  obtain ⟨sr,p,t,b,rfl,⟨dx,hs⟩,pr,lp,lt,lb,k0,k⟩:=h
  have h2:=pr.1
  refine ⟨_,(Zac (ZaD (Zaq Zbz (Zai ZaN (pv 2) (Ze0 (pv 0) rfl)) Zad (Zaw _)) (Zae (ZdQ c ZhK rfl (by rfl) (Zaa ZhA Zab))) Zar)
    (Zae (Zan (Zai ZaN (Zai Zay (pv 1) (Zao Zat (Zak h_shares hr (by rfl) (Zaa (pv 2) (Zaa (Ze0 (pv 0) rfl) Zab))) Zad (λ_ _=>rfl))) (Ze0 (pv 0) rfl))))),?_⟩
  refine ⟨_,rfl,_,rfl,sr,CR,dx,_,_,rfl,hs,cl,nP,ZbV p,_,_,rfl,rfl,(show p≠0 by omega),rfl,_,rfl,?_⟩
  refine Zbn (λz=>⟨(by show 1<=1000; decide),k0 ((M2.fmod_dvd (by omega)).mp z)⟩) (λhb=>?_)
  have hb':¬p ∣ b:=λz=>hb ((M2.fmod_dvd (by omega)).mpr z)
  have g1:=M2.prm_gcd pr hb'
  refine ⟨_,rfl,_,rfl,_,rfl,sr,CR,dx,_,_,rfl,hs,cl,nP,ZbV p,b,p,rfl,lb,by omega,λq H1 u v S hq e bu bv=>?_⟩
  refine ⟨_,_,_,_,rfl,rfl,SqT.of hq,rfl,_,_,rfl,rfl,ZaO (by omega) (by omega),_,rfl,sr,CR,dx,_,_,rfl,S _ _ hs,cl,nP,ZbV p,_,_,rfl,rfl,(show p≠0 by omega),?_⟩
  rw[g1] at e
  obtain ⟨r0,r1,r2⟩:=ZoG (p:=p) (t:=t) (b:=b) (r:=t*u%p) h2 e rfl
  show Q (V.int ((t*u).fmod p)) _
  rw[Qz _ (by omega)]
  exact k hb' H1 _ S r0 r1 r2
theorem ZiE{CR cN:Addr}{tk:Tok}(h:HereD K CR "number" "Rests.number" Za6 #[.int 1 tk]) (cl:Cls K CR) (nP:NoAttr K CR "prime") (c:ExcC K mg "NoNumber" cN) (h_shares:Has P w K mg base "shares" 2 ["one", "other"] Zc8):HasMX P w K mg base CR "number" 3 ["self", "top", "bottom"] [] (ZbW CR cN) :=
  h.hasMX (ds:=[]) .nil (λf fd T F=>F.binds λ_ _ _ _ _ _ us hl=>by obtain ⟨_,_,_,rfl⟩:=Zed (show us.length=3 by simpa using hl); exact ⟨_,rfl,rfl⟩) λf fd T F=>Zep F cl nP c h_shares
theorem Zg6{CR cN:Addr}{tk:Tok}(h:HereD K CR "number" "Rests.number" Za6 #[.int 1 tk]) (cl:Cls K CR) (nP:NoAttr K CR "prime") (c:ExcC K mg "NoNumber" cN) (h_shares:Has P w K mg base "shares" 2 ["one", "other"] Zc8):HasMX P w K mg base CR "number" 3 ["self", "top", "bottom"] [.int 1] (ZbW CR cN) :=
  h.hasMX (ds:=[.int 1 tk]) (.cons ⟨_,rfl⟩ .nil) (λf fd T F=>F.binds λ_ _ _ _ _ _ us hl=>by obtain ⟨_,_,rfl⟩:=Zdm (show us.length=2 by simpa using hl); exact ⟨_,rfl,rfl⟩) λf fd T F=>Zep F cl nP c h_shares
end
def Ze9(K:PySem.W.Frag)(CF:Addr):Sp:=λvs H Q _=>∃(s p q:Addr) (a1 b1 a2 b2:Int),vs=[.ref s,.ref p,.ref q]/\FrA CF H s/\SqT K H p [.int a1,.int b1]/\SqT K H q [.int a2,.int b2]/\Fc a1 b1/\Fc a2 b2 ∧
  Bits 1000000 a1/\Bits 4000 b1/\Bits 1000000 a2/\Bits 4000 b2 ∧
  ∀(t:Addr) (H':Hp) (x y:Int),Same H H'->H' t=some (.tup [.int x,.int y])->H t=none->Fc x y->x*(b1*b2)=(a1*b2+(-a2)*b1)*y->Q (.ref t) H'
section
variable{P:Program}{w:World}{K:PySem.W.Frag}{mg:Str->Option Value}{base:Heap}
theorem ZcY:FnScope ["self", "one", "other"] ["self", "one", "other"] (Zah Zbq):=⟨rfl,rfl,rfl,by decide +kernel,rfl,by decide +kernel,by decide +kernel⟩
theorem ZiF{CF:Addr}(h:HereM K CF "minus" "Fractions.minus" Zbq) (cl:Cls K CF) (hM:HasM P w K mg base CF "plus" 2 ["self", "one", "other"] [] (Zgq K CF)):HasM P w K mg base CF "minus" 3 ["self", "one", "other"] [] (Ze9 K CF):=by
  refine h.hasM (λf fd F=>F.binds λ_ _ _ _ _ _ us hl=>by obtain ⟨_,_,_,rfl⟩:=Zed hl; exact rfl) λf fd F=>F.ok ZcY (λvs H Q E h=>?_) (λcdv A outer s H vs Q E hr h=>?_)
  · obtain ⟨_,_,_,_,_,_,_,rfl,_⟩:=h
    rfl
  obtain ⟨sf,p,q,a1,b1,a2,b2,rfl,⟨dx,hs⟩,hp,hq,f1,f2,la1,lb1,la2,lb2,k⟩:=h
  refine ⟨_,(Zae (Zan (Zbw (pv 0) hr (Zaa (pv 1) (Zaa (Zbh (Zaa (ZeJ ZcI (Zao Zat (pv 2) Zad (λ_ _=>rfl))) (Zaa (Zao Zat (pv 2) Zad (λ_ _=>rfl)) Zab))) Zab))))),?_⟩
  refine ⟨_,rfl,_,_,_,_,_,_,_,rfl,hs,cl,hM,rfl,_,rfl,_,rfl,_,_,_,_,rfl,rfl,hq,rfl,_,rfl,_,rfl,_,_,_,_,rfl,rfl,hq,rfl,(by show 2<=sizeLine; decide),λr hr'=>?_⟩
  have S:=Zag hr' (.tup [.int (-a2),.int b2])
  refine ⟨sf,p,r,a1,b1,-a2,b2,rfl,⟨dx,S _ _ hs⟩,S.tup hp,SqT.of Zaf,f1,⟨f2.pos,by rw[Int.neg_gcd]; exact f2.cop⟩,la1,lb1,la2.le (by omega),lb2,λt H' x y S' ht hn fc e=>?_⟩
  exact k t H' x y (S.trans S') ht (by
    cases z:H t with
    | none=>rfl
    | some o=>rw[S t o z] at hn; cases hn) fc e
end
section
variable{P:Program}{w:World}{K:PySem.W.Frag}{mg:Str->Option Value}{base:Heap}
theorem ZeN:FnScope ["self", "one", "other"] ["self", "one", "other"] (Zah Zb7):=⟨rfl,rfl,rfl,by decide +kernel,rfl,by decide +kernel,by decide +kernel⟩
theorem ZjF{CR:Addr}(h:HereM K CR "minus" "Rests.minus" Zb7) (cl:Cls K CR) (nP:NoAttr K CR "prime"):HasM P w K mg base CR "minus" 1 ["self", "one", "other"] [] (ZhO CR λa b=>a-b):=by
  refine h.hasM (λf fd F=>F.binds λ_ _ _ _ _ _ us hl=>by obtain ⟨_,_,_,rfl⟩:=Zed hl; exact rfl) λf fd F=>F.ok ZeN (λvs H Q E h=>?_) (λcdv A outer s H vs Q E hr h=>?_)
  · obtain ⟨_,_,_,_,rfl,_⟩:=h
    rfl
  obtain ⟨sr,p,a,b,rfl,⟨dx,hs⟩,h2,la,lb,k⟩:=h
  refine ⟨_,(Zae (Zan (Zai ZaN (Zai Zbb (pv 1) (pv 2)) (Ze0 (pv 0) rfl)))),?_⟩
  refine ⟨_,rfl,_,rfl,_,_,rfl,rfl,_,rfl,sr,CR,dx,_,_,rfl,hs,cl,nP,ZbV p,_,_,rfl,rfl,(show p≠0 by omega),?_⟩
  show Q (V.int ((a-b).fmod p)) _
  rw[Qz _ (by omega)]
  exact k
end
section
variable{P:Program}{w:World}{K:PySem.W.Frag}{mg:Str->Option Value}{base:Heap}
end
section
variable{P:Program}{w:World}{K:PySem.W.Frag}{mg:Str->Option Value}{base:Heap}
end
end My
namespace My
open PySem L2 PyProof.Rows
theorem Zgr(N:Int){D:Int}(hD:0<D):(Rat.divInt N D).num*D=N*(Rat.divInt N D).den:=by
  have h:=Qs (Rat.divInt N D)
  have hd:=(Zbd (Rat.divInt N D)).pos
  have:=(Qt (n₁:=(Rat.divInt N D).num) (d₁:=((Rat.divInt N D).den:Int)) (n₂:=N) (d₂:=D) (by omega) (by omega)).mp h
  exact this
theorem Zg7{a b c:Int}(h:a ∣ b*c)(g:Int.gcd a b=1):a ∣ c:=by
  rw[<-Wk] at h ⊢
  rw[Qf] at h
  exact Nat.Coprime.dvd_of_dvd_mul_left g h
theorem Zcr(N:Int){D:Int}(hD:0<D):((Rat.divInt N D).den:Int) ∣ D/\(Rat.divInt N D).num ∣ N:=by
  have e:=Zgr N hD
  have c:=(Zbd (Rat.divInt N D)).cop
  generalize (Rat.divInt N D).num=n at *
  generalize ((Rat.divInt N D).den:Int)=d at *
  refine ⟨?_,?_⟩
  · refine Zg7 (b:=n) ⟨N,?_⟩ (by rw[Int.gcd_comm]; exact c)
    rw[e,Qj]
  · refine Zg7 (b:=d) ⟨D,?_⟩ c
    rw[e,Qj]
theorem ZaW{a b:Int}(h:a ∣ b)(hb:b≠0):a.natAbs<=b.natAbs:=U1 (by omega) (Wk.mpr h)
theorem ZdV{n:Nat}{a b:Int}(h:a ∣ b)(hb:Bits n b)(hz:b=0->a=0):Bits n a:=by
  by_cases z:b=0
  · rw[hz z]; exact Qb _
  · exact hb.le (ZaW h z)
theorem ZfF(N:Int){D:Int}(hD:0<D)(z:N=0):(Rat.divInt N D).num=0:=by
  subst z
  have e:=Zgr 0 hD
  rw[Int.zero_mul] at e
  rcases Int.mul_eq_zero.mp e with h | h
  · exact h
  · omega
def KdX(CF CR:Addr)(κ:KX)(H:Hp)(s:Addr):Prop:=match κ with
  | .q=>FrA CF H s
  | .r p _=>ReA CR p H s
theorem KdX.same{CF CR:Addr}{κ:KX}{H H':Hp}{k:Addr}(h:KdX CF CR κ H k)(S:Same H H'):KdX CF CR κ H' k:=by
  cases κ with
  | q=>obtain ⟨dx,h⟩:=h; exact ⟨dx,S _ _ h⟩
  | r p hp=>obtain ⟨dx,h⟩:=h; exact ⟨dx,S _ _ h⟩
theorem ZnE{CF CR:Addr}{p:Int}{H:Hp}{s:Addr}(h:KdA CF CR p H s):∃κ:KX,κ.P=p/\KdX CF CR κ H s:=by
  rcases h with ⟨rfl,h⟩ | ⟨pr,lp,h⟩
  · exact ⟨.q,rfl,h⟩
  · have h2:=pr.1
    have e:((p.toNat:Nat):Int)=p:=by omega
    refine ⟨.r p.toNat ⟨by rw[e]; exact pr,by omega⟩,e,?_⟩
    show ReA CR ((p.toNat:Nat):Int) H s
    rw[e]; exact h
abbrev B1(κ:KX)(x:κ.F):Prop:=Bd κ 1000000 4000 x
theorem Zbe{p:Nat}(h:PrN p)(x:Fin p):((x.val:Int)).natAbs<=10^150:=by
  have:=x.isLt
  have:=h.lt
  exact Q0 (show _<=1000000 by omega) (by decide)
def Zmp(P:Program)(w:World)(K:PySem.W.Frag)(mg:Str->Option Value)(base:Heap)(CF CR:Addr)(m:Str)(g:(κ:KX)->κ.F->κ.F->κ.F):Prop :=
  ∀(κ:KX) (H:Hp) (s:Addr),KdX CF CR κ H s->∃C dx fs ps dvs sp,H s=some (.ins C dx fs)/\Cls K C/\HasM P w K mg base C m 2 ps dvs sp/\fs.lookup m=none/\dvs=[] ∧
    ∀(H':Hp) (u v:V) (x y:κ.F) (Q:VK),Same H H'->NR κ H' u x->NR κ H' v y->B1 κ x->B1 κ y->(∀t H'',Same H' H''->NR κ H'' t (g κ x y)->Q t H'')->sp [.ref s,u,v] H' Q E0
end My
namespace My
open PySem L2 PyProof.Rows
section
variable{P:Program}{w:World}{K:PySem.W.Frag}{mg:Str->Option Value}{base:Heap}{CF CR:Addr}
end
section
variable{P:Program}{w:World}{K:PySem.W.Frag}{mg:Str->Option Value}{base:Heap}{CF CR:Addr}
theorem ZiG(kd:Kd K mg CF CR)(hF:HasM P w K mg base CF "times" 2 ["self", "one", "other"] [] (Ze8 K CF)) (hR:HasM P w K mg base CR "times" 2 ["self", "one", "other"] [] (ZhO CR λa b=>a*b)):Zmp P w K mg base CF CR "times" (λ_ x y=>x*y):=by
  intro κ H s hk
  cases κ with
  | q =>
    obtain ⟨dx,h⟩:=hk
    refine ⟨CF,dx,[],_,_,_,h,kd.clF,hF,rfl,rfl,λH' u v x y Q S hu hv bx by' k=>?_⟩
    obtain ⟨a,rfl,hu⟩:=hu
    obtain ⟨b,rfl,hv⟩:=hv
    refine ⟨s,a,b,_,_,_,_,rfl,⟨dx,S _ _ h⟩,SqT.of hu,SqT.of hv,Zbd x,Zbd y,bx.1,bx.2,by'.1,by'.2,λt H'' n d S' ht hn fc e=>?_⟩
    obtain ⟨e1,e2⟩:=Zg3 (x:=x) (y:=y) fc e
    refine k (.ref t) H'' S' ⟨t,rfl,?_⟩
    show H'' t=some (.tup [.int (x*y).num,.int ((x*y).den:Int)])
    rw[e1,e2]
    exact ht
  | r p hp =>
    obtain ⟨dx,h⟩:=hk
    refine ⟨CR,dx,fsR p,_,_,_,h,kd.clR,hR,Ze7 _ (by decide),rfl,λH' u v x y Q S hu hv _ _ k=>?_⟩
    have hu:u = .int x.val:=hu
    have hv:v = .int y.val:=hv
    subst hu hv
    refine ⟨s,p,_,_,rfl,⟨dx,S _ _ h⟩,by have:=hp.two; omega,Zbe hp x,Zbe hp y,k _ H' (Same.refl _) ?_⟩
    show V.int (((x.val:Int)*y.val)%p)=V.int ((Fin.val (x*y):Nat):Int)
    have e:Fin.val (x*y)=(x.val*y.val)%p:=Fin.val_mul x y
    rw[e,Wr,U0]
end
end My
namespace L2
open PySem PySem.Spec PyProof.Rows
section
variable{X:Cx}
theorem ZhP:OpR X (binaryOp .FloorDiv) (rI (λ_ j=>j≠0/\Bits 8000 j) λi j => .int (i.fdiv j)):=opI λ_ _ _ _ _ _ _ hc q=>floordiv_int hc.1 q (.inl (PyProof.noPylong_of_log2 (Nat.lt_trans (hc.2.log hc.1) (by decide))))
end
end L2
namespace My
open PySem L2 PyProof.Rows
section
variable{κ:KX}
def RowsX(κ:KX)(H:Hp)(as:List Addr)(R:List (List κ.F)):Prop:=as.length=R.length/\∀(i:Nat) a f,as[i]?=some a->R[i]?=some f->∃xs,H a=some (.lst xs)/\AllG (NR κ H) xs f
def AllR(Pr:κ.F->Prop)(R:List (List κ.F)):Prop:=∀f∈R,∀x∈f,Pr x
theorem RowsX.same{H H':Hp}{as:List Addr}{R:List (List κ.F)}(h:RowsX κ H as R)(S:Same H H'):RowsX κ H' as R :=
  ⟨h.1,λi a f ha hf=>let ⟨xs,hx,al⟩:=h.2 i a f ha hf; ⟨xs,S _ _ hx,al.mono λ_ _ n=>n.same S⟩⟩
theorem RowsX.off{H H':Hp}{t:Addr}{as:List Addr}{R:List (List κ.F)}{ys:List V}(h:RowsX κ H as R)(n:t∉as)(ht:H t=some (.lst ys))(O:Off [t] H H'):RowsX κ H' as R :=
  ⟨h.1,λi a f ha hf=>let ⟨xs,hx,al⟩:=h.2 i a f ha hf; ⟨xs,O _ _ (λm=>n (by rw[<-Q3.mp m]; exact Qe ha)) hx,al.mono λ_ _ n=>n.off ht O⟩⟩
theorem RowsX.get{H:Hp}{as:List Addr}{R:List (List κ.F)}(h:RowsX κ H as R){i:Nat}(hi:i<R.length):∃a xs,as[i]?=some a/\H a=some (.lst xs)/\AllG (NR κ H) xs R[i]:=by
  have l:=h.1
  obtain ⟨xs,hx,al⟩:=h.2 i (as[i]'(by omega)) R[i] (Q5 (by omega)) (Q5 hi)
  exact ⟨_,xs,Q5 (by omega),hx,al⟩
theorem RowsX.set{H:Hp}{as:List Addr}{R:List (List κ.F)}(h:RowsX κ H as R)(i:Nat){a:Addr}{xs:List V}{f:List κ.F}(hx:H a=some (.lst xs))(al:AllG (NR κ H) xs f):RowsX κ H (as.set i a) (R.set i f):=by
  have l:=h.1
  refine ⟨by rw[Wc,Wc,l],λj b g hb hg=>?_⟩
  rw[Wu] at hb hg
  split at hb
  · rename_i e
    rw[if_pos e] at hg
    split at hb
    · rename_i hl
      rw[if_pos (by omega)] at hg
      cases hb; cases hg; exact ⟨xs,hx,al⟩
    · cases hb
  · rename_i e
    rw[if_neg e] at hg
    exact h.2 j b g hb hg
inductive Tn (κ:KX) where
  | swap (i j:Int)
  | scale (i:Int) (c:κ.F)
  | add (i j:Int) (c:κ.F)
def TR(κ:KX)(H:Hp)(v:V)(t:Tn κ):Prop:=match t with
  | .swap i j=>∃a,v = .ref a/\H a=some (.tup [.str "swap", .int i,.int j])
  | .scale i c=>∃a u,v = .ref a/\H a=some (.tup [.str "scale", .int i,u])/\NR κ H u c
  | .add i j c=>∃a u,v = .ref a/\H a=some (.tup [.str "add", .int i,.int j,u])/\NR κ H u c
theorem TR.same{H H':Hp}{v:V}{t:Tn κ}(h:TR κ H v t)(S:Same H H'):TR κ H' v t:=by
  cases t with
  | swap i j=>obtain ⟨a,e,h⟩:=h; exact ⟨a,e,S _ _ h⟩
  | scale i c=>obtain ⟨a,u,e,h,n⟩:=h; exact ⟨a,u,e,S _ _ h,n.same S⟩
  | add i j c=>obtain ⟨a,u,e,h,n⟩:=h; exact ⟨a,u,e,S _ _ h,n.same S⟩
theorem TR.off{H H':Hp}{t:Addr}{ys:List V}{v:V}{x:Tn κ}(h:TR κ H v x)(ht:H t=some (.lst ys))(O:Off [t] H H'):TR κ H' v x:=by
  have na:∀a zs,H a=some (.tup zs)->a∉[t]:=λa zs q m=>by rw[Q3.mp m,ht] at q; cases q
  cases x with
  | swap i j=>obtain ⟨a,e,h⟩:=h; exact ⟨a,e,O _ _ (na _ _ h) h⟩
  | scale i c=>obtain ⟨a,u,e,h,n⟩:=h; exact ⟨a,u,e,O _ _ (na _ _ h) h,n.off ht O⟩
  | add i j c=>obtain ⟨a,u,e,h,n⟩:=h; exact ⟨a,u,e,O _ _ (na _ _ h) h,n.off ht O⟩
def Tn.D:Tn κ->PyData
  | .swap i j => .tuple [.str "swap", .int i,.int j]
  | .scale i c => .tuple [.str "scale", .int i,κ.D c]
  | .add i j c => .tuple [.str "add", .int i,.int j,κ.D c]
theorem Zg8{H:Hp}{x:Str}:Fl H (.str x) (.str x):=.inr (.inr (.inr (.inl ⟨x,rfl,rfl⟩)))
theorem TR.rp{H:Hp}{v:V}{t:Tn κ}(h:TR κ H v t):Rp H 2 v t.D:=by
  cases t with
  | swap i j =>
    obtain ⟨a,rfl,h⟩:=h
    exact Zgn h (.cons (.inl Zg8) (.cons (.inl Zcc) (.cons (.inl Zcc) .nil)))
  | scale i c =>
    obtain ⟨a,u,rfl,h,n⟩:=h
    exact Zgn h (.cons (.inl Zg8) (.cons (.inl Zcc) (.cons n.rp .nil)))
  | add i j c =>
    obtain ⟨a,u,rfl,h,n⟩:=h
    exact Zgn h (.cons (.inl Zg8) (.cons (.inl Zcc) (.cons (.inl Zcc) (.cons n.rp .nil))))
def Tn.ok(n:Nat):Tn κ->Prop
  | .swap i j=>(0<=i/\i<n)/\(0<=j/\j<n)/\i≠j
  | .scale i c=>(0<=i/\i<n)/\c≠0
  | .add i j _=>(0<=i/\i<n)/\(0<=j/\j<n)/\i≠j
def Tn.bd:Tn κ->Prop
  | .swap _ _=>True
  | .scale _ c=>B1 κ c
  | .add _ _ c=>B1 κ c
noncomputable def doT(t:Tn κ)(R:List (List κ.F)):List (List κ.F):=match t with
  | .swap i j=>(R.set i.toNat (R.getD j.toNat [])).set j.toNat (R.getD i.toNat [])
  | .scale i c=>R.set i.toNat ((R.getD i.toNat []).map (c * ·))
  | .add i j c=>R.set i.toNat (List.zipWith (· + ·) (R.getD i.toNat []) ((R.getD j.toNat []).map (c * ·)))
end
def ZcJ(CF CR:Addr):Sp:=λvs H Q _=>∃(κ:KX) (s r:Addr) (cv:V) (c:κ.F) (xs:List V) (f:List κ.F),vs=[.ref s,cv,.ref r]/\KdX CF CR κ H s/\NR κ H cv c/\H r=some (.lst xs)/\AllG (NR κ H) xs f/\B1 κ c/\(∀x∈f,B1 κ x)/\f.length<=1000 ∧
  ∀(H':Hp) (D:Addr) (ys:List V),Same H H'->H D=none->H' D=some (.lst ys)->AllG (NR κ H') ys (f.map (c * ·))->Q (.ref D) H'
theorem Zdu{p:Prop}[Decidable p]{A B:Prop}(h:p)(k:A):if decide p=true then A else B:=by rw[if_pos (decide_eq_true h)]; exact k
theorem ZhQ{p:Prop}[Decidable p]{A B:Prop}(h:¬p)(k:B):if decide p=true then A else B:=by rw[if_neg (by simpa using h)]; exact k
theorem Zmq{p:Prop}[Decidable p]{A B:Prop}(h:¬p)(k:A):if (!decide p)=true then A else B:=by rw[if_pos (by simpa using h)]; exact k
theorem ZnF{p:Prop}[Decidable p]{A B:Prop}(h:p)(k:B):if (!decide p)=true then A else B:=by rw[if_neg (by simpa using h)]; exact k
theorem Zgs{l:List Addr}(h:∀(i j:Nat) a,l[i]?=some a->l[j]?=some a->i=j):l.Nodup:=by
  refine List.pairwise_iff_getElem.mpr λi j hi hj lt e=>?_
  have:=h i j l[i] (Q5 hi) (by rw[e]; exact Q5 hj)
  omega
theorem ZjG{l:List Addr}{i:Nat}{a:Addr}(h:l.Nodup)(n:a∉l):(l.set i a).Nodup:=by
  refine Zgs λx y b hx hy=>?_
  rw[Wu] at hx hy
  split at hx
  · rename_i e1
    split at hy
    · rename_i e2; omega
    · split at hx
      · cases hx; exact absurd (Qe hy) n
      · cases hx
  · split at hy
    · split at hy
      · cases hy; exact absurd (Qe hx) n
      · cases hy
    · exact Zgp h hx hy
def Tn.pre{κ:KX}(R:List (List κ.F)):Tn κ->Prop
  | .swap _ _=>True
  | .scale i c=>B1 κ c/\∀x∈R.getD i.toNat [],B1 κ x
  | .add i j c=>B1 κ c/\(∀x∈R.getD i.toNat [],B1 κ x)/\∀y∈R.getD j.toNat [],B1 κ y/\B1 κ (c*y)
noncomputable def ZpX{κ:KX}(ts:List (Tn κ))(R:List (List κ.F)):List (List κ.F):=ts.foldl (λR t=>doT t R) R
theorem ZfG{α:Type}{R:List (List α)}{i:Nat}{f:List α}(h:R[i]?=some f):R.getD i []=f:=by rw[Q4,h]; rfl
def Wid{α:Type}(m:Nat)(R:List (List α)):Prop:=∀f∈R,f.length=m
theorem Wid.get{α:Type}{m:Nat}{R:List (List α)}(h:Wid m R){i:Nat}(hi:i<R.length):(R.getD i []).length=m:=by
  rw[ZfG (Q5 hi)]
  exact h _ (Wd hi)
theorem Wid.set{α:Type}{m i:Nat}{R:List (List α)}{f:List α}(h:Wid m R)(e:f.length=m):Wid m (R.set i f):=λg hg=>by
  rcases Uu hg with hg | rfl
  · exact h g hg
  · exact e
theorem Za9{H H':Hp}{t:Addr}{o:HO}(S:Same H H'):Off [t] H (upd H' t o):=λb u n q=>by
  rw[Zau (λz=>n (by rw[z]; exact Q3.mpr rfl))]
  exact S _ _ q
theorem ZbF{n:Nat}{i:Int}(h0:0<=i)(h:i<n):ixN n i=some i.toNat:=by
  have e:i=((i.toNat:Nat):Int):=by omega
  rw[e,Qx]
  exact Zmn (by omega)
theorem RowsX.notin{κ:KX}{H:Hp}{as:List Addr}{R:List (List κ.F)}{r:Addr}(h:RowsX κ H as R)(n:H r=none):r∉as:=λm=>by
  obtain ⟨i,hi,e⟩:=List.getElem_of_mem m
  have l:=h.1
  obtain ⟨zs,hz,_⟩:=h.2 i r _ (by rw[<-e]; exact Q5 hi) (Q5 (show i<R.length by omega))
  rw[hz] at n; cases n
theorem RowsX.snoc{κ:KX}{H:Hp}{as:List Addr}{R:List (List κ.F)}{a:Addr}{xs:List V}{f:List κ.F}(h:RowsX κ H as R)(hx:H a=some (.lst xs))(al:AllG (NR κ H) xs f):RowsX κ H (as++[a]) (R++[f]):=by
  have l:=h.1
  refine ⟨by rw[Q7,Q7,l]; rfl,λi b g hb hg=>?_⟩
  by_cases hi:i<as.length
  · rw[Qv hi] at hb
    rw[Qv (by omega)] at hg
    exact h.2 i b g hb hg
  · rw[W5 (by omega)] at hb hg
    rw[<-l] at hg
    cases q:i-as.length with
    | zero=>rw[q] at hb hg; cases hb; cases hg; exact ⟨xs,hx,al⟩
    | succ n=>rw[q] at hb; simp at hb
theorem RowsX.nil{κ:KX}{H:Hp}:RowsX κ H [] []:=⟨rfl,λi a f h=>by simp at h⟩
theorem Zdv{l:List Addr}{a:Addr}(h:l.Nodup)(n:a∉l):(l++[a]).Nodup:=by
  rw[List.nodup_append]
  exact ⟨h,by simp,λx hx y hy=>by rw[Q3] at hy; subst hy; exact λz=>n (z ▸ hx)⟩
open PySem L2 PyProof.Rows
def Sz(κ:KX)(n:Nat)(x:κ.F):Prop:=match κ with
  | .q=>(x.den:Int) ∣ 60*12^n/\Bits (200+700*n) x.num
  | .r _ _=>True
def Sc(κ:KX)(x:κ.F):Prop:=match κ with
  | .q=>(x.den:Int) ∣ 12/\Bits 200 x.num
  | .r _ _=>True
theorem ZpK{t b:Int}(hb:0<b):(t.fdiv (Int.gcd t b)=(Rat.divInt t b).num)/\(b.fdiv (Int.gcd t b)=((Rat.divInt t b).den:Int)):=by
  obtain ⟨l1,l2,l3,_,_⟩:=M3.low (t:=t) hb
  obtain ⟨e1,e2⟩:=ZjC (N:=t) (D:=b) ⟨l2,l1⟩ hb l3
  exact ⟨e1.symm,e2.symm⟩
def Zeq:Sp:=λvs H Q _=>∃t b:Int,vs=[.int t,.int b]/\0<b/\Bits 8000 b/\∀r,H r=none->Q (.ref r) (upd H r (.tup [.int (Rat.divInt t b).num,.int ((Rat.divInt t b).den:Int)]))
def ZaX(g:(κ:KX)->κ.F->κ.F->κ.F):Sp:=λvs H Q _=>∃(κ:KX) (u v:V) (x y:κ.F),vs=[.int κ.P,u,v]/\NR κ H u x/\NR κ H v y/\B1 κ x/\B1 κ y/\∀H' t,Same H H'->NR κ H' t (g κ x y)->Q t H'
theorem Zgt{p:Nat}{h:PrN p}:0<(KX.r p h).P:=by have:=h.two; show 0<(p:Int); omega
theorem ZnG{p:Nat}(h:PrN p)(c:Int):∃x:Fin p,(c.fmod (p:Int))=(x.val:Int):=by
  have h2:=h.two
  rw[Qz _ (by omega)]
  have e0:=Wv c (show (p:Int)≠0 by omega)
  have e1:=Wz c (show 0<(p:Int) by omega)
  exact ⟨⟨(c%p).toNat,by omega⟩,by show c%p=(((c%p).toNat:Nat):Int); omega⟩
theorem AllR.snoc{κ:KX}{Pr:κ.F->Prop}{R:List (List κ.F)}{f:List κ.F}(h:AllR Pr R)(g:∀x∈f,Pr x):AllR Pr (R++[f]):=λe he=>by
  rcases Qq.mp he with he | he
  · exact h e he
  · rw[Q3.mp he]; exact g
theorem Wid.snoc{α:Type}{m:Nat}{R:List (List α)}{f:List α}(h:Wid m R)(e:f.length=m):Wid m (R++[f]):=λg hg=>by
  rcases Qq.mp hg with hg | hg
  · exact h g hg
  · rw[Q3.mp hg]; exact e
theorem Zer{a b:Int}{A B:Prop}(h:a=b)(k:A):if decide (V.int a=V.int b)=true then A else B:=Zbn (λ_=>k) (λz=>absurd h z)
theorem Zgu{a b:Int}{A B:Prop}(h:a≠b)(k:B):if decide (V.int a=V.int b)=true then A else B:=Zbn (λz=>absurd z h) (λ_=>k)
def TSc{κ:KX}:Tn κ->Prop
  | .swap _ _=>True
  | .scale _ c=>Sc κ c
  | .add _ _ c=>Sc κ c
noncomputable abbrev K1(κ:KX):κ.F:=1
noncomputable abbrev K0(κ:KX):κ.F:=0
theorem ZfH{p:Nat}(h:PrN p):Fin.val (K1 (.r p h))=1:=by
  show 1%p=1
  exact Nat.mod_eq_of_lt h.two
theorem Zc9{p:Nat}(h:PrN p):Fin.val (K0 (.r p h))=0:=by
  show 0%p=0
  exact Nat.zero_mod p
def ZpL{κ:KX}(R:List (List κ.F)):PyData:=.list (R.map λf => .list (f.map κ.D))
theorem RowsX.rp{κ:KX}{H:Hp}{t:Addr}{as:List Addr}{R:List (List κ.F)}(h:RowsX κ H as R)(ht:H t=some (.lst (as.map V.ref))):Rp H 3 (.ref t) (ZpL R):=by
  refine Zjy ht ⟨by rw[Q1,Q1]; exact h.1,λi v d hv hd=>?_⟩
  obtain ⟨a,ha,rfl⟩:=Zaz hv
  rw[Qc] at hd
  cases e:R[i]? with
  | none=>rw[e] at hd; cases hd
  | some f =>
    rw[e] at hd
    cases hd
    obtain ⟨xs,hx,al⟩:=h.2 i a f ha e
    exact Zjy hx (al.all2 λ_ _ n=>n.rp)
theorem Zpg{us:List Value}(h:us.length=5):∃a b c d e,us=[a,b,c,d,e]:=match us,h with | [a,b,c,d,e],_=>⟨a,b,c,d,e,rfl⟩
theorem ZoH(n:Nat):0<(60:Int)*12^n:=Qk (by decide) (Uh (by decide))
theorem ZhR{n:Nat}{d:Int}(h:d ∣ 60*12^n):Bits (6+4*n) d:=by
  refine Bits.of ?_
  have h1:=ZaW h (by have:=ZoH n; omega)
  refine Q9 h1 ?_
  rw[Qf,Uv]
  show 60*12^n<2^(6+4*n)
  rw[Wt,Nat.pow_mul]
  have a:12^n<=(2^4)^n:=Nat.pow_le_pow_left (by decide) n
  have b:0<(2^4)^n:=Nat.pow_pos (by decide)
  show 60*12^n<64*_
  omega
section
variable{κ:KX}
theorem Sz.up{n:Nat}{x:κ.F}(h:Sz κ n x):Sz κ (n+1) x:=by
  cases κ with
  | q =>
    refine ⟨Ue h.1 ?_,h.2.up (by omega)⟩
    rw[Qy,<-Qn]
    exact Int.dvd_mul_right _ _
  | r p hp=>trivial
theorem Sz.b1{n:Nat}{x:κ.F}(hn:κ = .q->n<=70)(h:Sz κ n x):B1 κ x:=by
  cases κ with
  | q =>
    have hn:=hn rfl
    exact ⟨h.2.up (by omega),(ZhR h.1).up (by omega)⟩
  | r p hp=>trivial
theorem Sc.b1{x:κ.F}(h:Sc κ x):B1 κ x:=by
  cases κ with
  | q =>
    refine ⟨h.2.up (by decide),?_⟩
    have:((x.den:Nat):Int) ∣ 60*12^1:=Ue h.1 (by decide)
    exact (ZhR this).up (by decide)
  | r p hp=>trivial
theorem AllR.getD{Pr:κ.F->Prop}{R:List (List κ.F)}(h:AllR Pr R)(i:Nat):∀x∈R.getD i [],Pr x:=λx hx=>by
  rw[Q4] at hx
  cases e:R[i]? with
  | none=>rw[e] at hx; cases hx
  | some f=>rw[e] at hx; exact h f (Qe e) x hx
theorem AllR.set{Pr:κ.F->Prop}{R:List (List κ.F)}{i:Nat}{f:List κ.F}(h:AllR Pr R)(g:∀x∈f,Pr x):AllR Pr (R.set i f):=λe he=>by
  rcases Uu he with he | rfl
  · exact h e he
  · exact g
end
structure TU (κ:KX) (H:Hp) (U:Addr) (n:Nat) (tvs:List V) (ts:List (Tn κ)):Prop where
  l:H U=some (.lst tvs)
  al:AllG (TR κ H) tvs ts
  ok:∀t∈ts,t.ok n
  sc:∀t∈ts,TSc t
  l1:1<=ts.length
  l3:ts.length<=300
  lq:κ = .q->ts.length<=64
theorem TU.same{κ:KX}{H H':Hp}{U:Addr}{n:Nat}{tvs:List V}{ts:List (Tn κ)}(h:TU κ H U n tvs ts)(S:Same H H'):TU κ H' U n tvs ts:=⟨S _ _ h.l,h.al.mono λ_ _ n=>n.same S,h.ok,h.sc,h.l1,h.l3,h.lq⟩
theorem Zda(xs:List V)(n:Nat):ZeK xs none (some (n:Int))=xs.take n:=by
  unfold ZeK
  rw[HT.sIx_none,List.drop_zero,Nat.sub_zero]
  rw[HT.sIx_nat,Nat.min_def]
  split
  · rfl
  · rw[Us (Q2 _),Us (by omega)]
theorem Zes(xs:List V)(n:Nat):ZeK xs (some (n:Int)) none=xs.drop n:=by
  unfold ZeK
  rw[HT.sIx_none,HT.sIx_nat]
  by_cases h:n<=xs.length
  · rw[Nat.min_eq_left h,Us]
    rw[W0]
    omega
  · rw[Nat.min_eq_right (by omega),List.drop_of_length_le (by omega),List.drop_of_length_le (by omega)]
    simp
end My
namespace My
open PySem L2 PyProof.Rows
theorem ZdW{α:Type}[Fd α]{x r:α}(h:x*r=1):r=Fd.inv x:=by
  have hx:x≠0:=λz=>by
    subst z
    have e:(0:α)*r=0:=by grind
    rw[e] at h
    exact Fd.zne h
  have:=Fd.mul_inv x hx
  grind
theorem ZhS{n d:Int}(fc:Fc n d):∃q:Rat,q.num=n/\(q.den:Int)=d:=by
  have hd:=fc.pos
  refine ⟨⟨n,d.toNat,by omega,?_⟩,rfl,by show ((d.toNat:Nat):Int)=d; omega⟩
  have:=fc.cop
  rw[Nat.coprime_iff_gcd_eq_one]
  have e:Int.gcd n d=Nat.gcd n.natAbs d.natAbs:=rfl
  have e2:d.natAbs=d.toNat:=by omega
  rw[<-e2]
  omega
theorem Zmr{q:Rat}{x y:Int}(fc:Fc x y)(e:x*q.num=q.den*y):(Fd.inv q:Rat).num=x/\((Fd.inv q:Rat).den:Int)=y:=by
  obtain ⟨r,e1,e2⟩:=ZhS fc
  have m:=Zg3 (x:=q) (y:=r) (n:=1) (d:=1) ⟨by decide,by decide⟩ (by rw[e1,e2]; have:q.num*x=x*q.num:=Qj _ _; omega)
  have h1:q*r=1:=by
    rw[<-Qs (q*r),m.1,m.2]; rfl
  have:=ZdW (α:=Rat) h1
  rw[<-this]
  exact ⟨e1,e2⟩
theorem Zms{x y:Rat}{n d:Int}(fc:Fc n d)(e:n*((x.den:Int)*y.den)=(x.num*y.den+(-y.num)*x.den)*d):(x-y).num=n/\((x-y).den:Int)=d:=by
  have h1:(-y).num = -y.num:=rfl
  have h2:(-y).den=y.den:=rfl
  have:x-y=x+(-y):=by grind
  rw[this]
  refine Zmo (x:=x) (y:=-y) fc ?_
  rw[h1,h2]; exact e
theorem Zlm{κ:KX}{n m:Nat}{x:κ.F}(h:Bd κ n m x):Bd κ n m (0-x):=by
  cases κ with
  | r p hp=>exact trivial
  | q =>
    have e:(0-x:Rat) = -x:=by grind
    have h1:(-x:Rat).num = -Rat.num x:=rfl
    have h2:(-x:Rat).den=Rat.den x:=rfl
    refine ⟨?_,?_⟩
    · show Bits n (0-x:Rat).num
      rw[e,h1]; exact Bits.le h.1 (by omega)
    · show Bits m ((0-x:Rat).den:Int)
      rw[e,h2]; exact h.2
noncomputable abbrev KX.mulF(κ:KX)(x y:κ.F):κ.F:=x*y
noncomputable abbrev KX.invF(κ:KX)(x:κ.F):κ.F:=Fd.inv x
theorem ZjH{κ:KX}{x r:κ.F}(h:κ.mulF x r=K1 κ):r=κ.invF x:=ZdW h
def NumV(κ:KX)(t:Int)(x:κ.F):Prop:=match κ with
  | .q=>x.num=t/\x.den=1
  | .r p _=>t.natAbs<=10^140/\(x.val:Int)=t%p
theorem ZjI{κ:KX}:NumV κ 0 0:=by
  cases κ with
  | q=>exact ⟨rfl,rfl⟩
  | r p h=>exact ⟨by decide,by show ((Fin.val (K0 (.r p h)):Nat):Int)=_; rw[Zc9]; simp⟩
theorem Zdb{κ:KX}:NumV κ 1 1:=by
  cases κ with
  | q=>exact ⟨rfl,rfl⟩
  | r p h=>exact ⟨by decide,by
      show ((Fin.val (K1 (.r p h)):Nat):Int)=_
      rw[ZfH]
      have:=h.two
      exact (Ww (by decide) (by omega)).symm⟩
theorem NumV.uniq{κ:KX}{t:Int}{x y:κ.F}(h:NumV κ t x)(h':NumV κ t y):x=y:=by
  cases κ with
  | q =>
    have e1:Rat.num x=Rat.num y:=h.1.trans h'.1.symm
    have e2:Rat.den x=Rat.den y:=h.2.trans h'.2.symm
    exact Rat.ext e1 e2
  | r p hp =>
    refine Fin.ext ?_
    have e:(Fin.val x:Int)=Fin.val y:=h.2.trans h'.2.symm
    omega
def ZnH(P:Program)(w:World)(K:PySem.W.Frag)(mg:Str->Option Value)(base:Heap)(CF CR:Addr):Prop :=
  ∀(κ:KX) (H:Hp) (s:Addr),KdX CF CR κ H s->∃C dx fs ps dvs sp,H s=some (.ins C dx fs)/\Cls K C/\HasM P w K mg base C "minus" 3 ps dvs sp/\fs.lookup ("minus" : Str)=none/\dvs=[] ∧
    ∀(H':Hp) (u v:V) (x y:κ.F) (Q:VK),Same H H'->NR κ H' u x->NR κ H' v y->B1 κ x->B1 κ y->(∀t H'',Same H' H''->NR κ H'' t (x-y)->Q t H'')->sp [.ref s,u,v] H' Q E0
def ZfI(P:Program)(w:World)(K:PySem.W.Frag)(mg:Str->Option Value)(base:Heap)(CF CR:Addr):Prop :=
  ∀(κ:KX) (H:Hp) (s:Addr),KdX CF CR κ H s->∃C dx fs ps dvs sp,H s=some (.ins C dx fs)/\Cls K C/\HasMX P w K mg base C "number" 3 ps dvs sp/\fs.lookup ("number" : Str)=none/\dvs=[.int 1] ∧
    ∀(H':Hp) (t:Int) (x:κ.F) (Q:VK) (E:XK),Same H H'->NumV κ t x->(∀v H'',Same H' H''->NR κ H'' v x->Q v H'')->sp [.ref s,.int t,.int 1] H' Q E
section
variable{P:Program}{w:World}{K:PySem.W.Frag}{mg:Str->Option Value}{base:Heap}{CF CR cN:Addr}
theorem ZiH(kd:Kd K mg CF CR)(hF:HasM P w K mg base CF "minus" 3 ["self", "one", "other"] [] (Ze9 K CF)) (hR:HasM P w K mg base CR "minus" 3 ["self", "one", "other"] [] (ZhO CR λa b=>a-b)):ZnH P w K mg base CF CR:=by
  intro κ H s hk
  cases κ with
  | q =>
    obtain ⟨dx,h⟩:=hk
    refine ⟨CF,dx,[],_,_,_,h,kd.clF,hF,rfl,rfl,λH' u v x y Q S hu hv bx by' k=>?_⟩
    obtain ⟨a,rfl,hu⟩:=hu
    obtain ⟨b,rfl,hv⟩:=hv
    refine ⟨s,a,b,_,_,_,_,rfl,⟨dx,S _ _ h⟩,SqT.of hu,SqT.of hv,Zbd x,Zbd y,bx.1,bx.2,by'.1,by'.2,λt H'' n d S' ht hn fc e=>?_⟩
    obtain ⟨e1,e2⟩:=Zms (x:=x) (y:=y) fc e
    refine k (.ref t) H'' S' ⟨t,rfl,?_⟩
    show H'' t=some (.tup [.int (x-y:Rat).num,.int ((x-y:Rat).den:Int)])
    rw[e1,e2]
    exact ht
  | r p hp =>
    obtain ⟨dx,h⟩:=hk
    refine ⟨CR,dx,fsR p,_,_,_,h,kd.clR,hR,Ze7 _ (by decide),rfl,λH' u v x y Q S hu hv _ _ k=>?_⟩
    have hu:u = .int x.val:=hu
    have hv:v = .int y.val:=hv
    subst hu hv
    refine ⟨s,p,_,_,rfl,⟨dx,S _ _ h⟩,by have:=hp.two; omega,Zbe hp x,Zbe hp y,k _ H' (Same.refl _) ?_⟩
    show V.int (((x.val:Int)-y.val)%p)=V.int ((Fin.val (x-y):Nat):Int)
    have e:Fin.val (x-y)=(p-y.val+x.val)%p:=rfl
    have ly:=y.isLt
    have e2:(((p-y.val+x.val:Nat)):Int)=((x.val:Int)-y.val)+p:=by omega
    rw[e,Wr,e2,Int.add_emod_right]
theorem Zg9(kd:Kd K mg CF CR)(hF:HasMX P w K mg base CF "number" 3 ["self", "top", "bottom"] [.int 1] (Zdt cN)) (hR:HasMX P w K mg base CR "number" 3 ["self", "top", "bottom"] [.int 1] (ZbW CR cN)):ZfI P w K mg base CF CR:=by
  intro κ H s hk
  cases κ with
  | q =>
    obtain ⟨dx,h⟩:=hk
    refine ⟨CF,dx,[],_,_,_,h,kd.clF,hF,rfl,rfl,λH' t x Q E S hx k=>⟨s,t,1,rfl,by decide,λz=>absurd z (by decide),λ_ r n d nr fc e l1 l2=>?_⟩⟩
    have y1:d=1:=by
      have:=fc.pos
      have l3:d.natAbs<=1:=l2
      omega
    subst y1
    have x1:n=t:=by omega
    subst x1
    have e1:Rat.num x=n:=hx.1
    have e2:Rat.den x=1:=hx.2
    refine k _ _ (Zag nr _) ⟨r,rfl,?_⟩
    show upd H' r _ r=some (.tup [.int (Rat.num x),.int ((Rat.den x:Nat):Int)])
    rw[e1,e2]; exact Zaf
  | r p hp =>
    obtain ⟨dx,h⟩:=hk
    have h2:=hp.pr.1
    refine ⟨CR,dx,_,_,_,_,h,kd.clR,hR,Ze7 p (by decide),rfl,λH' t x Q E S hx k=>⟨s,p,t,1,rfl,⟨dx,S _ _ h⟩,hp.pr,by have:=hp.lt; omega,hx.1,by decide,λz=>?_,λ_ H'' r S' r0 r1 rd=>?_⟩⟩
    · have:=Int.le_of_dvd (by decide) z
      omega
    · refine k _ H'' S' ?_
      show V.int r=V.int ((Fin.val x:Nat):Int)
      have e:(Fin.val x:Int)=t%p:=hx.2
      rw[e]
      congr 1
      rw[U3] at rd
      have e3:r%p=t%p:=Int.emod_eq_emod_iff_emod_sub_eq_zero.mpr (U8 rd)
      rw[<-e3]
      exact (Ww r0 r1).symm
end
end My
namespace My
open PySem L2 PyProof.Rows
end My
namespace My
open PySem L2 PyProof.Rows
section
variable{κ:KX}
noncomputable def ent(R:List (List κ.F))(i j:Nat):κ.F:=(R.getD i []).getD j 0
theorem ZkL(f:List κ.F)(c:κ.F)(j:Nat):(f.map (c * ·)).getD j 0=c*f.getD j 0:=by
  rw[Q4,Q4,Qc]
  cases f[j]? with
  | none=>show (0:κ.F)=c*0; grind
  | some x=>rfl
theorem RowsX.ent{m:Nat}{H:Hp}{as:List Addr}{R:List (List κ.F)}(rx:RowsX κ H as R)(wd:Wid m R){i j:Nat}(hi:i<R.length)(hj:j<m):∃a xs v,as[i]?=some a/\H a=some (.lst xs)/\xs[j]?=some v/\NR κ H v (ent R i j):=by
  obtain ⟨a,xs,ha,hx,al⟩:=rx.get hi
  have l:=wd.get hi
  have e:R.getD i []=R[i]:=ZfG (Q5 hi)
  rw[e] at l
  obtain ⟨v,hv,nv⟩:=al.get' (i:=j) (by omega)
  refine ⟨a,xs,v,ha,hx,hv,?_⟩
  unfold My.ent
  rw[e,Q4,Q5 (by omega)]
  exact nv
def QS(κ:KX)(D:Int)(a:Nat)(x:κ.F):Prop:=match κ with
  | .q=>∃X:Int,x=Rat.divInt X D/\Bits a X
  | .r _ _=>True
theorem QS.mono{D:Int}{a b:Nat}{x:κ.F}(h:QS κ D a x)(l:a<=b):QS κ D b x:=by
  cases κ with
  | r p hp=>exact trivial
  | q=>obtain ⟨X,e,hX⟩:=h; exact ⟨X,e,hX.up l⟩
theorem QS.mul{D E:Int}{a b:Nat}{x y:κ.F}(h:QS κ D a x)(g:QS κ E b y):QS κ (D*E) (a+b) (x*y):=by
  cases κ with
  | r p hp=>exact trivial
  | q =>
    obtain ⟨X,rfl,hX⟩:=h
    obtain ⟨Y,rfl,hY⟩:=g
    exact ⟨X*Y,Wj _ _,hX.times hY⟩
theorem QS.add{D:Int}(hD:0<D){a:Nat}{x y:κ.F}(h:QS κ D a x)(g:QS κ D a y):QS κ D (a+1) (x+y):=by
  cases κ with
  | r p hp=>exact trivial
  | q =>
    obtain ⟨X,rfl,hX⟩:=h
    obtain ⟨Y,rfl,hY⟩:=g
    refine ⟨X+Y,?_,hX.plus hY⟩
    show Rat.divInt X D+Rat.divInt Y D=_
    rw[Ut _ _ (by omega) (by omega),Qt (Wy (Qk hD hD)) (by omega),<-Int.add_mul,Qn]
theorem QS.neg{D:Int}{a:Nat}{x:κ.F}(h:QS κ D a x):QS κ D a (0-x):=by
  cases κ with
  | r p hp=>exact trivial
  | q =>
    obtain ⟨X,rfl,hX⟩:=h
    refine ⟨-X,?_,hX.le (by omega)⟩
    have e:(0-Rat.divInt X D:Rat) = -Rat.divInt X D:=by grind
    exact e.trans (Rat.neg_divInt X D)
theorem QS.zero{D:Int}{a:Nat}:QS κ D a 0:=by
  cases κ with
  | r p hp=>exact trivial
  | q=>exact ⟨0,(Uw D).symm,Qb _⟩
theorem QS.up{D E:Int}(hD:0<D)(hE:0<E){a e:Nat}{x:κ.F}(h:QS κ D a x)(bE:Bits e E):QS κ (D*E) (a+e) x:=by
  cases κ with
  | r p hp=>exact trivial
  | q =>
    obtain ⟨X,rfl,hX⟩:=h
    refine ⟨X*E,?_,hX.times bE⟩
    rw[Qt (by omega) (Wy (Qk hD hE)),Qn,Qj D E]
theorem QS.b1{D:Int}(hD:0<D){a:Nat}{x:κ.F}(h:QS κ D a x)(bD:Bits 4000 D)(ha:a<=1000000):B1 κ x:=by
  cases κ with
  | r p hp=>exact trivial
  | q =>
    obtain ⟨X,rfl,hX⟩:=h
    obtain ⟨z1,z2⟩:=Zcr X hD
    exact ⟨ZdV z2 (hX.up ha) (ZfF X hD),ZdV z1 bD (λz=>by omega)⟩
theorem QS.inv{D:Int}(hD:0<D){a d:Nat}(h1:1<=a){x:κ.F}(h:QS κ D a x)(bD:Bits d D)(h0:x≠0):∃L:Int,0<L/\Bits a L/\QS κ L d (Fd.inv x):=by
  cases κ with
  | r p hp=>exact ⟨1,by decide,Bits.of (by show 1<_; exact Q6 (show 1<2^1 by decide) (Ql (by decide) h1)),trivial⟩
  | q =>
    obtain ⟨X,rfl,hX⟩:=h
    have X0:X≠0:=λz=>by subst z; exact h0 (Uw D)
    have key:∀Y L:Int,0<L->X*Y=D*L->(Fd.inv (Rat.divInt X D):Rat)=Rat.divInt Y L:=λY L hL e=>by
      refine (ZdW (α:=Rat) ?_).symm
      rw[Wj,e]
      have:(D*L:Int)≠0:=Wy (Qk hD hL)
      exact Rat.divInt_self' this
    rcases Um X0 with c | c
    · refine ⟨-X,by omega,hX.le (by omega),-D,key (-D) (-X) (by omega) ?_,bD.le (by omega)⟩
      rw[Wo,Wo,Qj]
    · exact ⟨X,c,hX,D,key D X c (Qj _ _),bD⟩
end
end My
namespace My
open PySem L2 PyProof.Rows
section
variable{κ:KX}
noncomputable def Zmt(N s n:Nat)(f:List κ.F):List κ.F:=List.replicate s 0++f++List.replicate (N-s-n) 0
noncomputable def ZoI(N:Nat):Nat->List (List (List κ.F))->List (List κ.F)
  | _,[]=>[]
  | s,T::Ts=>T.map (Zmt N s T.length)++ZoI N (s+T.length) Ts
noncomputable def ZoJ(N i:Nat)(x:κ.F)(b:Bool):List κ.F:=(List.range N).map λj=>if j=i then x else if b=true/\j+1=i then 1 else 0
noncomputable def ZpY(x:κ.F)(n:Nat):List (List κ.F):=(List.range n).map λp=>(List.range n).map λc=>if c=p then x else if c+1=p then 1 else 0
noncomputable def dsc(bl:List (κ.F×Nat)):List (κ.F×Bool):=bl.flatMap λd=>(List.range d.2).map λk=>(d.1,decide (0<k))
noncomputable def ZpM(bl:List (κ.F×Nat)):List (List κ.F):=(dsc bl).mapIdx λi d=>ZoJ (dsc bl).length i d.1 d.2
noncomputable def ZpN(i:Nat)(d:κ.F×Bool):List κ.F:=if d.2=true then (List.replicate i 0++[d.1]).set (i-1) 1 else List.replicate i 0++[d.1]
noncomputable def ZpO(ds:List (κ.F×Bool)):List (List κ.F):=ds.mapIdx ZpN
end
def BR(κ:KX)(H:Hp)(v:V)(d:κ.F×Nat):Prop:=∃a u,v = .ref a/\H a=some (.tup [u,.int (d.2:Int)])/\NR κ H u d.1
theorem BR.same{κ:KX}{H H':Hp}{v:V}{d:κ.F×Nat}(h:BR κ H v d)(S:Same H H'):BR κ H' v d:=by
  obtain ⟨a,u,e,h,n⟩:=h; exact ⟨a,u,e,S _ _ h,n.same S⟩
theorem BR.off{κ:KX}{H H':Hp}{D:List Addr}{v:V}{d:κ.F×Nat}(h:BR κ H v d)(O:Off D H H')(hD:∀a∈D,∀zs,H a≠some (.tup zs)):BR κ H' v d:=by
  obtain ⟨a,u,e,h,n⟩:=h
  refine ⟨a,u,e,O _ _ (λz=>hD a z _ h) h,?_⟩
  cases κ with
  | q=>obtain ⟨b,e,n⟩:=n; exact ⟨b,e,O _ _ (λz=>hD b z _ n) n⟩
  | r p hp=>exact n
def BD{κ:KX}(d:κ.F×Nat):PyData:=.tuple [κ.D d.1,.int (d.2:Int)]
theorem BR.rp{κ:KX}{H:Hp}{v:V}{d:κ.F×Nat}(h:BR κ H v d):Rp H 2 v (BD d):=by
  obtain ⟨a,u,rfl,h,n⟩:=h
  exact Zgn h (.cons n.rp (.cons (.inl Zcc) .nil))
def PartsX(κ:KX)(H:Hp)(ps:List Addr)(Ts:List (List (List κ.F))):Prop:=ps.length=Ts.length/\∀(i:Nat) a T,ps[i]?=some a->Ts[i]?=some T->∃rs:List Addr,H a=some (.lst (rs.map V.ref))/\RowsX κ H rs T
theorem PartsX.same{κ:KX}{H H':Hp}{ps:List Addr}{Ts:List (List (List κ.F))}(h:PartsX κ H ps Ts)(S:Same H H'):PartsX κ H' ps Ts:=⟨h.1,λi a T ha hT=>let ⟨rs,h1,h2⟩:=h.2 i a T ha hT; ⟨rs,S _ _ h1,h2.same S⟩⟩
theorem PartsX.nil{κ:KX}{H:Hp}:PartsX κ H [] []:=⟨rfl,λi a f h=>by simp at h⟩
theorem PartsX.snoc{κ:KX}{H:Hp}{ps:List Addr}{Ts:List (List (List κ.F))}{a:Addr}{rs:List Addr}{T:List (List κ.F)}(h:PartsX κ H ps Ts)(ha:H a=some (.lst (rs.map V.ref)))(hr:RowsX κ H rs T):PartsX κ H (ps++[a]) (Ts++[T]):=by
  have l:=h.1
  refine ⟨by rw[Q7,Q7,l]; rfl,λi b g hb hg=>?_⟩
  by_cases hi:i<ps.length
  · rw[Qv hi] at hb
    rw[Qv (by omega)] at hg
    exact h.2 i b g hb hg
  · rw[W5 (by omega)] at hb hg
    rw[<-l] at hg
    cases q:i-ps.length with
    | zero=>rw[q] at hb hg; cases hb; cases hg; exact ⟨rs,ha,hr⟩
    | succ n=>rw[q] at hb; simp at hb
end My
namespace My
open PySem L2 PyProof.Rows
theorem RowsX.cat{κ:KX}{H:Hp}{as bs:List Addr}{R S:List (List κ.F)}(h:RowsX κ H as R)(g:RowsX κ H bs S):RowsX κ H (as++bs) (R++S):=by
  have l:=h.1
  have l2:=g.1
  refine ⟨by rw[Q7,Q7,l,l2],λi a f ha hf=>?_⟩
  by_cases hi:i<as.length
  · rw[Qv hi] at ha
    rw[Qv (by omega)] at hf
    exact h.2 i a f ha hf
  · rw[W5 (by omega)] at ha hf
    rw[<-l] at hf
    exact g.2 _ a f ha hf
end My
namespace L2
open PySem PySem.Spec PyProof.Rows
section
variable{X:Cx}{e st:Expr}{te ts:TE}{pos p2:Pos}
theorem Zmu{xs:List V}:∀ {us:List Value},Vals xs us->Vals xs.reverse us.reverse:=by
  induction xs with
  | nil=>intro us r; cases r; exact .nil
  | cons x xs ih =>
    intro us r
    cases r with
    | cons r1 r2 =>
      rw[List.reverse_cons,List.reverse_cons]
      exact (ih r2).append (.cons r1 .nil)
end
section
variable{X:Cx}{k:Nat}
def ZpP:R2:=λx y H Q=>∃a b xs,x = .ref a/\y = .ref b/\H a=some (.lst xs)/\H b=some (.lst [])/\Q (.bl (decide (xs.length=0))) H
theorem ZnI(hr:Room k X.A):OpR X (compareOp .Eq) ZpP:=by
  intro pins s σ H x y v u Q I rx ry h
  obtain ⟨a,b,xs,rfl,rfl,hx,hy,q⟩:=h
  cases rx
  cases ry
  obtain ⟨its,r1,p1,_⟩:=I.list (SqL.of (K:=X.K) hx)
  obtain ⟨jts,r2,p2,_⟩:=I.list (SqL.of (K:=X.K) hy)
  have l1:=r1.length
  have l2:=r2.length
  rw[List.length_nil] at l2
  have hu:=hr.units
  by_cases h0:xs.length=0
  · refine SeqAt.eq_listAt (e:=λ_=>true) p1.isList p2.isList (by simp; omega) (by omega) (λj h1 h2=>by simp at h2; omega) ?_
    refine ⟨.bl true,H,I,?_,?_⟩
    · show Value.bool _=Value.bool _
      rw[Zbx]
    · rw[decide_eq_true h0] at q; exact q
  · refine SeqAt.eq_list_lengthsAt p1.isList p2.isList (by simp; omega) (by omega) ?_
    refine ⟨.bl false,H,I,rfl,?_⟩
    rw[decide_eq_false h0] at q; exact q
end
end L2
namespace L2
open PySem PySem.Spec PyProof.Rows
section
variable{X:Cx}{tg:Expr}
end
theorem ZiI:typeLookup (.type "list_reverseiterator") "__len__" = pure none:=by rw[typeLookup_type,builtinLookup_eq_fast]; kernel_rfl
theorem ZkM:typeLookup (.type "list_reverseiterator") "__length_hint__" = pure (some (.builtin "list_reverseiterator.__length_hint__")):=by rw[typeLookup_type,builtinLookup_eq_fast]; kernel_rfl
section
variable{prog:Program}{w:World}{A:Around}{s:Shared}{R:Result->Shared->Prop}
theorem ZiJ{I l:Addr}{items:Array Value}(hh:A.handled=none)(hne:l≠I)(S:Addr)(res:Value)(c₀:Nat)(hI:s.heap.IsRevIter I l ((items.size:Int)-1))(hl:s.heap.IsList l items)(hSI:S≠I)(hSl:S≠l)(hn:items.size<=sizeLine)
    (hS:s.heap.get? S=some { cls:=.type "list", data:=.seq #[] c₀ })
    (hR:∀h' tk acc' c',(∀b o,b≠S->b≠I->s.heap.get? b=some o->h'.get? b=some o)->h'.get? S=some { cls:=.type "list", dict:=none,data:=.seq acc' c',slots:=#[] }->ItemsOf (λi v=>items[items.size-1-i]?=some v) acc' items.size->R (.ok (.ret res)) { s with heap:=h',toks:=tk }) :
    wpAny (model prog w) A.in1 (Builtin.List.listExtendWith (.ref S) (.ref I) res)
      (λfin s'=>match fin with | .done f=>R (.ok f) s' | .again c'=>c'.quiet=true/\codeAny (model prog w) A c' R s') (λe s'=>R (.error e) s') s:=by
  have W:=(Walks.listRev (prog:=prog) (w:=w) (A:=A.in1) hh I l hne items).toS
  unfold Builtin.List.listExtendWith
  refine wpAny_bind (wpAny_typeOf hI.typeIs ?_)
  have h1:Builtin.List.listSameRef (.ref S) (.ref I)=false:=by simp[Builtin.List.listSameRef,hSI]
  have h2:(Value.type "list_reverseiterator" == Value.type "list")=false:=by decide
  have h3:(Value.type "list_reverseiterator" == Value.type "tuple")=false:=by decide
  simp only[h1,h2,h3,Bool.or_false,Bool.false_eq_true,if_false]
  refine wpAny_bind (wpAny_pyIter_revIter hI ?_)
  refine wpAny_bind (wpAny_holding ?_)
  unfold Builtin.List.listLengthHint
  refine wpAny_bind (wpAny_specialOf hI.typeIs ZiI ?_)
  show wpAny _ A.in1 (specialOf (Value.ref I) (Str.ofString "__length_hint__") >>= _) _ _ _
  refine wpAny_bind (wpAny_specialOf hI.typeIs ZkM ?_)
  generalize hid:("list_reverseiterator.__length_hint__" : String)=id0
  wp_delta
  rw[show splitId id0=some ("list_reverseiterator", "__length_hint__") from by subst hid; decide +kernel]
  subst hid
  refine wpAny_bind (wpAny_isInstance (T := "list_reverseiterator") (b:=true) hI.typeIs (by rw[isSubtype_type]; kernel_rfl) ?_)
  refine wpAny_ite_split (λhab=>absurd hab (by decide)) (λ_=>?_)
  refine wpAny_ite_split (λ_=>?_) (λhab=>absurd (by decide +kernel) hab)
  refine wpAny_ite_split (λhab=>absurd hab (by decide +kernel)) (λ_=>?_)
  refine wpAny_pure ?_
  have hst:(0:Nat)<=items.size/\s.heap.IsRevIter I l ((items.size:Int)-1-((0:Nat):Int))/\s.heap.IsList l items:=⟨Qb _,by simpa using hI,hl⟩
  refine wpAny_ite_split (λhab=>absurd hab (by decide +kernel)) (λ_=>wpAny_pure ⟨plainId_quiet F.plain_extend_loop _,?_⟩)
  refine codeAny_extend_loopS W hn S ?_ res items.size 0 s #[] c₀ rfl (Qb _) hst hS (ItemsOf.nil _) λs' acc' c' hm hS' hacc=>?_
  · intro hm
    rcases Qh.mp hm with e | e
    · exact hSI e
    · exact hSl (Q3.mp e)
  rw[Moved.eq_with hm]
  refine hR s'.heap s'.toks acc' c' (λb o hb hb2 e=>hm.heap b o (λhmem=>?_) e) hS' hacc
  rcases Qh.mp hmem with e' | hmem
  · exact hb e'
  · exact hb2 (Q3.mp hmem)
theorem ZfJ{I l:Addr}{items:Array Value}(hh:A.handled=none)(hne:l≠I)(S:Addr)(hI:s.heap.IsRevIter I l ((items.size:Int)-1))(hl:s.heap.IsList l items)(hSI:S≠I)(hSl:S≠l)(hn:items.size<=sizeLine)
    (hS:s.heap.get? S=some { cls:=.type "list", data:=.seq #[] })
    (hR:∀h' tk acc' c',(∀b o,b≠S->b≠I->s.heap.get? b=some o->h'.get? b=some o)->h'.get? S=some { cls:=.type "list", dict:=none,data:=.seq acc' c',slots:=#[] }->ItemsOf (λi v=>items[items.size-1-i]?=some v) acc' items.size->R (.ok (.ret .none)) { s with heap:=h',toks:=tk }) :
    wpAny (model prog w) A.in1 (Builtin.«list.__init__» ⟨[.ref S,.ref I],[]⟩)
      (λfin s'=>match fin with | .done f=>R (.ok f) s' | .again c'=>c'.quiet=true/\codeAny (model prog w) A c' R s') (λe s'=>R (.error e) s') s:=by
  show wpAny _ _ (do let old ← Builtin.List.listItems (.ref S); Builtin.List.listUpdate (.ref S) (λ_=>#[]); letGo old.toList.reverse; Builtin.List.listExtendWith (.ref S) (.ref I) .none) _ _ s
  refine wpAny_bind ?_
  unfold Builtin.List.listItems
  refine wpAny_bind (wpAny_seqItems hS rfl (wpAny_pure ?_))
  show wpAny _ _ (updateSeq S (λ_=>#[]) >>= λ_=>letGo (#[]:Array Value).toList.reverse >>= λ_=>Builtin.List.listExtendWith (.ref S) (.ref I) .none) _ _ s
  refine wpAny_bind (wpAny_updateSeq hS rfl ?_)
  have hS₂:=Heap.get?_update_self (Obj.mapSeq (λ_=>(#[]:Array Value))) hS rfl
  have oth:∀b o,b≠S->s.heap.get? b=some o->(s.heap.update S (Obj.mapSeq (λ_=>(#[]:Array Value)))).get? b=some o :=
    λb o hb e=>(Heap.get?_update_other _ _ (Ne.symm hb)).trans e
  refine wpAny_bind (wpAny_letGo ?_)
  refine ZiJ hh hne S .none _ (hI.at λo e=>oth I o (Ne.symm hSI) e) (hl.at λo e=>oth l o (Ne.symm hSl) e) hSI hSl hn hS₂ λh' tk acc' c' hk hS' hacc=>?_
  exact hR h' tk acc' c' (λb o hb hb2 e=>hk b o hb hb2 (oth b o hb e)) hS' hacc
end
section
variable{prog:Program}{w:World}{A:Around}{E:Value->Shared->Prop}{s:Shared}
theorem Zdw{Q:Value->Shared->Prop}{I l:Addr}{items:Array Value}(hh:A.handled=none)(hne:l≠I)(hI:s.heap.IsRevIter I l ((items.size:Int)-1))(hl:s.heap.IsList l items)(hn:items.size<=sizeLine)
    (hQ:∀h' tk acc' c',(∀b o,b≠I->s.heap.get? b=some o->h'.get? b=some o) →
      h'.get? s.heap.objs.size=some { cls:=.type "list", dict:=none,data:=.seq acc' c',slots:=#[] }->ItemsOf (λi v=>items[items.size-1-i]?=some v) acc' items.size->Q (.ref s.heap.objs.size) { s with heap:=h',toks:=tk }) :
    wpAny (model prog w) A (call (.type "list") [.ref I]) Q E s:=by
  refine callType_codes (Q₁:=λobj s₁=>obj = .ref s.heap.objs.size/\s₁={ s with heap:=s.heap.push { cls:=.type "list", data:=.seq #[] } }) F.called_list (F.typeCall_list_1 _) F.entry_list_init
    (code_list_new _ ⟨rfl,rfl⟩) λobj s₁ h₁=>?_
  obtain ⟨rfl,rfl⟩:=h₁
  have hS:(s.heap.push { cls:=.type "list", data:=.seq #[] }).get? s.heap.objs.size=some { cls:=.type "list", data:=.seq #[] }:=Heap.get?_push_size _ rfl
  obtain ⟨o1,ho1,_⟩:=id hI
  obtain ⟨o2,ho2,_⟩:=id hl
  refine ⟨⟨_,hS,rfl⟩,F.args_list_init_2 _ _,ZfJ (A:=A.in1) hh hne _ (hI.at λo e=>Heap.get?_push_of_some _ e) (hl.at λo e=>Heap.get?_push_of_some _ e) (Ne.symm (Qa (Heap.lt_size ho1))) (Ne.symm (Qa (Heap.lt_size ho2))) hn hS λh' tk acc' c' hk hS' hacc=>?_⟩
  exact ⟨rfl,hQ h' tk acc' c' (λb o hb e=>hk b o (Qa (Heap.lt_size e)) hb (Heap.get?_push_of_some _ e)) hS' hacc⟩
end
section
variable{X:Cx}{e1:Expr}{ta:TA}{p p2 pos pos2:Pos}
def ZoK(K:PySem.W.Frag)(ta:TA):TE:=λσ H Q=>ta σ H λvs H1=>∃a xs,vs=[.ref a]/\SqL K H1 a xs/\∀p,H1 p=none->Q (.ref p) (upd H1 p (.lst xs.reverse))
theorem ZjJ{its:List Value}{acc:Array Value}(h:ItemsOf (λi v=>its.toArray[its.toArray.size-1-i]?=some v) acc its.toArray.size):acc=its.reverse.toArray:=by
  obtain ⟨h1,h2⟩:=h
  have z1:its.toArray.size=its.length:=Qd
  have z2:its.reverse.toArray.size=its.length:=Qd.trans Ui
  refine Array.ext (by omega) λi g1 g2=>?_
  have:=h2 i acc[i] (Array.getElem?_eq_getElem g1)
  have e:its.reverse.toArray[i]?=some acc[i]:=by
    rw[List.getElem?_toArray,List.getElem?_reverse (by omega),<-List.getElem?_toArray,<-this,Qd]
  rw[Array.getElem?_eq_getElem g2] at e
  exact (Option.some.inj e).symm
theorem ZiK(hgl:Gl X "list") (hml:X.mg "list" = none) (hg:Gl X "reversed") (hm:X.mg "reversed" = none) (hcalm:X.calm=true) (ha:PA X [e1] ta) (hs:starEach [e1] X.env=[(false,eval e1 X.env)]:=by rfl) (hs2:starEach [.Call (.Name "reversed" p) [e1] [] pos] X.env=[(false,eval (.Call (.Name "reversed" p) [e1] [] pos) X.env)]:=by rfl) :
    PE X (.Call (.Name "list" p2) [.Call (.Name "reversed" p) [e1] [] pos] [] pos2) (ZoK X.K ta):=by
  intro pins s σ H Q I h
  refine wpAny_Call_Name_kw (ZdC I hgl hml boot_list ?_)
  refine PyProof.Rows.callWith_type1 ?_ (by rw[hs2]; rfl) (by rfl)
  rw[hs2]
  show wpAny _ _ (spliced ((false,eval (.Call (.Name "reversed" p) [e1] [] pos) X.env)::backTo pos2 (starEach [] X.env))) _ _ s
  refine Calls.spliced_cons ?_
  refine wpAny_Call_Name_kw (ZdC I hg hm PyProof.Rows.Boot.«reversed» (PyProof.Rows.callWith_type1 (thn (ha pos pins s σ H _ I h) λus s1 ⟨vs,H1,I1,r1,q1⟩=>?_) (by rw[hs]; rfl) (by rfl)))
  obtain ⟨a,xs,e,hq,q⟩:=q1
  subst e
  obtain ⟨u,rfl,ru⟩:=Zip r1
  cases (show u=Value.ref a from ru)
  obtain ⟨its,rv,pl,hz⟩:=I1.list hq
  have hl:=rv.length
  obtain ⟨oa,hoa,_⟩:=id pl.isList
  refine call_reversed_list pl.isList ?_
  refine Calls.spliced_nil ?_
  have hI:({ s1 with heap:=s1.heap.push (revObj a ((its.toArray.size:Int)-1)) }:Shared).heap.IsRevIter s1.heap.objs.size a ((its.toArray.size:Int)-1):=⟨_,Heap.get?_push_size _ rfl,rfl,rfl⟩
  have I2:Inv X pins σ H1 { s1 with heap:=s1.heap.push (revObj a ((its.toArray.size:Int)-1)) }:=I1.kept (t':=s1.toks) λb o e=>Heap.get?_push_of_some _ e
  refine Zdw (I1.ok.hd hcalm) (Qa (Heap.lt_size hoa)) hI (pl.isList.at λo e=>Heap.get?_push_of_some _ e) (by rw[Qd]; omega) λh' tk acc' c' hk hS' hacc=>?_
  have ei:=ZjJ hacc
  subst ei
  have kp:∀b o',s1.heap.get? b=some o'->h'.get? b=some o':=λb o' e=>hk b o' (Qa (Heap.lt_size e)) (Heap.get?_push_of_some _ e)
  have hp:s1.heap.objs.size<=(s1.heap.push (revObj a ((its.toArray.size:Int)-1))).objs.size:=by rw[Heap.size_push]; omega
  refine ⟨.ref _,_,I1.laid (t':=tk) (h':=h') kp hp ?_,rfl,q _ (I1.hok.fresh hp)⟩
  exact ⟨by rw[Ui]; exact hz,_,c',Zmu rv,hS'⟩
end
end L2
namespace My
open PySem L2 PyProof.Rows
section
variable{κ:KX}
def QN(κ:KX)(D:Int)(M:Nat)(x:κ.F):Prop:=match κ with
  | .q=>∃X:Int,x=Rat.divInt X D/\X.natAbs<=M
  | .r _ _=>True
theorem QN.mono{D:Int}{M N:Nat}{x:κ.F}(h:QN κ D M x)(l:M<=N):QN κ D N x:=by
  cases κ with
  | r p hp=>exact trivial
  | q=>obtain ⟨X,e,hX⟩:=h; exact ⟨X,e,Q0 hX l⟩
theorem QN.mul{D E:Int}{M N:Nat}{x y:κ.F}(h:QN κ D M x)(g:QN κ E N y):QN κ (D*E) (M*N) (x*y):=by
  cases κ with
  | r p hp=>exact trivial
  | q =>
    obtain ⟨X,rfl,hX⟩:=h
    obtain ⟨Y,rfl,hY⟩:=g
    exact ⟨X*Y,Wj _ _,by rw[Qf]; exact W1 hX hY⟩
theorem QN.add{D:Int}(hD:0<D){M N:Nat}{x y:κ.F}(h:QN κ D M x)(g:QN κ D N y):QN κ D (M+N) (x+y):=by
  cases κ with
  | r p hp=>exact trivial
  | q =>
    obtain ⟨X,rfl,hX⟩:=h
    obtain ⟨Y,rfl,hY⟩:=g
    refine ⟨X+Y,?_,Q0 (Int.natAbs_add_le X Y) (Nat.add_le_add hX hY)⟩
    show Rat.divInt X D+Rat.divInt Y D=_
    rw[Ut _ _ (by omega) (by omega),Qt (Wy (Qk hD hD)) (by omega),<-Int.add_mul,Qn]
theorem QN.zero{D:Int}{M:Nat}:QN κ D M 0:=by
  cases κ with
  | r p hp=>exact trivial
  | q=>exact ⟨0,(Uw D).symm,Qb _⟩
theorem QN.b1{D:Int}(hD:0<D)(lD:D.natAbs<2^3000){M:Nat}(lM:M<2^3000){x:κ.F}(h:QN κ D M x):B1 κ x:=by
  cases κ with
  | r p hp=>exact trivial
  | q =>
    obtain ⟨X,rfl,hX⟩:=h
    obtain ⟨d1,d2⟩:=Zcr X hD
    refine ⟨?_,?_⟩
    · show Bits 1000000 (Rat.divInt X D).num
      exact ZdV d2 ((Bits.of (n:=3000) (Q9 hX lM)).up (by decide)) (ZfF X hD)
    · show Bits 4000 ((Rat.divInt X D).den:Int)
      exact ZdV d1 ((Bits.of (n:=3000) lD).up (by decide)) (λz=>by omega)
theorem Zgv{κ:KX}:QN κ 1 1 1:=by
  cases κ with
  | r p hp=>exact trivial
  | q=>exact ⟨1,rfl,Q2 _⟩
theorem ZdX{κ:KX}:QN κ 12 108 1:=by
  cases κ with
  | r p hp=>exact trivial
  | q=>exact ⟨12,by show (1:Rat)=Rat.divInt 12 12; rfl,by decide⟩
theorem Zph{t b:Int}(h0:1<=b)(h:b<=4)(ht:t.natAbs<=9):QN .q 12 108 (Rat.divInt t b):=by
  rcases (by omega:b=1\/b=2\/b=3\/b=4) with rfl | rfl | rfl | rfl
  · exact ⟨t*12,by rw[Qt (by decide) (by decide)]; omega,by omega⟩
  · exact ⟨t*6,by rw[Qt (by decide) (by decide)]; omega,by omega⟩
  · exact ⟨t*4,by rw[Qt (by decide) (by decide)]; omega,by omega⟩
  · exact ⟨t*3,by rw[Qt (by decide) (by decide)]; omega,by omega⟩
noncomputable def pI(F G:List κ.F)(i:Nat):Nat->Nat->κ.F
  | 0,_=>0
  | j+1,k=>pI F G i j k+(if i+j=k then F.getD i 0*G.getD j 0 else 0)
noncomputable def pO(F G:List κ.F):Nat->Nat->κ.F
  | 0,_=>0
  | i+1,k=>pO F G i k+pI F G i G.length k
noncomputable def ZbZ(F G:List κ.F)(i j:Nat):List κ.F:=(List.range (F.length+G.length)).map λk=>pO F G i k+pI F G i j k
theorem ZaY(F G:List κ.F)(i j:Nat):(ZbZ F G i j).length=F.length+G.length:=by unfold ZbZ; simp
theorem ZdY{F G:List κ.F}{i j k:Nat}(h:k<F.length+G.length):(ZbZ F G i j).getD k 0=pO F G i k+pI F G i j k:=by
  unfold ZbZ
  rw[Q4,Qc,W8 h]; rfl
theorem Zet{F G:List κ.F}{i j k:Nat}(h:k<(ZbZ F G i j).length):(ZbZ F G i j)[k]=pO F G i k+pI F G i j k:=by simp[ZbZ]
theorem add00{κ:KX}:(0:κ.F)+0=0:=by grind
theorem ZnJ(F G:List κ.F):ZbZ F G 0 0=List.replicate (F.length+G.length) 0:=by
  apply List.ext_getElem (by rw[ZaY,Uc])
  intro k h1 h2
  rw[Zet,List.getElem_replicate]
  exact add00
theorem ZkN(F G:List κ.F)(i:Nat):ZbZ F G i G.length=ZbZ F G (i+1) 0:=by
  unfold ZbZ
  congr 1
  funext k
  show pO F G i k+pI F G i G.length k=(pO F G i k+pI F G i G.length k)+0
  grind
theorem ZjK{F G:List κ.F}{i j:Nat}(hi:i<F.length)(hj:j<G.length):ZbZ F G i (j+1)=(ZbZ F G i j).set (i+j) ((ZbZ F G i j).getD (i+j) 0+F.getD i 0*G.getD j 0):=by
  rw[ZdY (by omega)]
  apply List.ext_getElem (by rw[Wc,ZaY,ZaY])
  intro k h1 h2
  rw[List.getElem_set,Zet,Zet]
  show pO F G i k+(pI F G i j k+(if i+j=k then F.getD i 0*G.getD j 0 else 0))=_
  by_cases e:i+j=k
  · subst e
    rw[if_pos rfl,if_pos rfl]; grind
  · rw[if_neg e,if_neg e]; grind
theorem Zmv{F G:List κ.F}{D E:Int}{M N:Nat}(hDE:0<D*E)(hF:∀x∈F,QN κ D M x)(hG:∀x∈G,QN κ E N x)(i:Nat)(hi:i<F.length):∀(j k:Nat),j<=G.length->QN κ (D*E) (j*(M*N)) (pI F G i j k)
  | 0,k,_=>QN.zero
  | j+1,k,h=>by
    have ih:=Zmv hDE hF hG i hi j k (by omega)
    have e:(j+1)*(M*N)=j*(M*N)+M*N:=Uj _ _
    rw[e]
    refine QN.add hDE ih ?_
    split
    · have a:F.getD i 0∈F:=by rw[Q4,Q5 hi]; exact Wd hi
      have b:G.getD j 0∈G:=by rw[Q4,Q5 (show j<G.length by omega)]; exact Wd _
      exact QN.mul (hF _ a) (hG _ b)
    · exact QN.zero
theorem Zmw{F G:List κ.F}{D E:Int}{M N:Nat}(hDE:0<D*E)(hF:∀x∈F,QN κ D M x)(hG:∀x∈G,QN κ E N x):∀(i k:Nat),i<=F.length->QN κ (D*E) (i*(G.length*(M*N))) (pO F G i k)
  | 0,k,_=>QN.zero
  | i+1,k,h=>by
    have e:(i+1)*(G.length*(M*N))=i*(G.length*(M*N))+G.length*(M*N):=Uj _ _
    rw[e]
    exact QN.add hDE (Zmw hDE hF hG i k (by omega)) (Zmv hDE hF hG i (by omega) _ k (Q2 _))
theorem Zmx{F G:List κ.F}{D E:Int}{M N:Nat}(hDE:0<D*E)(hF:∀x∈F,QN κ D M x)(hG:∀x∈G,QN κ E N x){i j:Nat}(hi:i<F.length)(hj:j<=G.length):∀x∈ZbZ F G i j,QN κ (D*E) (F.length*(G.length*(M*N))) x:=λx hx=>by
  unfold ZbZ at hx
  obtain ⟨k,_,rfl⟩:=W4.mp hx
  refine (QN.add hDE (Zmw hDE hF hG i k (by omega)) (Zmv hDE hF hG i hi j k hj)).mono ?_
  have a:j*(M*N)<=G.length*(M*N):=Qw _ hj
  have b:(i+1)*(G.length*(M*N))<=F.length*(G.length*(M*N)):=Qw _ hi
  rw[Uj] at b
  omega
theorem ZfK{F G:List κ.F}{D E:Int}{M N:Nat}(hDE:0<D*E)(hF:∀x∈F,QN κ D M x)(hG:∀x∈G,QN κ E N x):∀x∈ZbZ F G F.length 0,QN κ (D*E) (F.length*(G.length*(M*N))) x:=λx hx=>by
  unfold ZbZ at hx
  obtain ⟨k,_,rfl⟩:=W4.mp hx
  exact (QN.add hDE (Zmw hDE hF hG F.length k (Q2 _)) (QN.zero (M:=0))).mono (Q2 _)
theorem Zmy{F G:List κ.F}{i k:Nat}:∀ {j:Nat},i+j<=k->pI F G i j k=0
  | 0,_=>rfl
  | j+1,h=>by
    show pI F G i j k+(if i+j=k then F.getD i 0*G.getD j 0 else 0)=0
    rw[Zmy (by omega),if_neg (by omega)]; exact add00
theorem Zmz{F G:List κ.F}{k:Nat}:∀ {i:Nat},i+G.length<=k+1->pO F G i k=0
  | 0,_=>rfl
  | i+1,h=>by
    show pO F G i k+pI F G i G.length k=0
    rw[Zmz (by omega),Zmy (by omega)]; exact add00
theorem ZnK{F G:List κ.F}{a b:Nat}(hF:F.length=a+1)(hG:G.length=b+1):pO F G F.length (a+b)=F.getD a 0*G.getD b 0:=by
  rw[hF]
  show pO F G a (a+b)+pI F G a G.length (a+b)=_
  rw[Zmz (by omega),hG]
  show 0+(pI F G a b (a+b)+(if a+b=a+b then F.getD a 0*G.getD b 0 else 0))=_
  rw[Zmy (by omega),if_pos rfl]; grind
theorem ZjL{F G:List κ.F}{k:Nat}(h:F.length+G.length<=k+1):pO F G F.length k=0:=Zmz h
def Mon(F:List κ.F):Prop:=1<=F.length/\F.getD (F.length-1) 0=1
theorem ZhT{F G:List κ.F}(hF:Mon F)(hG:Mon G){r:Nat}(lr:r<=F.length+G.length)(h0:∀k,r<=k->(ZbZ F G F.length 0).getD k 0=0)(h1:r=0\/(ZbZ F G F.length 0).getD (r-1) 0≠0):r=F.length+G.length-1/\Mon ((ZbZ F G F.length 0).take r):=by
  obtain ⟨f1,f2⟩:=hF
  obtain ⟨g1,g2⟩:=hG
  have ht:(ZbZ F G F.length 0).getD (F.length+G.length-2) 0=1:=by
    rw[ZdY (by omega)]
    have:=ZnK (F:=F) (G:=G) (a:=F.length-1) (b:=G.length-1) (by omega) (by omega)
    rw[show F.length-1+(G.length-1)=F.length+G.length-2 by omega,f2,g2] at this
    rw[this]
    show (1:κ.F)*1+0=1
    grind
  have z1:(1:κ.F)≠0:=λz=>Fd.zne z.symm
  have r1:F.length+G.length-2<r:=by
    refine Nat.lt_of_not_le λz=>?_
    rw[h0 _ z] at ht
    exact z1 ht.symm
  have r2:r<=F.length+G.length-1:=by
    refine Nat.le_of_not_lt λz=>?_
    rcases h1 with h1 | h1
    · omega
    · refine h1 ?_
      rw[ZdY (by omega),ZjL (by omega)]
      exact add00
  have er:r=F.length+G.length-1:=by omega
  refine ⟨er,?_,?_⟩
  · rw[Q8,ZaY]; omega
  · rw[Q8,ZaY,Q4,W7,if_pos (by omega),<-Q4,<-ht]
    congr 1
    omega
noncomputable def ZpQ(f:List κ.F)(d i:Nat):List κ.F:=(List.range d).map λc=>if c+1=d then 0-f.getD i 0 else if c+1=i then 1 else 0
noncomputable def ZpZ(f:List κ.F):List (List κ.F):=(List.range (f.length-1)).map λi=>ZpQ f (f.length-1) i
noncomputable def atE:List (List κ.F)->Nat->Nat->Nat->κ.F
  | [],_,_,_=>0
  | f::fs,s,i,j=>if s<=i/\i<s+(f.length-1)/\j+1=s+(f.length-1) then 0-f.getD (i-s) 0 else if s<=i/\i<s+(f.length-1)/\s<=j then (if i=j+1 then 1 else 0) else atE fs (s+(f.length-1)) i j
end
end My
namespace My
open PySem L2 PyProof.Rows
theorem ZiL{p:Int}(h:p=2\/p=3\/p=5\/p=7\/p=11\/p=97):M2.Prm p:=by
  refine ⟨by omega,λd h1 h2 hd=>?_⟩
  have hl:d<10:=by
    refine Uq λz=>?_
    have:=M2.sq_mono (a:=10) (by omega) z
    omega
  have e:=U8 hd
  have s2:=M2.sq_mono (a:=2) (by omega) h1
  rcases (by omega:d=2\/d=3\/d=4\/d=5\/d=6\/d=7\/d=8\/d=9) with rfl | rfl | rfl | rfl | rfl | rfl | rfl | rfl <;> omega
theorem ZoL(c:Int):∃m:Int,atI [V.int 2,V.int 3,V.int 5,V.int 7,V.int 11,V.int 97] (c/3%6)=some (.int m)/\PK m:=by
  rcases (by omega:c/3%6=0\/c/3%6=1\/c/3%6=2\/c/3%6=3\/c/3%6=4\/c/3%6=5) with e | e | e | e | e | e <;> rw[e]
  · exact ⟨2,rfl,.inr ⟨ZiL (by omega),by decide⟩⟩
  · exact ⟨3,rfl,.inr ⟨ZiL (by omega),by decide⟩⟩
  · exact ⟨5,rfl,.inr ⟨ZiL (by omega),by decide⟩⟩
  · exact ⟨7,rfl,.inr ⟨ZiL (by omega),by decide⟩⟩
  · exact ⟨11,rfl,.inr ⟨ZiL (by omega),by decide⟩⟩
  · exact ⟨97,rfl,.inr ⟨ZiL (by omega),by decide⟩⟩
def Zeu:Sp:=λvs H Q _=>∃n:Int,vs=[.int n]/\2<=n/\n<=999983/\∀p:Int,PK p->Q (.int p) H
def Zdc:Sp:=λvs H Q _=>∃c:Int,vs=[.int c]/\∀(H':Hp) (p:Int),Same H H'->PK p->Q (.int p) H'
def Za3:Sp:=λvs H Q _=>∃(κ:KX) (t:Int) (x:κ.F),vs=[.int κ.P,.int t]/\NumV κ t x/\∀H' v,Same H H'->NR κ H' v x->Q v H'
def ZdG:Sp:=λvs H Q _=>∃(κ:KX) (u:V) (x:κ.F),vs=[.int κ.P,u]/\NR κ H u x/\Q (.bl true) H
theorem Zln{p:Prop}[Decidable p]{Q:V->Hp->Prop}{H:Hp}(h:p)(k:Q (.bl true) H):Q (.bl (decide p)) H:=by rw[decide_eq_true h]; exact k
def Zdd:Sp:=λvs H Q _=>∃(κ:KX) (a:Addr) (xs:List V) (f:List κ.F),vs=[.int κ.P,.ref a,.int (f.length:Int)]/\H a=some (.lst xs)/\AllG (NR κ H) xs f/\Q (.bl true) H
def Zfa(K:PySem.W.Frag)(sp0:Sp):Sp:=λvs H Q _=>∃v,vs=[v]/\((∃i:Int,v = .int i/\Q .non H) ∨
  (∃(t:Addr) (xs:List V) (Pv:Nat->Hp->Prop),v = .ref t/\H t=some (.tup xs)/\Pv 0 H/\(∀i H',i<=xs.length->Pv i H'->H' t=some (.tup xs))/\(∀i x H' (Q':VK),xs[i]?=some x->Pv i H'->(∀u H'',Pv (i+1) H''->Q' u H'')->sp0 [x] H' Q' E0)/\∀H',Pv xs.length H'->Q .non H') ∨
  (∃(t:Addr) (xs:List V) (Pv:Nat->Hp->Prop),v = .ref t/\H t=some (.lst xs)/\xs.length<=100/\Pv 0 H/\(∀i H',i<=xs.length->Pv i H'->H' t=some (.lst xs))/\(∀i x H' (Q':VK),xs[i]?=some x->Pv i H'->(∀u H'',Pv (i+1) H''->Q' u H'')->sp0 [x] H' Q' E0)/\∀H',Pv xs.length H'->Q .non (upd H' t (.lst (xs++[.non])))))
theorem ZfL(K:PySem.W.Frag):PySem.W.kitOne K (.type "int") (.type "tuple")=some false:=Zc3 K (by decide +kernel) (by decide +kernel) (by decide +kernel)
theorem ZdH(K:PySem.W.Frag):PySem.W.kitOne K (.type "int") (.type "list")=some false:=Zc3 K (by decide +kernel) (by decide +kernel) (by decide +kernel)
theorem ZeO(K:PySem.W.Frag):PySem.W.kitOne K (.type "tuple") (.type "list")=some false:=Zc3 K (by decide +kernel) (by decide +kernel) (by decide +kernel)
theorem ZeP(K:PySem.W.Frag):PySem.W.kitOne K (.type "list") (.type "tuple")=some false:=Zc3 K (by decide +kernel) (by decide +kernel) (by decide +kernel)
def spF:Sp:=λ_ _ _ _=>False
theorem ZjM{K:PySem.W.Frag}{κ:KX}{H:Hp}{v:V}{x:κ.F}{Q:VK}{E:XK}(n:NR κ H v x)(k:Q .non H):Zfa K (Zfa K spF) [v] H Q E:=by
  cases κ with
  | r p hp=>exact ⟨v,rfl,.inl ⟨_,n,k⟩⟩
  | q =>
    obtain ⟨a,rfl,h⟩:=n
    refine ⟨_,rfl,.inr (.inl ⟨a,_,λ_ H'=>H'=H,rfl,h,rfl,λi H' _ e=>by rw[e]; exact h,λi x' H' Q' hx e k'=>?_,λH' e=>by rw[e]; exact k⟩)⟩
    subst e
    match i,hx with
    | 0,hx=>cases hx; exact ⟨_,rfl,.inl ⟨_,rfl,k' _ _ rfl⟩⟩
    | 1,hx=>cases hx; exact ⟨_,rfl,.inl ⟨_,rfl,k' _ _ rfl⟩⟩
    | i+2,hx=>simp at hx
end My
namespace My
open PySem L2 PyProof.Rows
theorem Zcs{κ:KX}{l:List κ.F}{i:Nat}(h:i<l.length):l[i]?=some (l.getD i 0):=by
  rw[Q4,Q5 h]; rfl
theorem Zbt{κ:KX}{H:Hp}{xs:List V}{f:List κ.F}(h:AllG (NR κ H) xs f){i:Nat}(hi:i<f.length):∃v,xs[i]?=some v/\NR κ H v (f.getD i 0):=by
  obtain ⟨v,hv⟩:=ZaG (Zcs hi) h.1.symm
  obtain ⟨x,hx,nx⟩:=h.get hv
  rw[Zcs hi] at hx
  cases hx
  exact ⟨v,hv,nx⟩
end My
namespace My
open PySem L2 PyProof.Rows
def Zfb:Sp:=λvs H Q _=>∃c j:Int,vs=[.int c,.int j]/\j.natAbs<=1000/\∀m:Int,Q (.int m) H
def ZcZ:Sp:=λvs H Q _=>∃(κ:KX) (c:Int),vs=[.int κ.P,.int c]/\∀H' v (x:κ.F),Same H H'->NR κ H' v x->QN κ 12 108 x->Q v H'
def ZdZ:Sp:=λvs H Q _=>∃(κ:KX) (a:Addr) (xs:List V) (g:List κ.F),vs=[.int κ.P,.ref a]/\H a=some (.lst xs)/\AllG (NR κ H) xs g ∧
  ∀(H':Hp) (D:Addr) (r:Nat),Same H H'->H' D=some (.lst (xs.take r))->r<=g.length->(∀j,r<=j->g.getD j 0=0)->(r=0\/g.getD (r-1) 0≠0)->(D=a\/H D=none)->Q (.ref D) H'
def Zbl:Sp:=λvs H Q _=>∃(κ:KX) (fa ga:Addr) (xs ys:List V) (F G:List κ.F) (D E:Int) (M N:Nat),vs=[.int κ.P,.ref fa,.ref ga]/\H fa=some (.lst xs)/\H ga=some (.lst ys)/\AllG (NR κ H) xs F/\AllG (NR κ H) ys G/\F.length<=100/\G.length<=100 ∧
  (∀x∈F,QN κ D M x)/\(∀x∈G,QN κ E N x)/\0<D/\0<E/\(D.natAbs<2^3000/\E.natAbs<2^3000/\M<2^3000/\N<2^3000/\(D*E).natAbs<2^3000)/\F.length*(G.length*(M*N))<2^3000 ∧
  ∀(H':Hp) (R:Addr) (zs:List V) (r:Nat),Same H H'->H' R=some (.lst zs)->AllG (NR κ H') zs ((ZbZ F G F.length 0).take r)->r<=F.length+G.length->(∀j,r<=j->(ZbZ F G F.length 0).getD j 0=0)->(r=0\/(ZbZ F G F.length 0).getD (r-1) 0≠0)->H R=none->Q (.ref R) H'
theorem ZcC{κ:KX}{H:Hp}{xs:List V}{f:List κ.F}(h:AllG (NR κ H) xs f)(r:Nat):AllG (NR κ H) (xs.take r) (f.take r):=by
  obtain ⟨l,h⟩:=h
  refine ⟨by rw[Q8,Q8,l],λi v d hv hd=>?_⟩
  rw[W7] at hv hd
  by_cases c:i<r
  · rw[if_pos c] at hv hd; exact h i v d hv hd
  · rw[if_neg c] at hv; cases hv
theorem ZoM{κ:KX}{H:Hp}{u v:V}{x y:κ.F}(hu:NR κ H u x)(hv:NR κ H v y):∃b,ZnB H u v b/\(b=true↔x=y):=by
  cases κ with
  | q =>
    obtain ⟨a,rfl,ha⟩:=hu
    obtain ⟨c,rfl,hc⟩:=hv
    refine ⟨_,.inr ⟨a,c,_,_,_,_,rfl,rfl,ha,hc,rfl⟩,?_⟩
    rw[Bool.and_eq_true_iff,decide_eq_true_iff,decide_eq_true_iff]
    constructor
    · rintro ⟨e1,e2⟩
      exact Rat.ext e1 (by omega)
    · intro e
      have e:x=y:=e
      subst e
      exact ⟨rfl,rfl⟩
  | r p hp =>
    have hu:u = .int x.val:=hu
    have hv:v = .int y.val:=hv
    refine ⟨_,.inl ⟨_,_,hu,hv,rfl⟩,?_⟩
    rw[decide_eq_true_iff]
    constructor
    · intro e; exact Fin.ext (by omega)
    · intro e
      have e:x=y:=e
      subst e; rfl
end My
namespace My
open PySem L2 PyProof.Rows
def ZnL{κ:KX}(f:List κ.F):Prop:=1<=f.length/\f.length<=8/\∀x∈f,B1 κ x
structure ChOk {κ:KX} (fs:List (List κ.F)):Prop where
  l1:1<=fs.length
  l7:fs.length<=7
  ok:∀f∈fs,ZnL f
theorem ZoN(c:Int):∃n:Nat,atI [V.int 0,V.int 1,V.int 1,V.int 2,V.int 3] (c%5)=some (.int (n:Int))/\n<=3:=by
  rcases (by omega:c%5=0\/c%5=1\/c%5=2\/c%5=3\/c%5=4) with e | e | e | e | e <;> rw[e]
  · exact ⟨0,rfl,by decide⟩
  · exact ⟨1,rfl,by decide⟩
  · exact ⟨1,rfl,by decide⟩
  · exact ⟨2,rfl,by decide⟩
  · exact ⟨3,rfl,by decide⟩
theorem ZoO{C G:L2.St->Hp->Prop}{X:Prop}(h:(∀σ H,C σ H->G σ H)->X)(hG:∀σ H,C σ H->G σ H):X:=h hG
theorem ZhU{i:Nat}(h:i<=7):0<(12:Int)^i/\((12:Int)^i).natAbs<2^3000/\(2^(12*i):Nat)<2^3000:=by
  refine ⟨Uh (by decide),?_,Nat.pow_lt_pow_right (by decide) (by omega)⟩
  rw[Uv]
  show 12^i<2^3000
  have a:12^i<=(2^4)^i:=Nat.pow_le_pow_left (by decide) i
  rw[<-Nat.pow_mul] at a
  exact Q9 a (Nat.pow_lt_pow_right (by decide) (by omega))
theorem ZmA{i f g:Nat}(hf:f<=8)(hg:g<=4):f*(g*(2^(12*i)*108))<=2^(12*(i+1)):=by
  have a:f*(g*(2^(12*i)*108))<=8*(4*(2^(12*i)*108)):=W1 hf (Qw _ hg)
  have b:2^(12*(i+1))=2^(12*i)*4096:=by rw[Nat.mul_add,Wt]
  omega
structure Chn (κ:KX) (H:Hp) (ca:Addr) (n:Nat):Prop where
  ex:∃(as:List Addr) (fs:List (List κ.F)),H ca=some (.lst (as.map V.ref))/\RowsX κ H as fs/\fs.length<=n/\∀f∈fs,ZnL f
theorem Chn.same{κ:KX}{H H':Hp}{ca:Addr}{n:Nat}(h:Chn κ H ca n)(S:Same H H'):Chn κ H' ca n:=by
  obtain ⟨as,fs,h1,h2,h3⟩:=h.ex; exact ⟨as,fs,S _ _ h1,h2.same S,h3⟩
theorem RowsX.cons{κ:KX}{H:Hp}{as:List Addr}{fs:List (List κ.F)}{a:Addr}{xs:List V}{f:List κ.F}(h:RowsX κ H as fs)(ha:H a=some (.lst xs))(al:AllG (NR κ H) xs f):RowsX κ H (a::as) (f::fs):=by
  have:RowsX κ H ([a]++as) ([f]++fs):=RowsX.cat (RowsX.snoc (as:=[]) (R:=[]) .nil ha al) h
  exact this
noncomputable abbrev Km1(κ:KX):κ.F:=0-1
theorem Zgw{κ:KX}:NumV κ (-1) (Km1 κ):=by
  cases κ with
  | q =>
    show Rat.num (0-1:Rat) = -1/\Rat.den (0-1:Rat)=1
    have e:(0-1:Rat) = -1:=by grind
    rw[e]; exact ⟨rfl,rfl⟩
  | r p h=>exact ⟨by decide,by
      show ((Fin.val (Km1 (.r p h)):Nat):Int)=_
      have h2:=h.two
      have e:Fin.val (Km1 (.r p h))=(p-Fin.val (K1 (.r p h))+Fin.val (K0 (.r p h)))%p:=rfl
      rw[e,ZfH,Zc9,Nat.add_zero,Nat.mod_eq_of_lt (by omega)]
      have:(-1:Int)%p=(p:Int)-1:=by
        rw[<-Int.add_emod_right,Ww (by omega) (by omega)]; omega
      rw[this]; omega⟩
theorem Zde{κ:KX}(x:κ.F):Km1 κ*x=0-x:=by grind
theorem ZkO{κ:KX}:B1 κ (Km1 κ):=Zlm ((Zgv (κ:=κ)).b1 (by decide) (by decide) (by decide))
end My
namespace My
open PySem L2 PyProof.Rows
def ZmB(κ:KX)(f:List κ.F)(A:Int):Prop:=match κ with
  | .q=>0<A/\(∀x∈f,((Rat.den x:Nat):Int) ∣ A)/\∀B:Int,(∀x∈f,((Rat.den x:Nat):Int) ∣ B)->A ∣ B
  | .r _ _=>A=1
def DvB(κ:KX)(B:Int)(x:κ.F):Prop:=match κ with
  | .q=>((Rat.den x:Nat):Int) ∣ B
  | .r _ _=>True
def ZjN(P:Program)(w:World)(K:PySem.W.Frag)(mg:Str->Option Value)(base:Heap)(CF CR:Addr):Prop :=
  ∀(κ:KX) (H:Hp) (s:Addr),KdX CF CR κ H s->∃C dx fs ps dvs sp,H s=some (.ins C dx fs)/\Cls K C/\HasM P w K mg base C "common_bottom" 2 ps dvs sp/\fs.lookup ("common_bottom" : Str)=none/\dvs=[] ∧
    ∀(r:Addr) (xs:List V) (f:List κ.F) (B:Int) (Q:VK),H r=some (.lst xs)->AllG (NR κ H) xs f->0<B->Bits 4000 B->(∀x∈f,DvB κ B x)->(∀A:Int,ZmB κ f A->Q (.int A) H)->sp [.ref s,.ref r] H Q E0
def ZbK(K:PySem.W.Frag):Sp:=λvs H Q _=>∃(s r:Addr) (xs:List V) (f:List Rat) (B:Int),vs=[.ref s,.ref r]/\H r=some (.lst xs)/\AllG (NR .q H) xs f/\0<B/\Bits 4000 B/\(∀x∈f,((Rat.den x:Nat):Int) ∣ B)/\∀A:Int,ZmB .q f A->Q (.int A) H
def Zfc:Sp:=λvs H Q _=>∃(s r:Addr),vs=[.ref s,.ref r]/\Q (.int 1) H
theorem ZkP{b d:Int}(hb:0<b)(hd:0<d):0<b.fdiv (Int.gcd b d)*d/\b ∣ b.fdiv (Int.gcd b d)*d/\d ∣ b.fdiv (Int.gcd b d)*d/\∀B:Int,b ∣ B->d ∣ B->b.fdiv (Int.gcd b d)*d ∣ B:=by
  have hg:(Int.gcd b d:Int)≠0:=by have:=M3.gcd_ne (a:=b) (b:=d) (by omega); omega
  have gp:0<(Int.gcd b d:Int):=by omega
  obtain ⟨q,hq⟩:=Ws b d
  obtain ⟨e,he⟩:=W2 b d
  have eb:b.fdiv (Int.gcd b d)=q:=by
    rw[Int.fdiv_eq_ediv_of_nonneg _ (by omega)]
    conv=>lhs; lhs; rw[hq]
    exact Int.mul_ediv_cancel_left q hg
  have hq0:0<q:=by
    rcases Int.lt_or_le 0 q with c | c
    · exact c
    · have:(Int.gcd b d:Int)*q<=0:=Int.mul_nonpos_of_nonneg_of_nonpos (by omega) c
      omega
  rw[eb]
  have eq:q*d=b*e:=by
    calc q*d=q*((Int.gcd b d:Int)*e):=by rw[<-he]
      _=(Int.gcd b d:Int)*q*e:=by rw[<-Qn,Qj q]
      _=b*e:=by rw[<-hq]
  have cop:Int.gcd q e=1:=by
    have h1:=Int.gcd_mul_left (Int.gcd b d:Int) q e
    rw[<-hq,<-he,Qo] at h1
    have h2:0<Int.gcd b d:=by omega
    have h3:Int.gcd b d*1=Int.gcd b d*Int.gcd q e:=by rw[Nat.mul_one]; exact h1
    exact (Nat.eq_of_mul_eq_mul_left h2 h3).symm
  refine ⟨Qk hq0 hd,⟨e,eq⟩,⟨q,Qj _ _⟩,?_⟩
  rintro B ⟨s,hs⟩ ⟨t,ht⟩
  have h5:q*s=e*t:=by
    have:(Int.gcd b d:Int)*(q*s)=(Int.gcd b d:Int)*(e*t):=by
      rw[<-Qn,<-Qn,<-hq,<-he,<-hs,<-ht]
    exact Int.eq_of_mul_eq_mul_left hg this
  have h6:q ∣ t:=Zg7 (b:=e) ⟨s,h5.symm⟩ cop
  obtain ⟨z,hz⟩:=h6
  exact ⟨z,by rw[ht,hz,<-Qn,Qj d q]⟩
section
variable{κ:KX}
noncomputable def ZhV(f g:List κ.F):Nat->κ.F
  | 0=>0
  | k+1=>ZhV f g k+f.getD k 0*g.getD k 0
noncomputable def ZiV(f g:List κ.F):κ.F:=ZhV f g f.length
theorem ZjO{f g:List κ.F}{i:Nat}{x y:κ.F}(hx:f[i]?=some x)(hy:g[i]?=some y):ZhV f g (i+1)=ZhV f g i+x*y:=by
  show ZhV f g i+f.getD i 0*g.getD i 0=_
  rw[Q4,Q4,hx,hy]; rfl
end
theorem ZhW{x:Rat}{A:Int}(hA:0<A)(h:(x.den:Int) ∣ A):x=Rat.divInt (x.num*(A/x.den)) A:=by
  have hd:=(Zbd x).pos
  obtain ⟨c,rfl⟩:=h
  rw[Int.mul_ediv_cancel_left c (by omega)]
  have:Rat.divInt x.num x.den=Rat.divInt (x.num*c) (x.den*c):=by
    rw[Qt (by omega) (by omega)]
    rw[Qn,Qj c]
  rw[<-this,Qs]
theorem Zha{X Y D:Int}(hD:0<D):Rat.divInt X D+Rat.divInt Y D=Rat.divInt (X+Y) D:=by
  rw[Ut _ _ (by omega) (by omega),Qt (Wy (Qk hD hD)) (by omega),<-Int.add_mul,Qn]
def tS(f g:List Rat)(A C:Int):Nat->Int
  | 0=>0
  | k+1=>tS f g A C k+(f.getD k 0).num*(A/(f.getD k 0).den)*(g.getD k 0).num*(C/(g.getD k 0).den)
theorem Zlo{f g:List Rat}{A C:Int}(hA:0<A)(hC:0<C)(dA:∀x∈f,(x.den:Int) ∣ A)(dC:∀x∈g,(x.den:Int) ∣ C):∀k,k<=f.length->k<=g.length->Rat.divInt (tS f g A C k) (A*C)=ZhV (κ:=.q) f g k
  | 0,_,_=>Uw _
  | k+1,h1,h2=>by
    have a:f.getD k 0∈f:=by rw[Q4,Q5 (show k<f.length by omega)]; exact Wd _
    have b:g.getD k 0∈g:=by rw[Q4,Q5 (show k<g.length by omega)]; exact Wd _
    have ih:=Zlo hA hC dA dC k (by omega) (by omega)
    have e1:=ZhW hA (dA _ a)
    have e2:=ZhW hC (dC _ b)
    have e3:(f.getD k 0)*(g.getD k 0)=Rat.divInt ((f.getD k 0).num*(A/(f.getD k 0).den)*(g.getD k 0).num*(C/(g.getD k 0).den)) (A*C):=by
      conv=>lhs; rw[e1,e2]
      rw[Wj,<-Qn]
    show Rat.divInt (tS f g A C k+_) (A*C)=ZhV (κ:=.q) f g k+(f.getD k 0:Rat)*(g.getD k 0:Rat)
    rw[<-Zha (Qk hA hC),ih,e3]
def W60(f:List Rat):Prop:=∀x∈f,x.num.natAbs<=10^500/\x.den<=10^200
def Zcd:Sp:=λvs H Q _=>∃(s:Addr) (t b:Int),vs=[.ref s,.int t,.int b]/\0<b/\b.natAbs<=10^1000/\∀(r:Addr) (x y:Int),H r=none->Fc x y->x*b=t*y->Q (.ref r) (upd H r (.tup [.int x,.int y]))
def ZhX(CF:Addr):Sp:=λvs H Q _=>∃(s r1 r2:Addr) (xs ys:List V) (f g:List Rat) (B C:Int),vs=[.ref s,.ref r1,.ref r2]/\FrA CF H s/\H r1=some (.lst xs)/\H r2=some (.lst ys)/\AllG (NR .q H) xs f/\AllG (NR .q H) ys g/\f.length=g.length/\f.length<=100/\W60 f/\W60 g/\0<B/\B.natAbs<=10^200/\(∀x∈f,((Rat.den x:Nat):Int) ∣ B)/\0<C/\C.natAbs<=10^200/\(∀x∈g,((Rat.den x:Nat):Int) ∣ C)/\∀H' v,Same H H'->NR .q H' v (ZiV (κ:=.q) f g)->Q v H'
def ZhY(CR:Addr):Sp:=λvs H Q _=>∃(p:Nat) (hp:PrN p) (s r1 r2:Addr) (xs ys:List V) (f g:List (KX.r p hp).F),vs=[.ref s,.ref r1,.ref r2]/\ReA CR p H s/\H r1=some (.lst xs)/\H r2=some (.lst ys)/\AllG (NR (.r p hp) H) xs f/\AllG (NR (.r p hp) H) ys g/\f.length=g.length/\f.length<=100/\∀H' v,Same H H'->NR (.r p hp) H' v (ZiV f g)->Q v H'
def ZfM(P:Program)(w:World)(K:PySem.W.Frag)(mg:Str->Option Value)(base:Heap)(CF CR:Addr):Prop :=
  ∀(κ:KX) (H:Hp) (s:Addr),KdX CF CR κ H s->∃C dx fs ps dvs sp,H s=some (.ins C dx fs)/\Cls K C/\HasM P w K mg base C "sum_of_products" 3 ps dvs sp/\fs.lookup ("sum_of_products" : Str)=none/\dvs=[] ∧
    ∀(H':Hp) (r1 r2:Addr) (xs ys:List V) (f g:List κ.F) (D E M N:Nat) (Q:VK),Same H H'->H' r1=some (.lst xs)->H' r2=some (.lst ys)->AllG (NR κ H') xs f->AllG (NR κ H') ys g->f.length=g.length->f.length<=100->(∀x∈f,QN κ (D:Int) M x)->(∀x∈g,QN κ (E:Int) N x)->0<D->D<=10^200->0<E->E<=10^200->M<=10^500->N<=10^500->(∀H'' v,Same H' H''->NR κ H'' v (ZiV f g)->Q v H'')->sp [.ref s,.ref r1,.ref r2] H' Q E0
theorem Zlp{D M:Nat}(hD:0<D)(lD:D<=10^200)(lM:M<=10^500){f:List Rat}(h:∀x∈f,QN .q (D:Int) M x):W60 f/\∀x∈f,((Rat.den x:Nat):Int) ∣ (D:Int):=by
  refine ⟨λx hx=>?_,λx hx=>?_⟩
  · obtain ⟨X,e,hX⟩:=h x hx
    have e:x=Rat.divInt X D:=e
    obtain ⟨d1,d2⟩:=Zcr X (show (0:Int)<(D:Int) by omega)
    rw[<-e] at d1 d2
    refine ⟨?_,?_⟩
    · by_cases z:X=0
      · have:=ZfF X (show (0:Int)<(D:Int) by omega) z
        rw[<-e] at this
        rw[this]; exact Qb _
      · exact Q0 (ZaW d2 z) (Q0 hX lM)
    · have:=ZaW d1 (show (D:Int)≠0 by omega)
      rw[Qo,Qo] at this
      omega
  · obtain ⟨X,e,hX⟩:=h x hx
    have e:x=Rat.divInt X D:=e
    rw[e]
    exact (Zcr X (show (0:Int)<(D:Int) by omega)).1
theorem Zdf{n i:Nat}(h:n<=10^i)(hi:i<=1000:=by decide):n<=10^1000:=Q0 h (Ql (by decide) hi)
theorem ZcD{n i:Nat}(h:n<=10^i)(hi:i<=2000:=by decide):n<=10^2000:=Q0 h (Ql (by decide) hi)
theorem Zlq:10^2000<2^8000:=by decide +kernel
theorem ZmC{i j:Int}(h:i.natAbs<=10^2000)(h':j.natAbs<=10^2000):IntMulOk i j :=
  .of_bits (Q0 (ZcP (n:=8000) (Q9 h Zlq)) (by decide)) (Q0 (ZcP (n:=8000) (Q9 h' Zlq)) (by decide))
theorem ZoP{a b:Int}{i j:Nat}(ha:a.natAbs<=10^i)(hb:b.natAbs<=10^j):(a*b).natAbs<=10^(i+j):=by
  rw[Qf,Wt]; exact W1 ha hb
theorem Zlr{A b:Int}:(A/b).natAbs<=A.natAbs:=Int.natAbs_ediv_le_natAbs A b
end My
namespace My
open PySem L2 PyProof.Rows
section
variable{P:Program}{w:World}{K:PySem.W.Frag}{mg:Str->Option Value}{base:Heap}{CF CR:Addr}
theorem sc_Fractions_common_bottom:FnScope ["self", "some", "bottom", "one"] ["self", "some"] (Zah ZaK):=⟨rfl,rfl,rfl,by decide +kernel,rfl,by decide +kernel,by decide +kernel⟩
theorem Zhb(h:HereM K CF "common_bottom" "Fractions.common_bottom" ZaK) (h_divisor:Has P w K mg base "divisor" 1 ["one", "other"] ZaV):HasM P w K mg base CF "common_bottom" 2 ["self", "some"] [] (ZbK K):=by
  refine h.hasM (λf fd F=>F.binds λ_ _ _ _ _ _ us hl=>by obtain ⟨_,_,rfl⟩:=Zdm hl; exact rfl) λf fd F=>F.ok sc_Fractions_common_bottom (λvs H Q E h=>?_) (λcdv A outer s H vs Q E hr h=>?_)
  · obtain ⟨_,_,_,_,_,rfl,_⟩:=h
    rfl
  obtain ⟨sf,r,xs,f,B,rfl,hr1,al,hB,bB,dvB,k⟩:=h
  have nd:=sc_Fractions_common_bottom.nd
  refine ⟨_,(Zac (Zal (i:=2) nd rfl (Or.inl rfl) Zad)
    (Zac (ZaQ PassesOwn.never rfl (ZaC (pv 1)) (Zap (i:=3) nd rfl (Or.inl rfl)) (Zae (ZaD (Zaq Zin (Zai ZaN (pv 2) (Zao Zat (pv 3) Zad (λ_ _=>rfl))) Zad (Zaw _)) (Zae (Zal (i:=2) nd rfl (Or.inl rfl) (Zai Zay (Zai ZbI (pv 2) (Zak h_divisor hr (by rfl) (Zaa (pv 2) (Zaa (Zao Zat (pv 3) Zad (λ_ _=>rfl)) Zab)))) (Zao Zat (pv 3) Zad (λ_ _=>rfl))))) Zar)))
    (Zae (Zan (pv 2))))),?_⟩
  have la:=al.1
  refine ⟨_,rfl,r,rfl,⟨_,SqL.of hr1⟩,?_⟩
  refine Zbf (xs:=xs) (λi σ H2=>∃(A:Int) (z:Option V),σ=[some (.ref sf),some (.ref r),some (.int A),z]/\H2=H/\ZmB .q (f.take i) A) ⟨1,none,rfl,rfl,by decide,λx hx=>by simp at hx,λB _=>Int.one_dvd _⟩ ?_ ?_ ?_
  · rintro i σ H2-⟨A,z,rfl,rfl,-⟩
    exact SqL.of hr1
  · rintro i v σ H2 hv ⟨A,z,rfl,rfl,hA,dv,mn⟩
    obtain ⟨x,hx,a,rfl,ha⟩:=al.get hv
    have hd:=(Zbd x).pos
    have mx:=Qe hx
    have hAB:A ∣ B:=mn B λy hy=>dvB y (We hy)
    have bA:Bits 4000 A:=bB.le (ZaW hAB (by omega))
    have bd:Bits 4000 (Rat.den x:Int):=bB.le (ZaW (dvB x mx) (by omega))
    have tk:f.take (i+1)=f.take i++[x]:=by rw[W9,hx]; rfl
    refine ⟨_,rfl,_,rfl,a,_,1,_,rfl,rfl,SqT.of ha,rfl,_,_,rfl,rfl,(show (Rat.den x:Int)≠0 by omega),rfl,_,rfl,?_⟩
    refine Ze1 (λz1=>?_) (λz1=>?_)
    · obtain ⟨p1,d1,d2,lm⟩:=ZkP hA hd
      have g0:(Int.gcd A (Rat.den x:Int):Int)≠0:=by have:=M3.gcd_ne (a:=A) (b:=(Rat.den x:Int)) (by omega); omega
      have gb:Bits 4000 (Int.gcd A (Rat.den x:Int):Int):=bA.le (ZaW (Ws A (Rat.den x:Int)) (by omega))
      have fb:=M3.fdiv_le (Ws A (Rat.den x:Int)) g0
      refine ⟨_,rfl,_,rfl,_,rfl,a,_,1,_,rfl,rfl,SqT.of ha,rfl,A,_,rfl,_,_,rfl,rfl,⟨g0,gb⟩,_,rfl,a,_,1,_,rfl,rfl,SqT.of ha,rfl,_,_,rfl,rfl,Bits.mulG ((bA.le fb).up (by decide)) bd,?_⟩
      refine ⟨_,_,rfl,rfl,p1,λy hy=>?_,λB' hB'=>?_⟩
      · rw[tk] at hy
        rcases Qq.mp hy with q | q
        · exact Ue (dv y q) d1
        · rw[Q3.mp q]; exact d2
      · rw[tk] at hB'
        exact lm B' (mn B' λy hy=>hB' y (Qq.mpr (.inl hy))) (hB' x (Qq.mpr (.inr (Q3.mpr rfl))))
    · refine ⟨A,_,rfl,rfl,hA,λy hy=>?_,λB' hB'=>?_⟩
      · rw[tk] at hy
        rcases Qq.mp hy with q | q
        · exact dv y q
        · rw[Q3.mp q]
          have z2:A.fmod (Rat.den x:Int)=0:=z1
          rw[Qz _ (by omega)] at z2
          exact Int.dvd_of_emod_eq_zero z2
      · rw[tk] at hB'
        exact mn B' λy hy=>hB' y (Qq.mpr (.inl hy))
  · rintro σ H2 ⟨A,z,rfl,rfl,hA⟩
    rw[la,Wa] at hA
    exact ⟨_,rfl,k A hA⟩
theorem Zct:FnScope ["self", "some"] ["self", "some"] (Zah Za4):=⟨rfl,rfl,rfl,by decide +kernel,rfl,by decide +kernel,by decide +kernel⟩
theorem ZiM(h:HereM K CR "common_bottom" "Kind.common_bottom" Za4):HasM P w K mg base CR "common_bottom" 1 ["self", "some"] [] Zfc:=by
  refine h.hasM (λf fd F=>F.binds λ_ _ _ _ _ _ us hl=>by obtain ⟨_,_,rfl⟩:=Zdm hl; exact rfl) λf fd F=>F.ok Zct (λvs H Q E h=>?_) (λcdv A outer s H vs Q E hr h=>?_)
  · obtain ⟨_,_,rfl,_⟩:=h
    rfl
  obtain ⟨sf,r,rfl,k⟩:=h
  exact ⟨_,(Zae (Zan Zad)),k⟩
theorem Zhc(kd:Kd K mg CF CR)(hF:HasM P w K mg base CF "common_bottom" 2 ["self", "some"] [] (ZbK K)) (hR:HasM P w K mg base CR "common_bottom" 2 ["self", "some"] [] Zfc):ZjN P w K mg base CF CR:=by
  intro κ H s hk
  cases κ with
  | q =>
    obtain ⟨dx,h⟩:=hk
    exact ⟨CF,dx,[],_,_,_,h,kd.clF,hF,rfl,rfl,λr xs f B Q hr al hB bB dv k=>⟨s,r,xs,f,B,rfl,hr,al,hB,bB,dv,k⟩⟩
  | r p hp =>
    obtain ⟨dx,h⟩:=hk
    exact ⟨CR,dx,fsR p,_,_,_,h,kd.clR,hR,Ze7 _ (by decide),rfl,λr xs f B Q hr al hB bB dv k=>⟨s,r,rfl,k 1 rfl⟩⟩
end
section
variable{P:Program}{w:World}{K:PySem.W.Frag}{mg:Str->Option Value}{base:Heap}{CF CR cN:Addr}
theorem Zhd{tk:Tok}(h:HereD K CF "number" "Fractions.number" ZaJ #[.int 1 tk]) (c:ExcC K mg "NoNumber" cN) (h_divisor:Has P w K mg base "divisor" 1 ["one", "other"] ZaV):HasMX P w K mg base CF "number" 2 ["self", "top", "bottom"] [] Zcd:=by
  refine h.hasMX (ds:=[]) .nil (λf fd T F=>F.binds λ_ _ _ _ _ _ us hl=>by obtain ⟨_,_,_,rfl⟩:=Zed (show us.length=3 by simpa using hl); exact ⟨_,rfl,rfl⟩) λf fd T F=>?_
  refine F.okx sc_Fractions_number (λvs H Q E h=>?_) (λcdv A outer s H vs Q E hr h=>?_)
  · obtain ⟨_,_,_,rfl,_⟩:=h
    rfl
  obtain ⟨sf,t,b,rfl,hb,lb,k⟩:=h
  have nd:=sc_Fractions_number.nd
  refine ⟨_,(Zac (ZaD (Zaq Zbz (pv 2) Zad (Zaw _)) (Zae (ZdQ c ZhK rfl (by rfl) (Zaa ZhA Zab))) Zar)
    (Zac (Zal (i:=3) nd rfl (Or.inl rfl) (Zak h_divisor hr (by rfl) (Zaa (pv 1) (Zaa (pv 2) Zab))))
    (Zac (ZaD (Zaq Zio (pv 2) Zad (Zaw _)) (Zae (Zal (i:=3) nd rfl (Or.inl rfl) (ZeJ ZcI (pv 3)))) Zar)
    (Zae (Zan (Zbh (Zaa (Zai ZdR (pv 1) (pv 3)) (Zaa (Zai ZdR (pv 2) (pv 3)) Zab)))))))),?_⟩
  refine ⟨_,rfl,rfl,_,rfl,?_⟩
  refine Zbn (λz=>absurd z (by omega)) (λ_=>?_)
  refine ⟨_,rfl,_,rfl,t,b,rfl,?_⟩
  refine ⟨_,rfl,_,_,rfl,rfl,_,rfl,?_⟩
  refine Zbm (λhn=>absurd hn (by omega)) (λhn=>?_)
  have hg:=M3.gcd_ne (a:=t) (b:=b) (by omega)
  have gl:Int.gcd t b<=b.natAbs:=U1 (by omega) (Wk.mpr (W2 t b))
  have hg1:(Int.gcd t b:Int)≠0/\((Int.gcd t b:Int)).natAbs<=10^1000:=⟨by omega,Q0 (show _<=b.natAbs from gl) lb⟩
  obtain ⟨l1,l2,l3,l4,l5⟩:=M3.low (t:=t) hb
  refine ⟨_,rfl,_,rfl,_,_,rfl,rfl,hg1,_,rfl,_,rfl,_,_,rfl,rfl,hg1,(by show 2<=sizeLine; decide),λr hr'=>?_⟩
  exact k r _ _ hr' ⟨l2,l1⟩ l3
end
section
variable{P:Program}{w:World}{K:PySem.W.Frag}{mg:Str->Option Value}{base:Heap}{CF CR cN:Addr}
theorem sc_Fractions_sum_of_products:FnScope ["self", "some", "others", "ahead", "behind", "total", "one", "other"] ["self", "some", "others"] (Zah ZaH):=⟨rfl,rfl,rfl,by decide +kernel,rfl,by decide +kernel,by decide +kernel⟩
theorem ZkQ(h:HereM K CF "sum_of_products" "Fractions.sum_of_products" ZaH) (cl:Cls K CF) (Tz:mg "zip" = none) (hB:HasM P w K mg base CF "common_bottom" 2 ["self", "some"] [] (ZbK K)) (hN:HasMX P w K mg base CF "number" 2 ["self", "top", "bottom"] [] Zcd):HasM P w K mg base CF "sum_of_products" 3 ["self", "some", "others"] [] (ZhX CF):=by
  refine h.hasM (λf fd F=>F.binds λ_ _ _ _ _ _ us hl=>by obtain ⟨_,_,_,rfl⟩:=Zed hl; exact rfl) λf fd F=>F.ok sc_Fractions_sum_of_products (λvs H Q E h=>?_) (λcdv A outer s H vs Q E hr h=>?_)
  · obtain ⟨_,_,_,_,_,_,_,_,_,rfl,_⟩:=h
    rfl
  obtain ⟨sf,r1,r2,xs,ys,f1,f2,B1',C1',rfl,⟨dx,hs⟩,h1,h2,al1,al2,lfg,l100,w1,w2,b0,bl,bd,c0,cl',cd,k⟩:=h
  have nd:=sc_Fractions_sum_of_products.nd
  refine ⟨_,(Zac (Zal (i:=3) nd rfl (Or.inl rfl) (Zbw (pv 0) hr (Zaa (pv 1) Zab)))
    (Zac (Zal (i:=4) nd rfl (Or.inl rfl) (Zbw (pv 0) hr (Zaa (pv 2) Zab)))
    (Zac (Zal (i:=5) nd rfl (Or.inl rfl) Zad)
    (Zac (ZaQ PassesOwn.never rfl (Zlj (by rfl) Tz (Zaa (pv 1) (Zaa (pv 2) Zab))) (Zlc rfl (ZdO (Zap (i:=6) nd rfl (Or.inl rfl)) (ZdO (Zap (i:=7) nd rfl (Or.inl rfl)) ZiY))) (Zae (ZiZ (i:=5) nd rfl (Or.inl rfl) (Zai Zay (Zai Zay (Zai Zay (Zao Zat (pv 6) Zad (λ_ _=>rfl)) (Zai ZdR (pv 3) (Zao Zat (pv 6) Zad (λ_ _=>rfl)))) (Zao Zat (pv 7) Zad (λ_ _=>rfl))) (Zai ZdR (pv 4) (Zao Zat (pv 7) Zad (λ_ _=>rfl)))) Zld)))
    (Zae (Zan (Zb6 (pv 0) Zfo hr (Zaa (pv 5) (Zaa (Zai Zay (pv 3) (pv 4)) Zab))))))))),?_⟩
  have lx:=al1.1
  have ly:=al2.1
  have bitsB:∀ {Z:Int},Z.natAbs<=10^200->Bits 4000 Z:=fun {Z} hz=>Bits.of (Q9 hz (Q6 (show 10^200<2^1000 by decide) (Ql (by decide) (by decide))))
  refine ⟨_,rfl,sf,CF,dx,[],_,_,ZbK K,rfl,hs,cl,hB,rfl,_,rfl,sf,r1,xs,f1,B1',rfl,h1,al1,b0,bitsB bl,bd,λA ⟨hA,dA,mA⟩=>?_⟩
  refine ⟨_,rfl,sf,CF,dx,[],_,_,ZbK K,rfl,hs,cl,hB,rfl,_,rfl,sf,r2,ys,f2,C1',rfl,h2,al2,c0,bitsB cl',cd,λC ⟨hC,dC,mC⟩=>?_⟩
  have lA:A.natAbs<=10^200:=Q0 (ZaW (mA _ bd) (by omega)) bl
  have lC:C.natAbs<=10^200:=Q0 (ZaW (mC _ cd) (by omega)) cl'
  refine ⟨_,rfl,_,rfl,r1,r2,rfl,⟨_,SqL.of h1⟩,⟨_,SqL.of h2⟩,?_⟩
  refine Zmi (xs:=xs) (ys:=ys) (λi σ H2=>∃z6 z7:Option V,σ=[some (.ref sf),some (.ref r1),some (.ref r2),some (.int A),some (.int C),some (.int (tS f1 f2 A C i)),z6,z7]/\Same H H2) ⟨none,none,rfl,Same.refl H⟩ ?_ ?_ ?_
  · rintro i σ H2 ⟨z6,z7,rfl,S⟩
    exact ⟨SqL.of (S _ _ h1),SqL.of (S _ _ h2)⟩
  · rintro i u v Tp σ H2 hx hy nT ⟨z6,z7,rfl,S⟩
    obtain ⟨x,hx',t,rfl,ht⟩:=al1.get hx
    obtain ⟨y,hy',t',rfl,ht'⟩:=al2.get hy
    have ex:f1.getD i 0=x:=by rw[Q4,hx']; rfl
    have ey:f2.getD i 0=y:=by rw[Q4,hy']; rfl
    have hb:=(Zbd x).pos
    have hd:=(Zbd y).pos
    obtain ⟨la,lb⟩:=w1 x (Qe hx')
    obtain ⟨lc,ld⟩:=w2 y (Qe hy')
    have ST:=Zag nT (.tup [.ref t,.ref t'])
    refine ⟨Tp,_,rfl,SqT.of Zaf,rfl,_,_,rfl,_,_,rfl,rfl,?_⟩
    generalize upd H2 Tp (.tup [.ref t,.ref t'])=H3 at *
    have S3:=S.trans ST
    have qt:=SqT.of (K:=K) (S3 _ _ ht)
    have qu:=SqT.of (K:=K) (S3 _ _ ht')
    have eA:A.fdiv (x.den:Int)=A/x.den:=Int.fdiv_eq_ediv_of_nonneg _ (by omega)
    have eC:C.fdiv (y.den:Int)=C/y.den:=Int.fdiv_eq_ediv_of_nonneg _ (by omega)
    have lA':(A.fdiv (x.den:Int)).natAbs<=10^200:=by rw[eA]; exact Q0 Zlr lA
    have lC':(C.fdiv (y.den:Int)).natAbs<=10^200:=by rw[eC]; exact Q0 Zlr lC
    have m1:=ZoP la lA'
    have m2:=ZoP m1 lc
    refine ⟨_,rfl,_,rfl,t,_,_,_,rfl,rfl,qt,rfl,_,rfl,_,rfl,t,_,_,_,rfl,rfl,qt,rfl,_,_,rfl,rfl,⟨(show (x.den:Int)≠0 by omega),Zdf (by rw[Qo]; exact lb)⟩,_,_,rfl,rfl,ZmC (ZcD la) (ZcD lA'),_,rfl,t',_,_,_,rfl,rfl,qu,rfl,_,_,rfl,rfl,ZmC (ZcD m1) (ZcD lc),_,rfl,_,rfl,t',_,_,_,rfl,rfl,qu,rfl,_,_,rfl,rfl,⟨(show (y.den:Int)≠0 by omega),Zdf (by rw[Qo]; exact ld)⟩,_,_,rfl,rfl,ZmC (ZcD m2) (ZcD lC'),_,_,rfl,rfl,?_⟩
    refine ⟨some (.ref t),some (.ref t'),?_,S3⟩
    have e:tS f1 f2 A C (i+1)=tS f1 f2 A C i+x.num*(A.fdiv (x.den:Int))*y.num*(C.fdiv (y.den:Int)):=by
      show tS f1 f2 A C i+_=_
      rw[ex,ey,eA,eC]
    rw[e]
    rfl
  · rintro i σ H2 hi ⟨z6,z7,rfl,S⟩
    have hi:i=f1.length:=by omega
    subst hi
    have hAC:0<A*C:=Qk hA hC
    refine ⟨_,rfl,sf,CF,dx,[],_,_,Zcd,rfl,S _ _ hs,cl,hN,rfl,_,rfl,_,rfl,_,rfl,_,_,rfl,rfl,Zpe (Zdf lA) (Zdf lC),sf,_,_,rfl,hAC,Zdf (ZoP lA lC),λr x y nr fc e=>?_⟩
    obtain ⟨q,q1,q2⟩:=ZhS fc
    have y0:=fc.pos
    have eq:q=ZiV (κ:=.q) f1 f2:=by
      have t:=Zlo hA hC dA dC f1.length (Q2 _) (by omega)
      have:q=Rat.divInt (tS f1 f2 A C f1.length) (A*C):=by
        rw[<-Qs q,q1,q2,Qt (by omega) (by omega)]
        exact e
      exact this.trans t
    refine k _ _ (S.trans (Zag nr _)) ⟨r,rfl,?_⟩
    rw[Zaf,<-eq]
    show some (HO.tup [V.int x,V.int y])=some (HO.tup [V.int (Rat.num q),V.int ((Rat.den q:Nat):Int)])
    rw[q1,q2]
theorem ZbX:FnScope ["self", "some", "others"] ["self", "some", "others"] (Zah ZaS):=⟨rfl,rfl,rfl,by decide +kernel,rfl,by decide +kernel,by decide +kernel⟩
theorem ZkR(h:HereM K CR "sum_of_products" "Rests.sum_of_products" ZaS) (cl:Cls K CR) (nP:NoAttr K CR "prime") (Tz:mg "zip" = none) (Ts:mg "sum" = none):HasM P w K mg base CR "sum_of_products" 3 ["self", "some", "others"] [] (ZhY CR):=by
  refine h.hasM (λf fd F=>F.binds λ_ _ _ _ _ _ us hl=>by obtain ⟨_,_,_,rfl⟩:=Zed hl; exact rfl) λf fd F=>F.ok ZbX (λvs H Q E h=>?_) (λcdv A outer s H vs Q E hr h=>?_)
  · obtain ⟨_,_,_,_,_,_,_,_,_,rfl,_⟩:=h
    rfl
  obtain ⟨p,hp,sr,r1,r2,xs,ys,f1,f2,rfl,⟨dx,hs⟩,h1,h2,al1,al2,lfg,l100,k⟩:=h
  refine ⟨_,(Zae (Zan (Zai ZaN (Zaj (ZhM rfl) (by rfl) Ts boot_sum (Zaa (Zbj ["one", "other"] [] rfl (Zlj (by rfl) Tz (Zaa (pv 1) (Zaa (pv 2) Zab))) (by exact λ_ _ _ _=>(Zmj (n:=2) K rfl rfl (ZdO (Zap (i:=0) (show (["one", "other"]:List Str).Nodup by decide +kernel) rfl (Or.inl rfl)) (ZdO (Zap (i:=1) (show (["one", "other"]:List Str).Nodup by decide +kernel) rfl (Or.inl rfl)) ZiY)))) (by exact λ_ _ _ _=>(Zai Zay (pv 0) (pv 1))) trivial) Zab)) (Ze0 (pv 0) rfl)))),?_⟩
  have lx:=al1.1
  have ly:=al2.1
  have h2':=hp.two
  refine ⟨_,rfl,_,rfl,r1,r2,rfl,⟨_,SqL.of h1⟩,⟨_,SqL.of h2⟩,?_⟩
  refine Zjx (K:=K) (a:=r1) (b:=r2) (xs:=xs) (ys:=ys) (λi zs H2=>Same H H2/\∃ms:List Int,zs=ms.map V.int/\(ms.sum%p:Int)=((Fin.val (ZhV f1 f2 i:Fin p):Nat):Int)) (by omega) ⟨Same.refl H,[],rfl,?_⟩ (λi zs H2 q=>⟨SqL.of (q.1 _ _ h1),SqL.of (q.1 _ _ h2)⟩) ?_ ?_
  · show (0:Int)%p=((Fin.val (K0 (.r p hp)):Nat):Int)
    rw[Zc9]; simp
  · rintro i u v Tp zs H2 hx hy hl nT ⟨S,ms,rfl,es⟩
    obtain ⟨x,hx',e1⟩:=al1.get hx
    obtain ⟨y,hy',e2⟩:=al2.get hy
    have e1:u = .int (Fin.val (x:Fin p)):=e1
    have e2:v = .int (Fin.val (y:Fin p)):=e2
    subst e1 e2
    have ST:=Zag nT (.tup [.int (Fin.val (x:Fin p)),.int (Fin.val (y:Fin p))])
    generalize upd H2 Tp (.tup [.int (Fin.val (x:Fin p)),.int (Fin.val (y:Fin p))])=H3 at *
    refine ⟨_,rfl,_,rfl,_,_,rfl,rfl,ZaO (Zbe hp x) (Zbe hp y),S.trans ST,ms++[(Fin.val (x:Fin p):Int)*Fin.val (y:Fin p)],by simp,?_⟩
    have ed:(ZhV f1 f2 (i+1):Fin p)=(ZhV f1 f2 i:Fin p)+(x:Fin p)*(y:Fin p):=ZjO hx' hy'
    rw[ed,Fin.val_add,Fin.val_mul,List.sum_append]
    simp only[List.sum_cons,List.sum_nil,Int.add_zero]
    rw[Int.add_emod,es,Wr,Int.natCast_add,Wr,U0,Int.add_emod (Fin.val (ZhV f1 f2 i:Fin p):Int)]
    first | done | simp
  · rintro zs H2 hl ⟨S,ms,rfl,es⟩ D hD
    have S4:=S.trans (Zag hD (.lst (ms.map V.int)))
    refine ⟨D,_,rfl,SqL.of Zaf,?_⟩
    refine ⟨_,rfl,sr,CR,dx,_,_,rfl,S4 _ _ hs,cl,nP,ZbV p,_,_,rfl,rfl,(show (p:Int)≠0 by omega),?_⟩
    show Q (V.int (ms.sum.fmod p)) _
    refine k _ _ S4 ?_
    show V.int (ms.sum.fmod p)=V.int ((Fin.val (ZhV f1 f2 f1.length:Fin p):Nat):Int)
    rw[Qz _ (by omega),es]
    congr 4
    omega
theorem ZkS(kd:Kd K mg CF CR)(hF:HasM P w K mg base CF "sum_of_products" 3 ["self", "some", "others"] [] (ZhX CF)) (hR:HasM P w K mg base CR "sum_of_products" 3 ["self", "some", "others"] [] (ZhY CR)):ZfM P w K mg base CF CR:=by
  intro κ H s hk
  cases κ with
  | q =>
    obtain ⟨dx,h⟩:=hk
    refine ⟨CF,dx,[],_,_,_,h,kd.clF,hF,rfl,rfl,λH' r1 r2 xs ys f g D E M N Q S h1 h2 a1 a2 lfg l100 qf qg d0 dl e0 el ml nl k=>?_⟩
    obtain ⟨w1,v1⟩:=Zlp d0 dl ml qf
    obtain ⟨w2,v2⟩:=Zlp e0 el nl qg
    exact ⟨s,r1,r2,xs,ys,f,g,(D:Int),(E:Int),rfl,⟨dx,S _ _ h⟩,h1,h2,a1,a2,lfg,l100,w1,w2,by omega,by rw[Qo]; exact dl,v1,by omega,by rw[Qo]; exact el,v2,k⟩
  | r p hp =>
    obtain ⟨dx,h⟩:=hk
    exact ⟨CR,dx,fsR p,_,_,_,h,kd.clR,hR,Ze7 _ (by decide),rfl,λH' r1 r2 xs ys f g D E M N Q S h1 h2 a1 a2 lfg l100 qf qg d0 dl e0 el ml nl k=>⟨p,hp,s,r1,r2,xs,ys,f,g,rfl,⟨dx,S _ _ h⟩,h1,h2,a1,a2,lfg,l100,k⟩⟩
end
end My
namespace My
open PySem L2 PyProof.Rows
section
variable{κ:KX}
noncomputable def ZpR(κ:KX)(n i:Nat):List κ.F:=(List.range n).map λj=>if i=j then 1 else 0
noncomputable def ZnM(κ:KX)(n:Nat):List (List κ.F):=(List.range n).map (ZpR κ n)
noncomputable def ZpS(B:List (List κ.F))(j:Nat):List κ.F:=B.map λr=>r.getD j 0
noncomputable def ZoQ(B:List (List κ.F))(m:Nat):List (List κ.F):=(List.range m).map (ZpS B)
noncomputable def mulT(A B:List (List κ.F))(m:Nat):List (List κ.F):=A.map λr=>(ZoQ B m).map λc=>ZiV c r
noncomputable def Zgx(c:κ.F)(A:List (List κ.F)):List (List κ.F):=A.map λr=>r.map (c * ·)
noncomputable def ZpT(A B:List (List κ.F)):List (List κ.F):=List.zipWith (λf g=>List.zipWith (· + ·) f g) A B
theorem ZfN(c:κ.F)(A:List (List κ.F)):(Zgx c A).length=A.length:=by unfold Zgx; simp
theorem ZkT{m:Nat}{A:List (List κ.F)}(h:Wid m A)(c:κ.F):Wid m (Zgx c A):=λf hf=>by
  unfold Zgx at hf
  obtain ⟨r,hr,rfl⟩:=W4.mp hf
  rw[Q1]; exact h r hr
end
structure TabL (κ:KX) (H:Hp) (a:Addr) (rs:List Addr) (R:List (List κ.F)) (m:Nat):Prop where
  l:H a=some (.lst (rs.map V.ref))
  r:RowsX κ H rs R
  w:Wid m R
  n1:1<=R.length
  n9:R.length<=100
  m9:m<=100
theorem TabL.same{κ:KX}{H H':Hp}{a:Addr}{rs:List Addr}{R:List (List κ.F)}{m:Nat}(h:TabL κ H a rs R m)(S:Same H H'):TabL κ H' a rs R m:=⟨S _ _ h.l,h.r.same S,h.w,h.n1,h.n9,h.m9⟩
theorem TabL.fst{κ:KX}{H:Hp}{a:Addr}{rs:List Addr}{R:List (List κ.F)}{m:Nat}(h:TabL κ H a rs R m):∃a0 xs f,rs[0]?=some a0/\R[0]?=some f/\H a0=some (.lst xs)/\AllG (NR κ H) xs f/\xs.length=m:=by
  have n1:=h.n1
  have hf:R[0]?=some R[0]:=Q5 (by omega)
  obtain ⟨a0,ha⟩:=ZaG hf h.r.1.symm
  obtain ⟨xs,hx,al⟩:=h.r.2 0 a0 _ ha hf
  exact ⟨a0,xs,_,ha,hf,hx,al,by rw[al.1]; exact h.w _ (Wd _)⟩
def Zdg:Sp:=λvs H Q _=>∃(κ:KX) (a:Addr) (rs:List Addr) (R:List (List κ.F)) (m:Nat),vs=[.ref a]/\TabL κ H a rs R m/\Q (.bl (decide (R.length=m))) H
def Zcu(cF:Addr):Sp:=λvs H Q E=>∃(κ:KX) (a:Addr) (rs:List Addr) (R:List (List κ.F)) (m:Nat),vs=[.ref a]/\TabL κ H a rs R m/\(R.length=m->Q .non H)/\(R.length≠m->E (.ref cF) none H)
def Zfd(CF CR:Addr):Sp:=λvs H Q _=>∃(κ:KX) (s a:Addr) (cv:V) (c:κ.F) (rs:List Addr) (R:List (List κ.F)) (m:Nat),vs=[.ref s,cv,.ref a]/\KdX CF CR κ H s/\NR κ H cv c/\B1 κ c/\TabL κ H a rs R m/\AllR (B1 κ) R/\∀(H':Hp) (D:Addr) (rs':List Addr),Same H H'->TabL κ H' D rs' (Zgx c R) m->(∀a∈rs',H a=none)->H D=none->Q (.ref D) H'
def Zch(CF CR:Addr):Sp:=λvs H Q _=>∃(κ:KX) (s a:Addr) (rs:List Addr) (R:List (List κ.F)) (m:Nat) (D M:Nat),vs=[.ref s,.ref a]/\KdX CF CR κ H s/\TabL κ H a rs R m/\AllR (QN κ (D:Int) M) R/\0<D/\D<=10^100/\M<=10^500/\∀(H':Hp) (tp D':Addr) (rs':List Addr) (A:Int) (x:κ.F),Same H H'->H' tp=some (.tup [.ref D',.int A])->ZmB κ R.flatten A->NumV κ A x->TabL κ H' D' rs' (Zgx x R) m->Q (.ref tp) H'
theorem ZnN{κ:KX}{D M:Nat}(hD:0<D){x:κ.F}(h:QN κ (D:Int) M x):DvB κ (D:Int) x:=by
  cases κ with
  | r p hp=>exact trivial
  | q =>
    obtain ⟨X,e,_⟩:=h
    show ((Rat.den x:Nat):Int) ∣ D
    have e:x=Rat.divInt X D:=e
    rw[e]
    exact (Zcr X (show (0:Int)<(D:Int) by omega)).1
theorem Zls{κ:KX}{D M:Nat}(hD:0<D)(lD:D<=10^200)(lM:M<=10^500){x:κ.F}(h:QN κ (D:Int) M x):B1 κ x:=by
  have l:(10:Nat)^500<2^3000:=Q6 (show 10^500<2^2000 by decide) (Ql (by decide) (by decide))
  have l2:(10:Nat)^200<2^3000:=Q6 (show 10^200<2^1000 by decide) (Ql (by decide) (by decide))
  exact h.b1 (by omega) (by rw[Qo]; omega) (by omega)
theorem ZjP{κ:KX}{D M:Nat}(hD:0<D){f:List κ.F}{A:Int}(h:∀x∈f,QN κ (D:Int) M x)(b:ZmB κ f A):0<A/\A.natAbs<=D:=by
  cases κ with
  | r p hp =>
    have b:A=1:=b
    subst b
    exact ⟨by decide,hD⟩
  | q =>
    obtain ⟨b0,b1,b2⟩:=b
    refine ⟨b0,?_⟩
    have:=ZaW (b2 (D:Int) λx hx=>ZnN (κ:=.q) hD (h x hx)) (by omega)
    rw[Qo] at this
    exact this
theorem ZmD{κ:KX}{A:Int}(h:A.natAbs<=10^140):∃x:κ.F,NumV κ A x:=by
  cases κ with
  | q=>obtain ⟨x,h1,h2⟩:=ZhS (n:=A) (d:=1) ⟨by decide,by rw[Int.gcd_one]⟩; exact ⟨x,h1,by omega⟩
  | r p hp =>
    have h2:=hp.two
    have a:=Wv A (show (p:Int)≠0 by omega)
    have b:=Wz A (show 0<(p:Int) by omega)
    exact ⟨(⟨(A%p).toNat,by omega⟩:Fin p),h,by show (((A%p).toNat:Nat):Int)=_; omega⟩
theorem ZjQ{κ:KX}{A:Int}{x:κ.F}(h:NumV κ A x):QN κ 1 A.natAbs x:=by
  cases κ with
  | r p hp=>exact trivial
  | q =>
    refine ⟨A,?_,Q2 _⟩
    show (x:Rat)=_
    have e1:Rat.num x=A:=h.1
    have e2:Rat.den x=1:=h.2
    rw[<-Qs x,e1,e2]; rfl
end My
namespace My
open PySem L2 PyProof.Rows
def Zgy(CF CR:Addr):Sp:=λvs H Q _=>∃(κ:KX) (s a c:Addr) (rs:List Addr) (R:List (List κ.F)) (xs:List V) (f:List κ.F) (D E M N:Nat),vs=[.ref s,.ref a,.ref c]/\KdX CF CR κ H s/\H a=some (.lst (rs.map V.ref))/\RowsX κ H rs R/\Wid f.length R/\R.length<=100/\f.length<=100/\H c=some (.lst xs)/\AllG (NR κ H) xs f/\AllR (QN κ (D:Int) M) R/\(∀x∈f,QN κ (E:Int) N x)/\0<D/\D<=10^200/\0<E/\E<=10^200/\M<=10^500/\N<=10^500/\∀(H':Hp) (D:Addr) (ys:List V),Same H H'->H D=none->H' D=some (.lst ys)->AllG (NR κ H') ys (R.map λr=>ZiV r f)->Q (.ref D) H'
end My
namespace My
open PySem L2 PyProof.Rows
section
variable{P:Program}{w:World}{K:PySem.W.Frag}{mg:Str->Option Value}{base:Heap}{CF CR:Addr}
theorem ZfO:FnScope ["kind", "number", "row"] ["kind", "number", "row"] (Zah Zcn):=⟨rfl,rfl,rfl,by decide +kernel,rfl,by decide +kernel,by decide +kernel⟩
theorem ZeQ(h:Here K mg "scaled_row" Zcn) (mt:Zmp P w K mg base CF CR "times" (λ_ x y=>x*y)):Has P w K mg base "scaled_row" 3 ["kind", "number", "row"] (ZcJ CF CR):=by
  refine h.has (λf fd F=>F.binds λ_ _ _ _ _ _ us hl=>by obtain ⟨_,_,_,rfl⟩:=Zed hl; exact rfl) λf fd F=>F.ok ZfO (λvs H Q E h=>?_) (λcdv A outer s H vs Q E hr h=>?_)
  · obtain ⟨_,_,_,_,_,_,_,rfl,_⟩:=h
    rfl
  obtain ⟨κ,sk,r,cv,c,xs,f,rfl,hk,hc,hr',al,bc,bf,lf,k⟩:=h
  refine ⟨_,(Zae (Zan (Zbj ["each"] [(0, "kind"),(1, "number")] rfl (ZaC (pv 2)) (by exact λ_ _ _ _=>(Zap (i:=0) (show (["each", "kind", "number"]:List Str).Nodup by decide +kernel) rfl (Or.inl rfl))) (by exact λ_ _ _ _=>(Zgm ⟨rfl,rfl,rfl,rfl,rfl⟩ (pv 1) hr (Zaa (pv 2) (Zaa (pv 0) Zab)))) ⟨⟨rfl,rfl,Or.inl rfl⟩,⟨⟨rfl,rfl,Or.inl rfl⟩,trivial⟩⟩))),?_⟩
  refine ⟨_,rfl,r,rfl,⟨_,SqL.of hr'⟩,?_⟩
  have l:=al.1
  refine Za1 (K:=K) (a:=r) (xs:=xs) (λi ys H2=>Same H H2/\AllG (NR κ H2) ys ((f.take i).map (c * ·))) (by omega) ⟨Same.refl H,.nil⟩ (λi ys H2 _ q=>SqL.of (q.1 _ _ hr')) ?_ ?_
  · rintro i x ys H2 hx hl ⟨S,e⟩
    obtain ⟨y,hy,ny⟩:=al.get hx
    obtain ⟨C,dx,fs,ps,dvs,sp,h1,h2,h3,h4,rfl,h5⟩:=mt κ H2 sk (hk.same S)
    refine ⟨_,rfl,sk,C,dx,fs,ps,_,sp,rfl,h1,h2,h3,h4,_,rfl,_,rfl,h5 _ _ _ c y _ (Same.refl _) (hc.same S) (ny.same S) bc (bf y (Qe hy)) λt H3 S3 nt=>?_⟩
    refine ⟨S.trans S3,?_⟩
    rw[W9,hy,Qu]
    exact (e.mono λ_ _ n=>n.same S3).append (.one nt)
  · rintro ys H2 hl ⟨S,e⟩ D hD
    rw[l,Wa] at e
    exact k _ D ys (S.trans (Zag hD _)) (S.free hD) Zaf (e.mono λ_ _ n=>n.same (Zag hD _))
end
section
variable{P:Program}{w:World}{K:PySem.W.Frag}{mg:Str->Option Value}{base:Heap}{CF CR cF:Addr}
theorem Zgz:FnScope ["kind", "table", "column"] ["kind", "table", "column"] (Zah ZcS):=⟨rfl,rfl,rfl,by decide +kernel,rfl,by decide +kernel,by decide +kernel⟩
theorem ZjR(h:Here K mg "sums_with" ZcS) (md:ZfM P w K mg base CF CR):Has P w K mg base "sums_with" 4 ["kind", "table", "column"] (Zgy CF CR):=by
  refine h.has (λf fd F=>F.binds λ_ _ _ _ _ _ us hl=>by obtain ⟨_,_,_,rfl⟩:=Zed hl; exact rfl) λf fd F=>F.ok Zgz (λvs H Q E h=>?_) (λcdv A outer s H vs Q E hr h=>?_)
  · obtain ⟨_,_,_,_,_,_,_,_,_,_,_,_,rfl,_⟩:=h
    rfl
  obtain ⟨κ,sk,a,c,rs,R,xs,f,D,E',M,N,rfl,hk,hA,rx,wd,n9,m9,hC,al,qR,qf,d0,d1,e0,e1,m1,n1,k⟩:=h
  refine ⟨_,(Zae (Zan (Zbj ["row"] [(0, "kind"),(2, "column")] rfl (ZaC (pv 1)) (by exact λ_ _ _ _=>(Zap (i:=0) (show (["row", "kind", "column"]:List Str).Nodup by decide +kernel) rfl (Or.inl rfl))) (by exact λ_ _ _ _=>(Zgm ⟨rfl,rfl,rfl,rfl,rfl⟩ (pv 1) hr (Zaa (pv 0) (Zaa (pv 2) Zab)))) ⟨⟨rfl,rfl,Or.inl rfl⟩,⟨⟨rfl,rfl,Or.inl rfl⟩,trivial⟩⟩))),?_⟩
  have lr:=rx.1
  refine ⟨_,rfl,a,rfl,⟨_,SqL.of hA⟩,?_⟩
  refine Za1 (K:=K) (a:=a) (xs:=rs.map V.ref) (λi ys H2=>Same H H2/\AllG (NR κ H2) ys ((R.take i).map λr=>ZiV r f)) (by rw[Q1]; omega) ⟨Same.refl _,.nil⟩ (λi ys H2 _ q=>SqL.of (q.1 _ _ hA)) ?_ ?_
  · rintro i x ys H2 hx hl ⟨S2,e⟩
    obtain ⟨b,hb,rfl⟩:=Zaz hx
    obtain ⟨g,hg⟩:=ZaG hb lr
    obtain ⟨zs,hz,al2⟩:=rx.2 i b g hb hg
    have mg':=Qe hg
    have lg:=wd g mg'
    obtain ⟨Cd,dxd,fsd,psd,dvd,spd,k1,k2,k3,k4,rfl,k5⟩:=md κ H2 sk (hk.same S2)
    refine ⟨_,rfl,sk,Cd,dxd,fsd,psd,_,spd,rfl,k1,k2,k3.mono (by decide),k4,_,rfl,_,rfl,k5 H2 b c zs xs g f D E' M N _ (Same.refl _) (S2 _ _ hz) (S2 _ _ hC) (al2.mono λ_ _ n=>n.same S2) (al.mono λ_ _ n=>n.same S2) lg (by omega) (qR g mg') qf d0 d1 e0 e1 m1 n1 λH3 v S3 nv=>⟨S2.trans S3,?_⟩⟩
    rw[W9,hg,Qu]
    exact (e.mono λ_ _ n=>n.same S3).append (.one nv)
  · rintro ys H2 hl ⟨S2,e⟩ Dd nD
    rw[Q1,lr,Wa] at e
    have SD:=Zag nD (.lst ys)
    exact k _ Dd ys (S2.trans SD) (S2.free nD) Zaf (e.mono λ_ _ n=>n.same SD)
end
section
variable{P:Program}{w:World}{K:PySem.W.Frag}{mg:Str->Option Value}{base:Heap}{CF CR cF:Addr}
theorem ZgA:FnScope ["table"] ["table"] (Zah ZcQ):=⟨rfl,rfl,rfl,by decide +kernel,rfl,by decide +kernel,by decide +kernel⟩
theorem ZfP(h:Here K mg "is_square" ZcQ) (T:Nm mg):Has P w K mg base "is_square" 1 ["table"] Zdg:=by
  refine h.has (λf fd F=>F.binds λ_ _ _ _ _ _ us hl=>by obtain ⟨_,rfl⟩:=Zjv hl; exact rfl) λf fd F=>F.ok ZgA (λvs H Q E h=>?_) (λcdv A outer s H vs Q E hr h=>?_)
  · obtain ⟨_,_,_,_,_,rfl,_⟩:=h
    rfl
  obtain ⟨κ,a,rs,R,m,rfl,tb,k⟩:=h
  refine ⟨_,(Zae (Zan (Zcj Zbz (Zaj Zam (by rfl) T.len boot_len (Zaa (pv 0) Zab)) (Zaj Zam (by rfl) T.len boot_len (Zaa (Zao Zav (pv 0) Zad (λ_ _=>rfl)) Zab)) (Zaw _)))),?_⟩
  obtain ⟨a0,xs,f,ha,hf,hx,al,lx⟩:=tb.fst
  refine ⟨_,rfl,a,_,rfl,.inl (SqL.of tb.l),_,rfl,a,_,0,_,rfl,rfl,SqL.of tb.l,ZbG (i:=0) ha,a0,_,rfl,.inl (SqL.of hx),rfl,?_⟩
  have e:decide (V.int ((rs.map V.ref).length:Int)=V.int (xs.length:Int))=decide (R.length=m):=by
    have l:=tb.r.1
    rw[Q1,l,lx]
    by_cases z:R.length=m
    · rw[decide_eq_true z,decide_eq_true (by rw[z])]
    · rw[decide_eq_false z,decide_eq_false (λy=>z (by injection y; omega))]
  show Q (V.bl (decide (V.int ((rs.map V.ref).length:Int)=V.int (xs.length:Int)))) H
  rw[e]; exact k
theorem ZeR:FnScope ["table"] ["table"] (Zah Zb9):=⟨rfl,rfl,rfl,by decide +kernel,rfl,by decide +kernel,by decide +kernel⟩
theorem Zev(h:Here K mg "need_square" Zb9) (c_NoFit:ExcC K mg "NoFit" cF) (h_is_square:Has P w K mg base "is_square" 1 ["table"] Zdg):HasX P w K mg base "need_square" 2 ["table"] (Zcu cF):=by
  refine h.hasX (λf fd F=>F.binds λ_ _ _ _ _ _ us hl=>by obtain ⟨_,rfl⟩:=Zjv hl; exact rfl) λf fd F=>F.okx ZeR (λvs H Q E h=>?_) (λcdv A outer s H vs Q E hr h=>?_)
  · obtain ⟨_,_,_,_,_,rfl,_⟩:=h
    rfl
  obtain ⟨κ,a,rs,R,m,rfl,tb,k1,k2⟩:=h
  refine ⟨_,(Zae (ZaD (Zci (ZaL (Zak h_is_square hr (by rfl) (Zaa (pv 0) Zab)))) (Zae (ZdQ c_NoFit ZhK rfl (by rfl) (Zaa ZhA Zab))) Zar)),?_⟩
  refine ⟨_,rfl,κ,a,rs,R,m,rfl,tb,_,rfl,?_⟩
  by_cases z:R.length=m
  · exact ZnF z (k1 z)
  · exact Zmq z ⟨(by show 1<=1000; decide),k2 z⟩
theorem ZjS:FnScope ["kind", "number", "table"] ["kind", "number", "table"] (Zah Zfs):=⟨rfl,rfl,rfl,by decide +kernel,rfl,by decide +kernel,by decide +kernel⟩
theorem ZiN(h:Here K mg "scaled" Zfs) (h_scaled_row:Has P w K mg base "scaled_row" 3 ["kind", "number", "row"] (ZcJ CF CR)):Has P w K mg base "scaled" 4 ["kind", "number", "table"] (Zfd CF CR):=by
  refine h.has (λf fd F=>F.binds λ_ _ _ _ _ _ us hl=>by obtain ⟨_,_,_,rfl⟩:=Zed hl; exact rfl) λf fd F=>F.ok ZjS (λvs H Q E h=>?_) (λcdv A outer s H vs Q E hr h=>?_)
  · obtain ⟨_,_,_,_,_,_,_,_,rfl,_⟩:=h
    rfl
  obtain ⟨κ,sk,a,cv,c,rs,R,m,rfl,hk,nc,bc,tb,bR,k⟩:=h
  refine ⟨_,(Zae (Zan (Zbj ["row"] [(0, "kind"),(1, "number")] rfl (ZaC (pv 2)) (by exact λ_ _ _ _=>(Zap (i:=0) (show (["row", "kind", "number"]:List Str).Nodup by decide +kernel) rfl (Or.inl rfl))) (by exact λ_ _ _ _=>(Zak h_scaled_row hr (by rfl) (Zaa (pv 1) (Zaa (pv 2) (Zaa (pv 0) Zab))))) ⟨⟨rfl,rfl,Or.inl rfl⟩,⟨⟨rfl,rfl,Or.inl rfl⟩,trivial⟩⟩))),?_⟩
  have lr:=tb.r.1
  have n9:=tb.n9
  have m9:=tb.m9
  refine ⟨_,rfl,a,rfl,⟨_,SqL.of tb.l⟩,?_⟩
  refine Za1 (K:=K) (a:=a) (xs:=rs.map V.ref) (λi ys H2=>Same H H2/\∃ds:List Addr,ys=ds.map V.ref/\RowsX κ H2 ds ((R.take i).map λr=>r.map (c * ·))/\∀d∈ds,H d=none) (by rw[Q1]; omega) ⟨Same.refl _,[],rfl,.nil,λd h=>nomatch h⟩ (λi ys H2 _ q=>SqL.of (q.1 _ _ tb.l)) ?_ ?_
  · rintro i x ys H2 hx hl ⟨S2,ds,rfl,rx,fr⟩
    obtain ⟨b,hb,rfl⟩:=Zaz hx
    obtain ⟨f,hf⟩:=ZaG hb lr
    obtain ⟨zs,hz,al⟩:=tb.r.2 i b f hb hf
    have mf:=Qe hf
    refine ⟨_,rfl,_,rfl,_,rfl,κ,sk,b,cv,c,zs,f,rfl,hk.same S2,nc.same S2,S2 _ _ hz,al.mono (λ_ _ n=>n.same S2),bc,bR f mf,by rw[tb.w f mf]; omega,λH3 D ws S3 nD hD e3=>⟨S2.trans S3,ds++[D],by simp,?_,λd hd=>?_⟩⟩
    · rw[W9,hf,Qu]
      exact (rx.same S3).snoc hD e3
    · rcases Qq.mp hd with q | q
      · exact fr d q
      · rw[Q3.mp q]; exact S2.free nD
  · rintro ys H2 hl ⟨S2,ds,rfl,rx,fr⟩ D nD
    rw[Q1,lr,Wa] at rx
    have SD:=Zag nD (.lst (ds.map V.ref))
    exact k _ D ds (S2.trans SD) ⟨Zaf,rx.same SD,ZkT tb.w c,by rw[ZfN]; exact tb.n1,by rw[ZfN]; exact tb.n9,tb.m9⟩ fr (S2.free nD)
theorem sc_evenly_freed:FnScope ["kind", "table", "numbers", "row", "bottom"] ["kind", "table"] (Zah ZbS):=⟨rfl,rfl,rfl,by decide +kernel,rfl,by decide +kernel,by decide +kernel⟩
theorem ZdN(h:Here K mg "evenly_freed" ZbS) (mn:ZfI P w K mg base CF CR) (mb:ZjN P w K mg base CF CR) (h_scaled:Has P w K mg base "scaled" 4 ["kind", "number", "table"] (Zfd CF CR)):Has P w K mg base "evenly_freed" 5 ["kind", "table"] (Zch CF CR):=by
  refine h.has (λf fd F=>F.binds λ_ _ _ _ _ _ us hl=>by obtain ⟨_,_,rfl⟩:=Zdm hl; exact rfl) λf fd F=>F.ok sc_evenly_freed (λvs H Q E h=>?_) (λcdv A outer s H vs Q E hr h=>?_)
  · obtain ⟨_,_,_,_,_,_,_,_,rfl,_⟩:=h
    rfl
  obtain ⟨κ,sk,a,rs,R,m,D,M,rfl,hk,ta,qR,d0,d1,m1,k⟩:=h
  have d2:D<=10^200:=Q0 d1 (by decide)
  have nd:=sc_evenly_freed.nd
  refine ⟨_,(Zac (Zal (i:=2) nd rfl (Or.inl rfl) (ZaU Zab))
    (Zac (ZaQ PassesOwn.never rfl (ZaC (pv 1)) (Zap (i:=3) nd rfl (Or.inl rfl)) (Zae (ZaZ (Zd9 PySem.F.plainAttrs_list PySem.F.slot_list_extend PySem.F.type_list_extend Zjf (pv 2) (Zaa (pv 3) Zab)))))
    (Zac (Zal (i:=4) nd rfl (Or.inl rfl) (Zbw (pv 0) hr (Zaa (pv 2) Zab)))
    (Zae (Zan (Zbh (Zaa (Zak h_scaled hr (by rfl) (Zaa (pv 0) (Zaa (Zb6 (pv 0) Zfo hr (Zaa (pv 4) Zab)) (Zaa (pv 1) Zab)))) (Zaa (pv 4) Zab)))))))),?_⟩
  have lr:=ta.r.1
  have n9:=ta.n9
  have m9:=ta.m9
  refine ⟨(by show 0<=sizeLine; decide),λnb nnb=>?_⟩
  have Sn:=Zag nnb (.lst [])
  have qn:=Zaf (H:=H) (a:=nb) (o:=.lst [])
  generalize upd H nb (.lst [])=H1 at *
  refine ⟨_,rfl,a,rfl,⟨_,SqL.of (Sn _ _ ta.l)⟩,?_⟩
  refine Zbf (xs:=rs.map V.ref) (λi σ H2=>∃(z3 z4:Option V) (ns:List V),σ=[some (.ref sk),some (.ref a),some (.ref nb),z3,z4]/\Same H H2/\H2 nb=some (.lst ns)/\AllG (NR κ H2) ns (R.take i).flatten/\ns.length<=i*m) ⟨_,_,[],rfl,Sn,qn,by rw[List.take_zero]; exact .nil,Qb _⟩ ?_ ?_ ?_
  · rintro i σ H2-⟨z3,z4,ns,rfl,S2,-⟩
    exact SqL.of (S2 _ _ ta.l)
  · rintro i v σ H2 hv ⟨z3,z4,ns,rfl,S2,hn,an,ln⟩
    obtain ⟨b,hb,rfl⟩:=Zaz hv
    obtain ⟨f,hf⟩:=ZaG hb lr
    obtain ⟨zs,hz,al⟩:=ta.r.2 i b f hb hf
    have mf:=Qe hf
    have hi:i<rs.length:=(Qi.mp hb).1
    have lz:zs.length=m:=by rw[al.1]; exact ta.w f mf
    have nm:i*m<=100*100:=W1 (by omega) m9
    refine ⟨_,rfl,.inl ⟨rfl,_,SqL.of hn⟩,_,rfl,nb,b,ns,zs,rfl,rfl,hn,S2 _ _ hz,Q0 (show ns.length+zs.length<=20000 by omega) (by decide),?_⟩
    have O:Off [nb] H2 (upd H2 nb (.lst (ns++zs))):=Za9 (Same.refl H2)
    refine ⟨_,_,ns++zs,rfl,Off.same O S2 (λz hz=>by rw[Q3.mp hz]; exact nnb),Zaf,?_,by rw[Q7,Uj]; omega⟩
    rw[W9,hf,List.flatten_append]
    show AllG _ _ ((R.take i).flatten++[f].flatten)
    rw[show [f].flatten=f by simp]
    exact (an.mono λ_ _ n=>n.off hn O).append (al.mono λ_ _ n=>(n.same S2).off hn O)
  · rintro σ H2 ⟨z3,z4,ns,rfl,S2,hn,an,ln⟩
    rw[Q1,lr,Wa] at an
    have qF:∀x∈R.flatten,QN κ (D:Int) M x:=λx hx=>by
      obtain ⟨f,hf,hx⟩:=List.mem_flatten.mp hx
      exact qR f hf x hx
    obtain ⟨Cb,dxb,fsb,psb,dvb,spb,b1,b2,b3,b4,rfl,b5⟩:=mb κ H2 sk (hk.same S2)
    have bD:Bits 4000 (D:Int):=Bits.of (by rw[Qo]; exact Q9 d2 (Q6 (show 10^200<2^1000 by decide) (Ql (by decide) (by decide))))
    refine ⟨_,rfl,sk,Cb,dxb,fsb,psb,_,spb,rfl,b1,b2,b3.mono (by decide),b4,_,rfl,b5 nb ns _ (D:Int) _ hn an (by omega) bD (λx hx=>ZnN d0 (qF x hx)) λA bA=>?_⟩
    obtain ⟨A0,Al⟩:=ZjP d0 qF bA
    have A140:A.natAbs<=10^140:=Q0 (Q0 Al d1) (by decide)
    obtain ⟨x,nx⟩:=ZmD (κ:=κ) A140
    obtain ⟨Cn,dxn,fsn,psn,dvn,spn,k1,k2,k3,k4,rfl,k5⟩:=mn κ H2 sk (hk.same S2)
    refine ⟨_,rfl,_,rfl,sk,Cn,dxn,fsn,psn,_,spn,rfl,k1,k2,k3.mono (by decide),k4,_,rfl,k5 H2 A x _ _ (Same.refl _) nx λv H3 S3 nv=>?_⟩
    have bx:B1 κ x:=Zls (D:=1) (by decide) (by decide) (Q0 Al (Q0 d2 (by decide))) (ZjQ nx)
    refine ⟨_,rfl,κ,sk,a,v,x,rs,R,m,rfl,hk.same (S2.trans S3),nv,bx,ta.same (S2.trans S3),(λf hf y hy=>Zls d0 d2 m1 (qR f hf y hy)),λH4 D' rs' S4 t4 _ _=>?_⟩
    refine ⟨_,rfl,(by show 2<=sizeLine; decide),λtp ntp=>?_⟩
    have St:=Zag ntp (.tup [.ref D',.int A])
    exact k _ tp D' rs' A x (S2.trans (S3.trans (S4.trans St))) Zaf bA nx (t4.same St)
end
end My
namespace My.Rg
open PySem L2 PyProof.Rows
section
variable{α:Type}[Lean.Grind.CommRing α]
theorem Zpi:(0:α)+0=0:=by grind
def Sg(h:Nat->α):Nat->α
  | 0=>0
  | n+1=>Sg h n+h n
theorem Sg_congr{h g:Nat->α}:∀ {n:Nat},(∀i,i<n->h i=g i)->Sg h n=Sg g n
  | 0,_=>rfl
  | n+1,e=>by
    show Sg h n+h n=Sg g n+g n
    rw[Sg_congr (n:=n) λi hi=>e i (by omega),e n (by omega)]
theorem Sg_mul(c:α)(h:Nat->α):∀n,c*Sg h n=Sg (λi=>c*h i) n
  | 0=>by show c*0=0; grind
  | n+1=>by
    show c*(Sg h n+h n)=Sg (λi=>c*h i) n+c*h n
    rw[<-Sg_mul c h n]; grind
theorem Sg_add(h g:Nat->α):∀n,Sg h n+Sg g n=Sg (λi=>h i+g i) n
  | 0=>Zpi
  | n+1=>by
    show (Sg h n+h n)+(Sg g n+g n)=Sg (λi=>h i+g i) n+(h n+g n)
    rw[<-Sg_add h g n]; grind
theorem Sg_zero:∀n,Sg (λ_=>(0:α)) n=0
  | 0=>rfl
  | n+1=>by show Sg _ n+0=0; rw[Sg_zero n]; exact Zpi
theorem Zhe(h:Nat->Nat->α)(m:Nat):∀n,Sg (λi=>Sg (λj=>h i j) m) n=Sg (λj=>Sg (λi=>h i j) n) m
  | 0=>(Sg_zero m).symm
  | n+1=>by
    show Sg _ n+Sg (λj=>h n j) m=Sg (λj=>Sg (λi=>h i j) n+h n j) m
    rw[Zhe h m n,Sg_add]
theorem Sg_shift(h:Nat->α):∀n,Sg h (n+1)=h 0+Sg (λi=>h (i+1)) n
  | 0=>by show 0+h 0=h 0+0; grind
  | n+1=>by
    show Sg h (n+1)+h (n+1)=h 0+(Sg (λi=>h (i+1)) n+h (n+1))
    rw[Sg_shift h n]; grind
theorem ZjT(h:Nat->α)(i:Nat):∀n,Sg (λl=>h l*(if i=l then 1 else 0)) n=if i<n then h i else 0
  | 0=>by rw[if_neg (by omega)]; rfl
  | n+1=>by
    show Sg _ n+h n*(if i=n then 1 else 0)=_
    rw[ZjT h i n]
    by_cases e:i=n
    · subst e; rw[if_neg (by omega),if_pos rfl,if_pos (by omega)]; grind
    · rw[if_neg e]
      by_cases l:i<n
      · rw[if_pos l,if_pos (by omega)]; grind
      · rw[if_neg l,if_neg (by omega)]; grind
def sgn(α:Type)[Lean.Grind.CommRing α]:Nat->α
  | 0=>1
  | n+1=>0-sgn α n
def skip(j t:Nat):Nat:=if t<j then t else t+1
theorem ZjU{j k:Nat}(h:k<j)(t:Nat):skip j (skip k t)=skip k (skip (j-1) t):=by
  have lo:∀ {j t:Nat},t<j->skip j t=t:=λh=>by unfold skip; rw[if_pos h]
  have hi:∀ {j t:Nat},j<=t->skip j t=t+1:=λh=>by unfold skip; rw[if_neg (by omega)]
  by_cases h1:t<k
  · rw[lo h1,lo (show t<j by omega),lo (show t<j-1 by omega),lo h1]
  · by_cases h2:t<j-1
    · rw[hi (show k<=t by omega),lo (show t+1<j by omega),lo h2,hi (show k<=t by omega)]
    · rw[hi (show k<=t by omega),hi (show j<=t+1 by omega),hi (show j-1<=t by omega),hi (show k<=t+1 by omega)]
def det:Nat->(Nat->Nat->α)->α
  | 0,_=>1
  | n+1,a=>Sg (λj=>sgn α j*a 0 j*det n (λi k=>a (i+1) (skip j k))) (n+1)
theorem det_congr:∀ {n:Nat} {a b:Nat->Nat->α},(∀i j,i<n->j<n->a i j=b i j)->det n a=det n b
  | 0,_,_,_=>rfl
  | n+1,a,b,h=>by
    show Sg _ (n+1)=Sg _ (n+1)
    refine Sg_congr λj hj=>?_
    rw[h 0 j (by omega) hj,det_congr (n:=n) (a:=λi k=>a (i+1) (skip j k)) (b:=λi k=>b (i+1) (skip j k)) λi k hi hk=>h _ _ (by omega) (by unfold skip; split <;> omega)]
def ZaM(a:Nat->Nat->α)(r:Nat)(f:Nat->α):Nat->Nat->α:=λi j=>if i=r then f j else a i j
theorem Zew:∀ {n:Nat} {a:Nat->Nat->α} {r:Nat} (f g:Nat->α) (c:α),r<n->det n (ZaM a r λj=>f j+c*g j)=det n (ZaM a r f)+c*det n (ZaM a r g)
  | 0,_,_,_,_,_,h=>by omega
  | n+1,a,0,f,g,c,_=>by
    show Sg _ (n+1)=Sg _ (n+1)+c*Sg _ (n+1)
    rw[Sg_mul,Sg_add]
    refine Sg_congr λj hj=>?_
    have e:∀h:Nat->α,det n (λi k=>ZaM a 0 h (i+1) (skip j k))=det n (λi k=>a (i+1) (skip j k)):=λh=>det_congr λi k _ _=>by unfold ZaM; rw[if_neg (by omega)]
    rw[e,e,e]
    show sgn α j*(f j+c*g j)*_=sgn α j*f j*_+c*(sgn α j*g j*_)
    grind
  | n+1,a,r+1,f,g,c,hr=>by
    show Sg _ (n+1)=Sg _ (n+1)+c*Sg _ (n+1)
    rw[Sg_mul,Sg_add]
    refine Sg_congr λj hj=>?_
    have e:∀h:Nat->α,det n (λi k=>ZaM a (r+1) h (i+1) (skip j k))=det n (ZaM (λi k=>a (i+1) (skip j k)) r λk=>h (skip j k)):=λh=>det_congr λi k _ _=>by
      unfold ZaM
      by_cases q:i=r
      · rw[if_pos (by omega),if_pos q]
      · rw[if_neg (by omega),if_neg q]
    rw[e,e,e,Zew (n:=n) (a:=λi k=>a (i+1) (skip j k)) (r:=r) (λk=>f (skip j k)) (λk=>g (skip j k)) c (by omega)]
    have z:∀h:Nat->α,ZaM a (r+1) h 0 j=a 0 j:=λh=>by unfold ZaM; rw[if_neg (by omega)]
    rw[z,z,z]
    grind
theorem ZjV{f:Nat->Nat->α}:∀n,(∀j k,k<j->j<=n->f j k=0-f k (j-1))->Sg (λj=>Sg (λk=>f j k) n) (n+1)=0
  | 0,_=>by
    show (0:α)+0=0
    grind
  | n+1,h=>by
    have ih:=ZjV n λj k hk hj=>h j k hk (by omega)
    show Sg (λj=>Sg (λk=>f j k) (n+1)) (n+1)+Sg (λk=>f (n+1) k) (n+1)=0
    have e1:Sg (λj=>Sg (λk=>f j k) (n+1)) (n+1)=Sg (λj=>Sg (λk=>f j k) n) (n+1)+Sg (λj=>f j n) (n+1):=by
      rw[Sg_add]; rfl
    have e2:Sg (λk=>f (n+1) k) (n+1)=Sg (λj=>(0-1)*f j n) (n+1):=Sg_congr λk hk=>by
      rw[h (n+1) k hk (Q2 _)]
      show 0-f k n=(0-1)*f k n
      grind
    rw[e1,e2,ih,<-Sg_mul]
    grind
theorem Zhf:∀ {n:Nat} {a:Nat->Nat->α} {r:Nat},r+1<n->(∀j,a r j=a (r+1) j)->det n a=0
  | 0,_,_,h,_=>by omega
  | 1,_,_,h,_=>by omega
  | n+2,a,0,_,e=>by
    show Sg (λj=>sgn α j*a 0 j*Sg (λk=>sgn α k*a 1 (skip j k)*det n (λi t=>a (i+2) (skip j (skip k t)))) (n+1)) (n+2)=0
    have e1:∀j,j<n+2->sgn α j*a 0 j*Sg (λk=>sgn α k*a 1 (skip j k)*det n (λi t=>a (i+2) (skip j (skip k t)))) (n+1)=Sg (λk=>sgn α j*a 0 j*(sgn α k*a 0 (skip j k)*det n (λi t=>a (i+2) (skip j (skip k t))))) (n+1):=λj _=>by
      rw[Sg_mul]
      exact Sg_congr λk _=>by rw[e (skip j k)]
    rw[Sg_congr e1]
    refine ZjV (n+1) λj k hk hj=>?_
    have s1:skip j k=k:=by unfold skip; rw[if_pos hk]
    have s2:skip k (j-1)=j:=by unfold skip; rw[if_neg (by omega)]; omega
    have s3:det n (λi t=>a (i+2) (skip j (skip k t)))=det n (λi t=>a (i+2) (skip k (skip (j-1) t))):=det_congr λi t _ _=>by rw[ZjU hk]
    have s4:sgn α j=0-sgn α (j-1):=by
      obtain ⟨m,rfl⟩:∃m,j=m+1:=⟨j-1,by omega⟩
      rfl
    rw[s1,s2,s3,s4]
    grind
  | n+2,a,r+1,h,e=>by
    show Sg _ (n+2)=0
    have z:∀j,j<n+2->sgn α j*a 0 j*det (n+1) (λi k=>a (i+1) (skip j k))=0:=λj _=>by
      rw[Zhf (n:=n+1) (a:=λi k=>a (i+1) (skip j k)) (r:=r) (by omega) λk=>e (skip j k)]
      grind
    rw[Sg_congr z,Sg_zero]
theorem ZbL(a:Nat->Nat->α)(r:Nat):ZaM a r (a r)=a:=by
  funext i j
  unfold ZaM
  split
  · rename_i e; rw[e]
  · rfl
theorem ZcE{n:Nat}{a:Nat->Nat->α}{r:Nat}(f g:Nat->α)(h:r<n):det n (ZaM a r λj=>f j+g j)=det n (ZaM a r f)+det n (ZaM a r g):=by
  have:=Zew (a:=a) f g (1:α) h
  have e:(λj=>f j+(1:α)*g j)=λj=>f j+g j:=by funext j; grind
  rw[e] at this
  rw[this]
  grind
theorem ZmE{n:Nat}{a:Nat->Nat->α}{r:Nat}(h:r+1<n):det n (ZaM (ZaM a r (a (r+1))) (r+1) (a r))=0-det n a:=by
  have z:∀x:Nat->α,det n (ZaM (ZaM a r x) (r+1) x)=0:=λx=>Zhf h λj=>by
    unfold ZaM
    rw[if_neg (by omega),if_pos rfl,if_pos rfl]
  have c:∀x y:Nat->α,ZaM (ZaM a r x) (r+1) y=ZaM (ZaM a (r+1) y) r x:=λx y=>by
    funext i j
    unfold ZaM
    by_cases e1:i=r+1
    · rw[if_pos e1,if_neg (by omega),if_pos e1]
    · by_cases e2:i=r
      · rw[if_neg e1,if_pos e2,if_pos e2]
      · rw[if_neg e1,if_neg e2,if_neg e2,if_neg e1]
  have h0:=z λj=>a r j+a (r+1) j
  rw[ZcE _ _ (by omega),c,c,ZcE _ _ (by omega),ZcE _ _ (by omega),<-c,<-c,<-c,<-c] at h0
  have z1:=z λj=>a r j
  have z2:=z λj=>a (r+1) j
  have s:ZaM (ZaM a r λj=>a r j) (r+1) (λj=>a (r+1) j)=a:=by
    have e1:ZaM a r (λj=>a r j)=a:=ZbL a r
    rw[e1]
    exact ZbL a (r+1)
  rw[z1,z2,s] at h0
  have t:det n (ZaM (ZaM a r λj=>a (r+1) j) (r+1) λj=>a r j)=det n (ZaM (ZaM a r (a (r+1))) (r+1) (a r)):=rfl
  rw[t] at h0
  generalize det n (ZaM (ZaM a r (a (r+1))) (r+1) (a r))=u at *
  generalize det n a=v at *
  grind
theorem Zhg{n:Nat}:∀ {d:Nat} {a:Nat->Nat->α} {r:Nat},r+d+1<n->(∀j,a r j=a (r+d+1) j)->det n a=0
  | 0,a,r,h,e=>Zhf h e
  | d+1,a,r,h,e=>by
    have s:=ZmE (a:=a) (r:=r+d+1) (n:=n) (by omega)
    have z:det n (ZaM (ZaM a (r+d+1) (a (r+d+1+1))) (r+d+1+1) (a (r+d+1)))=0:=by
      refine Zhg (d:=d) (r:=r) (by omega) λj=>?_
      unfold ZaM
      rw[if_neg (by omega),if_neg (by omega),if_neg (by omega),if_pos rfl]
      exact e j
    rw[z] at s
    generalize det n a=v at *
    grind
theorem ZhZ{n:Nat}{a:Nat->Nat->α}{r s:Nat}(hr:r<n)(hs:s<n)(ne:r≠s)(e:∀j,a r j=a s j):det n a=0:=by
  rcases Nat.lt_or_gt_of_ne ne with h | h
  · refine Zhg (d:=s-r-1) (r:=r) (by omega) λj=>?_
    rw[e j]; congr 1; omega
  · refine Zhg (d:=r-s-1) (r:=s) (by omega) λj=>?_
    rw[<-e j]; congr 1; omega
theorem Zd0{n:Nat}{a:Nat->Nat->α}{r s:Nat}(c:α)(hr:r<n)(hs:s<n)(ne:r≠s):det n (ZaM a r λj=>a r j+c*a s j)=det n a:=by
  rw[Zew _ _ _ hr,show ZaM a r (λj=>a r j)=a from ZbL a r,ZhZ (a:=ZaM a r λj=>a s j) hr hs ne λj=>by unfold ZaM; rw[if_pos rfl,if_neg (Ne.symm ne)]]
  grind
theorem Zh0{n:Nat}{a:Nat->Nat->α}{r:Nat}(c:α)(hr:r<n):det n (ZaM a r λj=>c*a r j)=c*det n a:=by
  have e:(λj=>c*a r j)=λj=>0*a r j+c*a r j:=by funext j; grind
  have z:det n (ZaM a r λj=>0*a r j)=0:=by
    have e2:(λj=>(0:α)*a r j)=λj=>0+0*a r j:=by funext j; grind
    have:=Zew (a:=a) (λ_=>(0:α)) (λ_=>0) (0-1) hr
    have e3:(λj:Nat=>(0:α)+(0-1)*0)=λ_=>0:=by funext j; grind
    rw[e3] at this
    have e4:(λj=>(0:α)*a r j)=λ_=>0:=by funext j; grind
    rw[e4]
    generalize det n (ZaM a r λ_=>(0:α))=v at *
    grind
  rw[e,Zew (λj=>0*a r j) (a r) c hr,z,ZbL]
  grind
end
end My.Rg
namespace My.Rg
open PySem L2 PyProof.Rows
section
variable{α:Type}[Lean.Grind.CommRing α]
theorem Zlt(F:Nat->Nat->α):∀n,Sg (λk=>Sg (λi=>F k i) (k+1)) n=Sg (λi=>Sg (λj=>F (i+j) i) (n-i)) n
  | 0=>rfl
  | n+1=>by
    show Sg _ n+Sg (λi=>F n i) (n+1)=Sg _ n+Sg (λj=>F (n+j) n) (n+1-n)
    rw[Zlt F n,show n+1-n=1 by omega]
    have e:Sg (λi=>Sg (λj=>F (i+j) i) (n+1-i)) n=Sg (λi=>Sg (λj=>F (i+j) i) (n-i)) n+Sg (λi=>F n i) n:=by
      rw[Sg_add]
      refine Sg_congr λi hi=>?_
      rw[show n+1-i=(n-i)+1 by omega]
      show _+F (i+(n-i)) i=_
      rw[show i+(n-i)=n by omega]
    rw[e]
    show _+(Sg (λi=>F n i) n+F n n)=_+(0+F (n+0) n)
    generalize Sg (λi=>Sg (λj=>F (i+j) i) (n-i)) n=S
    generalize Sg (λi=>F n i) n=U
    show _=_+(0+F n n)
    grind
theorem Zlu(h:Nat->α):∀n,Sg h n=Sg (λi=>h (n-1-i)) n
  | 0=>rfl
  | n+1=>by
    rw[Sg_shift (λi=>h (n+1-1-i)) n]
    show Sg h n+h n=h n+_
    rw[Zlu h n]
    have e:Sg (λi=>h (n-1-i)) n=Sg (λi=>h (n+1-1-(i+1))) n:=Sg_congr λi _=>by rw[show n+1-1-(i+1)=n-1-i by omega]
    rw[e]
    grind
end
structure Ps (α:Type) where
  c:Nat->α
namespace Ps
section
variable{α:Type}[Lean.Grind.CommRing α]
def nc(n:Nat):α:=@NatCast.natCast α Lean.Grind.Semiring.natCast n
def ic(i:Int):α:=@IntCast.intCast α Lean.Grind.Ring.intCast i
theorem ext{f g:Ps α}(h:∀n,f.c n=g.c n):f=g:=by
  cases f; cases g
  congr 1
  funext n
  exact h n
def add(f g:Ps α):Ps α:=⟨λn=>f.c n+g.c n⟩
def mul(f g:Ps α):Ps α:=⟨λn=>Sg (λi=>f.c i*g.c (n-i)) (n+1)⟩
def neg(f:Ps α):Ps α:=⟨λn => - f.c n⟩
def con(x:α):Ps α:=⟨λn=>if n=0 then x else 0⟩
def pow(f:Ps α):Nat->Ps α
  | 0=>con 1
  | n+1=>mul (pow f n) f
theorem con_mul(x:α)(f:Ps α)(n:Nat):(mul (con x) f).c n=x*f.c n:=by
  show Sg (λi=>(if i=0 then x else 0)*f.c (n-i)) (n+1)=_
  rw[Sg_shift]
  have e:Sg (λi=>(if i+1=0 then x else 0)*f.c (n-(i+1))) n=Sg (λ_=>(0:α)) n:=Sg_congr λi _=>by rw[if_neg (by omega)]; grind
  rw[e,Sg_zero,if_pos rfl]
  show x*f.c n+0=_
  grind
theorem Zfe(f g:Ps α):mul f g=mul g f:=ext λn=>by
  show Sg _ (n+1)=Sg _ (n+1)
  rw[Zlu]
  refine Sg_congr λi hi=>?_
  rw[show n+1-1-i=n-i by omega,show n-(n-i)=i by omega]
  grind
theorem ZnO(f g h:Ps α):mul (mul f g) h=mul f (mul g h):=ext λn=>by
  show Sg (λk=>Sg (λi=>f.c i*g.c (k-i)) (k+1)*h.c (n-k)) (n+1)=Sg (λi=>f.c i*Sg (λj=>g.c j*h.c (n-i-j)) (n-i+1)) (n+1)
  have e:Sg (λk=>Sg (λi=>f.c i*g.c (k-i)) (k+1)*h.c (n-k)) (n+1)=Sg (λk=>Sg (λi=>f.c i*(g.c (k-i)*h.c (n-k))) (k+1)) (n+1):=Sg_congr λk _=>by
    have e1:Sg (λi=>f.c i*g.c (k-i)) (k+1)*h.c (n-k)=h.c (n-k)*Sg (λi=>f.c i*g.c (k-i)) (k+1):=by grind
    rw[e1,Sg_mul]
    refine Sg_congr λi _=>?_
    grind
  rw[e,Zlt (λk i=>f.c i*(g.c (k-i)*h.c (n-k))) (n+1)]
  refine Sg_congr λi hi=>?_
  rw[Sg_mul,show n+1-i=n-i+1 by omega]
  refine Sg_congr λj _=>?_
  rw[show i+j-i=j by omega,show n-(i+j)=n-i-j by omega]
theorem Zh1(f g h:Ps α):mul f (add g h)=add (mul f g) (mul f h):=ext λn=>by
  show Sg _ (n+1)=Sg _ (n+1)+Sg _ (n+1)
  rw[Sg_add]
  refine Sg_congr λi _=>?_
  show f.c i*(g.c (n-i)+h.c (n-i))=_
  grind
theorem ZjW(f:Ps α):mul (con 1) f=f:=ext λn=>by rw[con_mul]; grind
theorem Zh2(f:Ps α):mul (con 0) f=con 0:=ext λn=>by
  rw[con_mul]
  show 0*f.c n=if n=0 then 0 else 0
  split <;> grind
theorem Zhh{x y:α}(h:x=y):con x=con y:=by rw[h]
instance instRing:Lean.Grind.CommRing (Ps α) where
  add:=add
  mul:=mul
  neg:=neg
  sub f g:=add f (neg g)
  natCast:=⟨λn=>con (nc n)⟩
  ofNat n:=⟨con (OfNat.ofNat n)⟩
  nsmul:=⟨λn f=>mul (con (nc n)) f⟩
  npow:=⟨pow⟩
  intCast:=⟨λi=>con (ic i)⟩
  zsmul:=⟨λi f=>mul (con (ic i)) f⟩
  add_zero f:=ext λn=>by
    show f.c n+(if n=0 then 0 else 0)=f.c n
    split <;> grind
  add_comm f g:=ext λn=>by show f.c n+g.c n=g.c n+f.c n; grind
  add_assoc f g h:=ext λn=>by show f.c n+g.c n+h.c n=f.c n+(g.c n+h.c n); grind
  mul_assoc:=ZnO
  mul_one f:=(Zfe f (con 1)).trans (ZjW f)
  one_mul f:=ZjW f
  left_distrib:=Zh1
  right_distrib f g h:=by
    show mul (add f g) h=add (mul f h) (mul g h)
    rw[Zfe,Zh1,Zfe h f,Zfe h g]
  zero_mul f:=Zh2 f
  mul_zero f:=(Zfe f (con 0)).trans (Zh2 f)
  pow_zero f:=rfl
  pow_succ f n:=rfl
  ofNat_succ n:=ext λk=>by
    show (if k=0 then OfNat.ofNat (n+1) else 0)=(if k=0 then OfNat.ofNat n else 0)+(if k=0 then (1:α) else 0)
    split
    · exact Lean.Grind.Semiring.ofNat_succ n
    · grind
  ofNat_eq_natCast n:=Zhh (Lean.Grind.Semiring.ofNat_eq_natCast n)
  nsmul_eq_natCast_mul n f:=rfl
  neg_add_cancel f:=ext λn=>by
    show-f.c n+f.c n=if n=0 then 0 else 0
    split <;> grind
  sub_eq_add_neg f g:=rfl
  neg_zsmul i f:=ext λn=>by
    show (mul (con (ic (-i))) f).c n = - (mul (con (ic i)) f).c n
    rw[con_mul,con_mul,show (ic (-i):α) = - ic i from Lean.Grind.Ring.intCast_neg i]
    grind
  zsmul_natCast_eq_nsmul n f:=by
    show mul (con (ic (n:Int))) f=mul (con (nc n)) f
    rw[Zhh (show (ic (n:Int):α)=nc n from Lean.Grind.Ring.intCast_natCast n)]
  intCast_ofNat n:=Zhh (Lean.Grind.Ring.intCast_ofNat n)
  intCast_neg i:=ext λn=>by
    show (if n=0 then (ic (-i):α) else 0) = - (if n=0 then ic i else 0)
    split
    · exact Lean.Grind.Ring.intCast_neg i
    · grind
  mul_comm:=Zfe
theorem c_add(f g:Ps α)(n:Nat):(f+g).c n=f.c n+g.c n:=rfl
theorem c_mul(f g:Ps α)(n:Nat):(f*g).c n=Sg (λi=>f.c i*g.c (n-i)) (n+1):=rfl
theorem c_sub(f g:Ps α)(n:Nat):(f-g).c n=f.c n-g.c n:=by
  show f.c n + - g.c n=_
  grind
theorem c_zero(n:Nat):(0:Ps α).c n=0:=by show (if n=0 then (0:α) else 0)=0; split <;> rfl
theorem c_one(n:Nat):(1:Ps α).c n=if n=0 then 1 else 0:=rfl
theorem c_Sg(h:Nat->Ps α)(n:Nat):∀m,(Sg h m).c n=Sg (λi=>(h i).c n) m
  | 0=>c_zero n
  | m+1=>by
    show (Sg h m+h m).c n=_
    rw[c_add,c_Sg h n m]
    rfl
end
end Ps
end My.Rg
namespace My.Rg
open PySem L2 PyProof.Rows
section
variable{α:Type}[Lean.Grind.CommRing α]
theorem Zdx{j t:Nat}(h:t<j):skip j t=t:=by unfold skip; rw[if_pos h]
theorem Zcv{j t:Nat}(h:j<=t):skip j t=t+1:=by unfold skip; rw[if_neg (by omega)]
theorem Zex:∀(n:Nat) (B:Nat->Nat->α),(∀j,j<n->B n j=0)->det (n+1) B=B n n*det n B
  | 0,B,_=>by
    show 0+1*B 0 0*1=B 0 0*1
    grind
  | n+1,B,h=>by
    show Sg (λj=>sgn α j*B 0 j*det (n+1) (λi k=>B (i+1) (skip j k))) (n+2)=B (n+1) (n+1)*Sg (λj=>sgn α j*B 0 j*det n (λi k=>B (i+1) (skip j k))) (n+1)
    show Sg _ (n+1)+sgn α (n+1)*B 0 (n+1)*det (n+1) (λi k=>B (i+1) (skip (n+1) k))=_
    rw[Zex n (λi k=>B (i+1) (skip (n+1) k)) λj hj=>by rw[Zdx (by omega)]; exact h j (by omega)]
    show Sg _ (n+1)+sgn α (n+1)*B 0 (n+1)*(B (n+1) (skip (n+1) n)*det n (λi k=>B (i+1) (skip (n+1) k)))=_
    rw[Zdx (show n<n+1 by omega),h n (by omega),Sg_mul]
    have e:Sg (λj=>sgn α j*B 0 j*det (n+1) (λi k=>B (i+1) (skip j k))) (n+1)=Sg (λj=>B (n+1) (n+1)*(sgn α j*B 0 j*det n (λi k=>B (i+1) (skip j k)))) (n+1):=Sg_congr λj hj=>by
      rw[Zex n (λi k=>B (i+1) (skip j k)) λk hk=>h _ (by unfold skip; split <;> omega)]
      show sgn α j*B 0 j*(B (n+1) (skip j n)*_)=_
      rw[Zcv (show j<=n by omega)]
      generalize (det n _:α)=D
      grind
    rw[e]
    generalize (Sg _ (n+1):α)=S
    generalize (det n _:α)=D
    grind
def lin(x y:α):Ps α:=⟨λn=>if n=0 then x else if n=1 then y else 0⟩
theorem mul_lin(f:Ps α)(x y:α)(n:Nat):(f*lin x y).c n=f.c n*x+(if n=0 then 0 else f.c (n-1)*y):=by
  rw[Ps.c_mul]
  match n with
  | 0 =>
    show 0+f.c 0*x=f.c 0*x+0
    grind
  | n+1 =>
    show (Sg (λi=>f.c i*(lin x y).c (n+1-i)) n+f.c n*(lin x y).c (n+1-n))+f.c (n+1)*(lin x y).c (n+1-(n+1))=_
    have e:Sg (λi=>f.c i*(lin x y).c (n+1-i)) n=Sg (λ_=>(0:α)) n:=Sg_congr λi hi=>by
      show f.c i*(if n+1-i=0 then x else if n+1-i=1 then y else 0)=0
      rw[if_neg (by omega),if_neg (by omega)]
      grind
    rw[e,Sg_zero,show n+1-n=1 by omega,show n+1-(n+1)=0 by omega,if_neg (by omega),show n+1-1=n by omega]
    show 0+f.c n*y+f.c (n+1)*x=_
    grind
def unz(a:Nat->Nat->α):Nat->Nat->Ps α:=λi j=>lin (if j=i then 1 else 0) (0-a i j)
def wv(a:Nat->Nat->α)(s:Nat):Nat->Nat->α
  | 0,j=>a s j
  | t+1,j=>Sg (λi=>wv a s t i*a i j) s
def yv(a:Nat->Nat->α)(s i:Nat):Ps α:=⟨λn=>match n with
  | 0=>0
  | t+1=>wv a s t i⟩
def cn(a:Nat->Nat->α)(s:Nat):Ps α:=⟨λn=>match n with
  | 0=>1
  | 1=>0-a s s
  | t+2=>0-Sg (λi=>wv a s t i*a i s) s⟩
theorem Zlv(h:Nat->α)(n:Nat):0-Sg h n=Sg (λi=>0-h i) n:=by
  have e:0-Sg h n=(0-1)*Sg h n:=by grind
  rw[e,Sg_mul]
  exact Sg_congr λi _=>by grind
theorem ZiO(a:Nat->Nat->α){s j:Nat}(hj:j<s):unz a s j+Sg (λi=>yv a s i*unz a i j) s=0:=Ps.ext λn=>by
  rw[Ps.c_add,Ps.c_Sg,Ps.c_zero]
  have e:Sg (λi=>(yv a s i*unz a i j).c n) s=Sg (λi=>(yv a s i).c n*(if j=i then 1 else 0)) s+Sg (λi=>if n=0 then 0 else (yv a s i).c (n-1)*(0-a i j)) s:=by
    rw[Sg_add]
    exact Sg_congr λi _=>mul_lin _ _ _ _
  rw[e,ZjT,if_pos hj]
  have u:(unz a s j).c n=if n=1 then 0-a s j else 0:=by
    show (if n=0 then (if j=s then (1:α) else 0) else if n=1 then 0-a s j else 0)=_
    rw[if_neg (show ¬j=s by omega)]
    by_cases h:n=0
    · rw[if_pos h,if_neg (by omega)]
    · rw[if_neg h]
  rw[u]
  match n with
  | 0 =>
    rw[if_neg (by omega)]
    have e2:Sg (λi=>if (0:Nat)=0 then (0:α) else (yv a s i).c (0-1)*(0-a i j)) s=Sg (λ_=>(0:α)) s:=Sg_congr λi _=>if_pos rfl
    rw[e2,Sg_zero]
    show (0:α)+(0+0)=0
    grind
  | 1 =>
    rw[if_pos rfl]
    have e2:Sg (λi=>if (1:Nat)=0 then (0:α) else (yv a s i).c (1-1)*(0-a i j)) s=Sg (λ_=>(0:α)) s:=Sg_congr λi _=>by
      rw[if_neg (by omega)]
      show (0:α)*(0-a i j)=0
      grind
    rw[e2,Sg_zero]
    show 0-a s j+(a s j+0)=0
    grind
  | t+2 =>
    rw[if_neg (by omega)]
    have e2:Sg (λi=>if t+2=0 then (0:α) else (yv a s i).c (t+2-1)*(0-a i j)) s=0-Sg (λi=>wv a s t i*a i j) s:=by
      rw[Zlv]
      refine Sg_congr λi _=>?_
      rw[if_neg (by omega)]
      show wv a s t i*(0-a i j)=_
      grind
    rw[e2]
    show 0+(Sg (λi=>wv a s t i*a i j) s+_)=0
    grind
theorem Zhi(a:Nat->Nat->α)(s:Nat):unz a s s+Sg (λi=>yv a s i*unz a i s) s=cn a s:=Ps.ext λn=>by
  rw[Ps.c_add,Ps.c_Sg]
  have e:Sg (λi=>(yv a s i*unz a i s).c n) s=Sg (λi=>if n=0 then 0 else (yv a s i).c (n-1)*(0-a i s)) s:=Sg_congr λi hi=>by
    show (yv a s i*lin (if s=i then 1 else 0) (0-a i s)).c n=_
    rw[mul_lin,if_neg (show ¬s=i by omega)]
    grind
  rw[e]
  have u:(unz a s s).c n=if n=0 then 1 else if n=1 then 0-a s s else 0:=by
    show (if n=0 then (if s=s then (1:α) else 0) else if n=1 then 0-a s s else 0)=_
    rw[if_pos rfl]
  rw[u]
  match n with
  | 0 =>
    rw[if_pos rfl]
    have e2:Sg (λi=>if (0:Nat)=0 then (0:α) else (yv a s i).c (0-1)*(0-a i s)) s=Sg (λ_=>(0:α)) s:=Sg_congr λi _=>if_pos rfl
    rw[e2,Sg_zero]
    show (1:α)+0=1
    grind
  | 1 =>
    rw[if_neg (by omega),if_pos rfl]
    have e2:Sg (λi=>if (1:Nat)=0 then (0:α) else (yv a s i).c (1-1)*(0-a i s)) s=Sg (λ_=>(0:α)) s:=Sg_congr λi _=>by
      rw[if_neg (by omega)]
      show (0:α)*(0-a i s)=0
      grind
    rw[e2,Sg_zero]
    show 0-a s s+0=0-a s s
    grind
  | t+2 =>
    rw[if_neg (by omega),if_neg (by omega)]
    show 0+_=0-Sg (λi=>wv a s t i*a i s) s
    rw[Zlv]
    have e2:Sg (λi=>if t+2=0 then (0:α) else (yv a s i).c (t+2-1)*(0-a i s)) s=Sg (λi=>0-wv a s t i*a i s) s:=Sg_congr λi _=>by
      rw[if_neg (by omega)]
      show wv a s t i*(0-a i s)=_
      grind
    rw[e2]
    grind
theorem ZjX(a:Nat->Nat->α)(r:Nat)(f g:Nat->α):ZaM (ZaM a r f) r g=ZaM a r g:=by
  funext i j
  unfold ZaM
  split
  · rfl
  · rfl
theorem Zh3{s:Nat}(E:Nat->Nat->α)(y:Nat->α):∀k,k<=s->det (s+1) (ZaM E s λj=>E s j+Sg (λi=>y i*E i j) k)=det (s+1) E
  | 0,_=>by
    have e:(λj=>E s j+Sg (λi=>y i*E i j) 0)=E s:=by funext j; show E s j+0=_; grind
    rw[e,ZbL]
  | k+1,hk=>by
    rw[<-Zh3 E y k (by omega)]
    have h:=Zd0 (n:=s+1) (a:=ZaM E s λj=>E s j+Sg (λi=>y i*E i j) k) (r:=s) (s:=k) (y k) (by omega) (by omega) (by omega)
    rw[ZjX] at h
    rw[<-h]
    congr 1
    congr 1
    funext j
    unfold ZaM
    rw[if_pos rfl,if_neg (show ¬k=s by omega)]
    show E s j+(Sg (λi=>y i*E i j) k+y k*E k j)=_
    grind
def qz(n:Nat)(a:Nat->Nat->α):Ps α:=det n (unz a)
theorem qz_step(a:Nat->Nat->α)(s:Nat):qz (s+1) a=cn a s*qz s a:=by
  show det (s+1) (unz a)=_
  rw[<-Zh3 (unz a) (yv a s) s (Q2 s),Zex]
  · have e1:ZaM (unz a) s (λj=>unz a s j+Sg (λi=>yv a s i*unz a i j) s) s s=cn a s:=by
      unfold ZaM
      rw[if_pos rfl]
      exact Zhi a s
    rw[e1]
    congr 1
    exact det_congr λi j hi _=>by unfold ZaM; rw[if_neg (by omega)]
  · intro j hj
    unfold ZaM
    rw[if_pos rfl]
    exact ZiO a hj
theorem Zhj:∀j,sgn (Ps α) j=Ps.con (sgn α j)
  | 0=>rfl
  | j+1=>Ps.ext λn=>by
    show (0-sgn (Ps α) j).c n=(if n=0 then 0-sgn α j else 0)
    rw[Ps.c_sub,Zhj j,Ps.c_zero]
    show 0-(if n=0 then sgn α j else 0)=_
    split <;> grind
theorem Zlw(j:Nat)(x y:α)(D:Ps α)(n:Nat):(sgn (Ps α) j*lin x y*D).c n=sgn α j*(x*D.c n+(if n=0 then 0 else y*D.c (n-1))):=by
  have e:sgn (Ps α) j*lin x y*D=sgn (Ps α) j*(D*lin x y):=by generalize lin x y=L; grind
  rw[e,Zhj]
  show (Ps.mul (Ps.con (sgn α j)) (D*lin x y)).c n=_
  rw[Ps.con_mul,mul_lin]
  split <;> grind
theorem Zey:∀(n:Nat) (A B:Nat->Nat->α),(∀m,n<m->(det n λi j=>lin (A i j) (B i j)).c m=0)/\(det n λi j=>lin (A i j) (B i j)).c n=det n B
  | 0,A,B=>by
    refine ⟨λm hm=>?_,?_⟩
    · show (1:Ps α).c m=0
      rw[Ps.c_one,if_neg (by omega)]
    · show (1:Ps α).c 0=1
      rw[Ps.c_one,if_pos rfl]
  | n+1,A,B=>by
    have ih:=λj=>Zey n (λi k=>A (i+1) (skip j k)) (λi k=>B (i+1) (skip j k))
    have e:∀m,(det (n+1) λi j=>lin (A i j) (B i j)).c m=Sg (λj=>sgn α j*(A 0 j*(det n λi k=>lin (A (i+1) (skip j k)) (B (i+1) (skip j k))).c m+(if m=0 then 0 else B 0 j*(det n λi k=>lin (A (i+1) (skip j k)) (B (i+1) (skip j k))).c (m-1)))) (n+1):=λm=>by
      show (Sg (λj=>sgn (Ps α) j*lin (A 0 j) (B 0 j)*det n (λi k=>lin (A (i+1) (skip j k)) (B (i+1) (skip j k)))) (n+1)).c m=_
      rw[Ps.c_Sg]
      exact Sg_congr λj _=>Zlw _ _ _ _ _
    refine ⟨λm hm=>?_,?_⟩
    · rw[e m]
      have z:∀j,j<n+1->sgn α j*(A 0 j*(det n λi k=>lin (A (i+1) (skip j k)) (B (i+1) (skip j k))).c m+(if m=0 then 0 else B 0 j*(det n λi k=>lin (A (i+1) (skip j k)) (B (i+1) (skip j k))).c (m-1)))=0:=λj _=>by
        rw[(ih j).1 m (by omega),if_neg (by omega),(ih j).1 (m-1) (by omega)]
        grind
      rw[Sg_congr z,Sg_zero]
    · rw[e (n+1)]
      show _=Sg (λj=>sgn α j*B 0 j*det n (λi k=>B (i+1) (skip j k))) (n+1)
      refine Sg_congr λj _=>?_
      rw[(ih j).1 (n+1) (by omega),if_neg (by omega),show n+1-1=n by omega,(ih j).2]
      generalize (det n _:α)=D
      grind
theorem qz_deg(n:Nat)(a:Nat->Nat->α){m:Nat}(h:n<m):(qz n a).c m=0:=(Zey n _ _).1 m h
def cv(a:Nat->Nat->α)(s:Nat)(u:Nat->α):Nat->Nat->α
  | 0,i=>u i
  | t+1,i=>Sg (λk=>a i k*cv a s u t k) s
theorem ZnP(a:Nat->Nat->α)(s:Nat):∀(t:Nat) (u:Nat->α) (i:Nat),cv a s (cv a s u 1) t i=cv a s u (t+1) i
  | 0,u,i=>rfl
  | t+1,u,i=>by
    show Sg (λk=>a i k*cv a s (cv a s u 1) t k) s=Sg (λk=>a i k*cv a s u (t+1) k) s
    exact Sg_congr λk _=>by rw[ZnP a s t u k]
theorem wv_cv(a:Nat->Nat->α)(s:Nat):∀(t:Nat) (u:Nat->α),Sg (λi=>wv a s t i*u i) s=Sg (λj=>a s j*cv a s u t j) s
  | 0,u=>rfl
  | t+1,u=>by
    have e:Sg (λi=>wv a s (t+1) i*u i) s=Sg (λi=>Sg (λl=>wv a s t l*(a l i*u i)) s) s:=Sg_congr λi _=>by
      show Sg (λl=>wv a s t l*a l i) s*u i=_
      have e1:Sg (λl=>wv a s t l*a l i) s*u i=u i*Sg (λl=>wv a s t l*a l i) s:=by grind
      rw[e1,Sg_mul]
      exact Sg_congr λl _=>by grind
    rw[e,Zhe]
    have e2:Sg (λj=>Sg (λi=>wv a s t j*(a j i*u i)) s) s=Sg (λl=>wv a s t l*cv a s u 1 l) s:=Sg_congr λl _=>by
      rw[<-Sg_mul]; rfl
    rw[e2,wv_cv a s t (cv a s u 1)]
    exact Sg_congr λj _=>by rw[ZnP]
end
end My.Rg
namespace My
open PySem L2 PyProof.Rows
section
variable{κ:KX}
theorem Zhk(f g:List κ.F):∀k,ZhV f g k=Rg.Sg (λi=>f.getD i 0*g.getD i 0) k
  | 0=>rfl
  | k+1=>by show ZhV f g k+_=Rg.Sg _ k+_; rw[Zhk f g k]
noncomputable def coL(f:Rg.Ps κ.F)(n:Nat):List κ.F:=(List.range n).map f.c
theorem Zba(f:Rg.Ps κ.F)(n:Nat):(coL f n).length=n:=by unfold coL; rw[Q1,W3]
theorem Zdh(f:Rg.Ps κ.F){n i:Nat}(h:i<n):(coL f n).getD i 0=f.c i:=by
  unfold coL
  rw[Q4,Qc,W8 h]
  rfl
theorem Zd1{f:List κ.F}{i:Nat}(h:f.length<=i):f.getD i 0=0:=by
  rw[Q4,Qp h]; rfl
theorem ZfQ(f:Rg.Ps κ.F)(n:Nat):coL f (n+1)=coL f n++[f.c n]:=by
  unfold coL
  rw[List.range_succ,Qu]
  rfl
theorem ZjY{f:Rg.Ps κ.F}{n:Nat}{x:κ.F}(h:x∈coL f n):∃i,i<n/\x=f.c i:=by
  obtain ⟨i,hi,rfl⟩:=W4.mp h
  exact ⟨i,Wx.mp hi,rfl⟩
noncomputable def pN(f g:List κ.F)(place:Nat):κ.F:=Rg.Sg (λi=>f.getD i 0*g.getD (place-i) 0) (place+1)
theorem Zlx(h:Nat->κ.F)(lo:Nat)(z:∀i,i<lo->h i=0):∀k,Rg.Sg h (lo+k)=Rg.Sg (λi=>h (lo+i)) k
  | 0=>by
    show Rg.Sg h lo=0
    rw[Rg.Sg_congr z,Rg.Sg_zero]
  | k+1=>by
    show Rg.Sg h (lo+k)+h (lo+k)=_+h (lo+k)
    rw[Zlx h lo z k]
theorem ZnQ{a:Nat->Nat->κ.F}{s place:Nat}(h:place<s+2):pN (coL (Rg.cn a s) (s+2)) (coL (Rg.qz s a) (s+1)) place=(Rg.qz (s+1) a).c place:=by
  rw[Rg.qz_step,Rg.Ps.c_mul]
  unfold pN
  refine Rg.Sg_congr λi hi=>?_
  rw[Zdh _ (by omega)]
  by_cases q:place-i<s+1
  · rw[Zdh _ q]
  · rw[Zd1 (by rw[Zba]; omega),Rg.qz_deg s a (show s<place-i by omega)]
abbrev EE:Nat:=2^200
abbrev GG:Nat:=7*2^200
theorem ZkU{h:Nat->κ.F}{M:Nat}:∀k,(∀i,i<k->QN κ 1 M (h i))->QN κ 1 (k*M) (Rg.Sg h k)
  | 0,_=>QN.zero
  | k+1,e=>by
    rw[Uj]
    exact QN.add (by decide) (ZkU k λi hi=>e i (by omega)) (e k (by omega))
theorem QN.mul1{M N:Nat}{x y:κ.F}(h:QN κ 1 M x)(g:QN κ 1 N y):QN κ 1 (M*N) (x*y):=h.mul g
theorem QN.neg1{M:Nat}{x:κ.F}(h:QN κ 1 M x):QN κ 1 M (0-x):=by
  cases κ with
  | r p hp=>exact trivial
  | q =>
    obtain ⟨X,rfl,l⟩:=h
    refine ⟨-X,?_,by rw[Int.natAbs_neg]; exact l⟩
    show (0:Rat)-Rat.divInt X 1=Rat.divInt (-X) 1
    rw[<-Rat.neg_divInt]
    generalize Rat.divInt X 1=z
    grind
theorem qn1:QN κ 1 1 (1:κ.F):=by
  cases κ with
  | r p hp=>exact trivial
  | q=>exact ⟨1,by show (1:Rat)=Rat.divInt 1 1; decide +kernel,by decide⟩
theorem Zh4{D:Int}{M:Nat}{A:List (List κ.F)}(h:AllR (QN κ D M) A)(i j:Nat):QN κ D M (ent A i j):=by
  unfold ent
  by_cases q:j<(A.getD i []).length
  · refine h.getD i _ ?_
    rw[Q4 (l:=A.getD i []),Q5 q]
    exact Wd _
  · rw[Zd1 (by omega)]
    exact QN.zero
theorem ZkV{a:Nat->Nat->κ.F}{s:Nat}(h:∀i j,QN κ 1 EE (a i j))(hs:s<=7):∀t i,QN κ 1 (GG^t*EE) (Rg.cv a s (λi=>a i s) t i)
  | 0,i=>(h i s).mono (by rw[Nat.pow_zero,Nat.one_mul]; exact Q2 _)
  | t+1,i=>by
    refine QN.mono (ZkU (M:=EE*(GG^t*EE)) s λk _=>(h i k).mul1 (ZkV h hs t k)) ?_
    rw[Ug,Wi (GG^t) GG EE,show GG*EE=7*(EE*EE) by rw[show GG=7*EE from rfl,Wi],<-Wi EE (GG^t) EE,Wq EE (GG^t),Wi (GG^t) EE EE,Nat.mul_left_comm (GG^t) 7]
    exact Qw _ hs
theorem Zly{a:Nat->Nat->κ.F}{s:Nat}(h:∀i j,QN κ 1 EE (a i j))(hs:s<=7)(t:Nat):QN κ 1 (GG^(t+2)) (Rg.Sg (λj=>a s j*Rg.cv a s (λi=>a i s) t j) s):=by
  refine QN.mono (ZkU (M:=EE*(GG^t*EE)) s λk _=>(h s k).mul1 (ZkV h hs t k)) ?_
  have e:GG^(t+2)=49*(EE*(GG^t*EE)):=by
    rw[show t+2=t+1+1 from rfl,Ug,Ug,Wi,show GG*GG=49*(EE*EE) by rw[show GG=7*EE from rfl,Nat.mul_mul_mul_comm],<-Wi EE (GG^t) EE,Wq EE (GG^t),Wi (GG^t) EE EE,Nat.mul_left_comm (GG^t) 49]
  rw[e]
  exact Qw _ (by omega)
theorem Zlz(a:Nat->Nat->κ.F)(s t:Nat):(Rg.cn a s).c (t+2)=0-Rg.Sg (λj=>a s j*Rg.cv a s (λi=>a i s) t j) s:=by
  show 0-Rg.Sg (λi=>Rg.wv a s t i*a i s) s=_
  rw[Rg.wv_cv a s t (λi=>a i s)]
theorem ZnR{a:Nat->Nat->κ.F}{s:Nat}(h:∀i j,QN κ 1 EE (a i j))(hs:s<=7):∀i,QN κ 1 (GG^i) ((Rg.cn a s).c i)
  | 0=>qn1
  | 1=>(h s s).neg1.mono (by rw[Nat.pow_one]; show EE<=7*EE; omega)
  | t+2=>by
    rw[Zlz]
    exact (Zly h hs t).neg1
theorem ZmF{a:Nat->Nat->κ.F}(h:∀i j,QN κ 1 EE (a i j)):∀s,s<=7->∀i,QN κ 1 (8^s*GG^i) ((Rg.qz s a).c i)
  | 0,_,i=>by
    show QN κ 1 _ ((1:Rg.Ps κ.F).c i)
    rw[Rg.Ps.c_one]
    by_cases q:i=0
    · rw[if_pos q,q]; exact qn1
    · rw[if_neg q]; exact QN.zero
  | s+1,hs,i=>by
    by_cases q:i<=s+1
    · rw[Rg.qz_step,Rg.Ps.c_mul]
      refine QN.mono (ZkU (M:=8^s*GG^i) (i+1) λk hk=>?_) ?_
      · refine QN.mono ((ZnR h (by omega) k).mul1 (ZmF h s (by omega) (i-k))) ?_
        rw[Nat.mul_left_comm,<-Wt,show k+(i-k)=i by omega]
        exact Q2 _
      · rw[Ug,Wq (8^s) 8,Wi]
        exact Qw _ (by omega)
    · rw[Rg.qz_deg (s+1) a (by omega)]
      exact QN.zero
theorem gg5{i:Nat}(hi:i<=7):GG^i<=10^500:=Q0 (Ql (by decide) hi) (by decide)
theorem gg4{i:Nat}(hi:i<=6):GG^i*EE<=10^500:=Q0 (Qw _ (Ql (by decide) hi)) (by decide)
theorem qz5{s i:Nat}(hs:s<=7)(hi:i<=7):8^s*GG^i<=10^500:=Q0 (W1 (Ql (by decide) hs) (Ql (by decide) hi)) (by decide)
theorem ZgB{M:Nat}{x:κ.F}(h:QN κ 1 M x)(l:M<=10^500):B1 κ x:=h.b1 (by decide) (Q6 (show 1<2^1 by decide) (Ql (by decide) (by decide))) (Q9 l (Q6 (show 10^500<2^2000 by decide) (Ql (by decide) (by decide))))
end
def ZbY(CF CR:Addr):Sp:=λvs H Q _=>∃(κ:KX) (s fa ga:Addr) (xs ys:List V) (f g:List κ.F) (place M N:Nat),vs=[.ref s,.ref fa,.ref ga,.int (place:Int)]/\KdX CF CR κ H s/\H fa=some (.lst xs)/\AllG (NR κ H) xs f/\H ga=some (.lst ys)/\AllG (NR κ H) ys g/\place+1<=f.length/\f.length<=90/\g.length<=90/\(∀x∈f,QN κ 1 M x)/\(∀x∈g,QN κ 1 N x)/\M<=10^500/\N<=10^500/\∀H' v,Same H H'->NR κ H' v (pN f g place)->Q v H'
def Zez:Sp:=λvs H Q _=>∃(κ:KX) (a:Addr) (rs:List Addr) (R:List (List κ.F)) (m j:Nat),vs=[.ref a,.int (j:Int)]/\H a=some (.lst (rs.map V.ref))/\RowsX κ H rs R/\Wid m R/\R.length<=100/\j<m/\∀(H':Hp) (D:Addr) (ys:List V),Same H H'->H D=none->H' D=some (.lst ys)->AllG (NR κ H') ys (R.map λr=>r.getD j 0)->Q (.ref D) H'
def ZgC(CF CR:Addr):Sp:=λvs H Q _=>∃(κ:KX) (s tb:Addr) (rs:List Addr) (A:List (List κ.F)) (n size:Nat),vs=[.ref s,.ref tb,.int (size:Int)]/\KdX CF CR κ H s/\H tb=some (.lst (rs.map V.ref))/\RowsX κ H rs A/\A.length=n/\Wid n A/\n<=7/\size<n/\AllR (QN κ 1 EE) A/\∀(H':Hp) (D:Addr) (ys:List V),Same H H'->H' D=some (.lst ys)->AllG (NR κ H') ys (coL (Rg.cn (ent A) size) (size+2))->Q (.ref D) H'
def Zff(CF CR:Addr):Sp:=λvs H Q _=>∃(κ:KX) (s tb:Addr) (rs:List Addr) (A:List (List κ.F)) (n:Nat),vs=[.ref s,.ref tb]/\KdX CF CR κ H s/\H tb=some (.lst (rs.map V.ref))/\RowsX κ H rs A/\A.length=n/\Wid n A/\n<=7/\AllR (QN κ 1 EE) A/\∀(H':Hp) (D:Addr) (ys:List V),Same H H'->H' D=some (.lst ys)->AllG (NR κ H') ys (coL (Rg.qz n (ent A)) (n+1))->Q (.ref D) H'
end My
namespace My
open PySem L2 PyProof.Rows
theorem ZkW(xs:List V){a b:Nat}(hab:a<=b)(hb:b<=xs.length):ZeK xs (some (a:Int)) (some (b:Int))=(xs.drop a).take (b-a):=by
  unfold ZeK
  rw[HT.sIx_nat,HT.sIx_nat,Nat.min_eq_left (show a<=xs.length by omega),Nat.min_eq_left hb]
theorem ZjZ{κ:KX}{H:Hp}{xs:List V}{f:List κ.F}(al:AllG (NR κ H) xs f){a k:Nat}:AllG (NR κ H) ((xs.drop a).take k) ((f.drop a).take k):=ZcC (al.drop a) k
section
variable{P:Program}{w:World}{K:PySem.W.Frag}{mg:Str->Option Value}{base:Heap}{CF CR cN cF:Addr}
theorem sc_product_number:FnScope ["kind", "some", "others", "place", "start", "bound"] ["kind", "some", "others", "place"] (Zah ZbD):=⟨rfl,rfl,rfl,by decide +kernel,rfl,by decide +kernel,by decide +kernel⟩
theorem Zdy(h:Here K mg "product_number" ZbD) (T:Nm mg) (Tmax:mg "max" = none) (Tmin:mg "min" = none) (md:ZfM P w K mg base CF CR):Has P w K mg base "product_number" 4 ["kind", "some", "others", "place"] (ZbY CF CR):=by
  refine h.has (λf fd F=>F.binds λ_ _ _ _ _ _ us hl=>by obtain ⟨_,_,_,_,rfl⟩:=ZoD hl; exact rfl) λf fd F=>F.ok sc_product_number (λvs H Q E h=>?_) (λcdv A outer s H vs Q E hr h=>?_)
  · obtain ⟨_,_,_,_,_,_,_,_,_,_,_,rfl,_⟩:=h
    rfl
  obtain ⟨κ,sk,fa,ga,xs,ys,f,g,pl,M,N,rfl,hk,hF,aF,hG,aG,lp,l9,g9,qf,qg,hM,hN,k⟩:=h
  have nd:=sc_product_number.nd
  refine ⟨_,(Zac (Zal (i:=4) nd rfl (Or.inl rfl) (Zaj (Zd5 rfl) (by rfl) Tmax PyProof.Rows.Boot.max (Zaa Zad (Zaa (Zai ZaE (Zai Zbb (pv 3) (Zaj Zam (by rfl) T.len boot_len (Zaa (pv 2) Zab))) Zad) Zab))))
    (Zac (Zal (i:=5) nd rfl (Or.inl rfl) (Zaj (Zi7 rfl) (by rfl) Tmin PyProof.Rows.Boot.min (Zaa (Zai ZaE (pv 3) Zad) (Zaa (Zaj Zam (by rfl) T.len boot_len (Zaa (pv 1) Zab)) Zab))))
    (Zae (Zan (Zbw (pv 0) hr (Zaa (Za7 ZbQ (pv 1) (Zbo (pv 4)) (Zbo (pv 5))) (Zaa (Zbj ["each"] [(2, "others"),(3, "place")] rfl (Zi2 (by rfl) T.range (Zaa (pv 4) (Zaa (pv 5) Zab))) (by exact λ_ _ _ _=>(Zap (i:=0) (show (["each", "others", "place"]:List Str).Nodup by decide +kernel) rfl (Or.inl rfl))) (by exact λ_ _ _ _=>(Zao (ZhL K rfl) (pv 1) (Zai Zbb (pv 2) (pv 0)) (λ_ _=>rfl))) ⟨⟨rfl,rfl,Or.inl rfl⟩,⟨⟨rfl,rfl,Or.inl rfl⟩,trivial⟩⟩) Zab))))))),?_⟩
  have lx:=aF.1
  have ly:=aG.1
  refine ⟨_,rfl,_,rfl,ga,_,rfl,.inl (SqL.of hG),_,_,rfl,rfl,_,_,rfl,rfl,_,_,rfl,?_⟩
  obtain ⟨st,est,hst,hst2⟩:∃st:Nat,(if (pl:Int)-(ys.length:Int)+1>0 then (pl:Int)-(ys.length:Int)+1 else 0)=(st:Int)/\st<=pl+1/\(st=pl+1-g.length):=by
    refine ⟨pl+1-g.length,?_,by omega,rfl⟩
    split <;> omega
  show ZcO 4 (V.int (if (pl:Int)-(ys.length:Int)+1>0 then (pl:Int)-(ys.length:Int)+1 else 0)) _ H _
  rw[est]
  refine ⟨_,rfl,_,_,rfl,rfl,_,rfl,fa,_,rfl,.inl (SqL.of hF),_,_,rfl,?_⟩
  have eb:(if (xs.length:Int)<(pl:Int)+1 then (xs.length:Int) else (pl:Int)+1)=((pl+1:Nat):Int):=by split <;> omega
  show ZcO 5 (V.int (if (xs.length:Int)<(pl:Int)+1 then (xs.length:Int) else (pl:Int)+1)) _ H _
  rw[eb]
  obtain ⟨Cd,dxd,fsd,psd,dvd,spd,k1,k2,k3,k4,rfl,k5⟩:=md κ H sk hk
  refine ⟨_,rfl,sk,Cd,dxd,fsd,psd,_,spd,rfl,k1,k2,k3.mono (by decide),k4,_,rfl,_,rfl,_,rfl,_,rfl,_,rfl,fa,xs,rfl,SqL.of hF,λsl nsl=>?_⟩
  rw[ZkW xs hst (by omega)]
  have Ss:=Zag nsl (.lst ((xs.drop st).take (pl+1-st)))
  have qs:=Zaf (H:=H) (a:=sl) (o:=.lst ((xs.drop st).take (pl+1-st)))
  generalize upd H sl (.lst ((xs.drop st).take (pl+1-st)))=H1 at *
  refine ⟨_,rfl,_,rfl,_,_,rfl,⟨by omega,by omega,by omega,by omega⟩,?_⟩
  have en:((((pl+1:Nat):Int))-(st:Int)).toNat=pl+1-st:=by omega
  rw[en]
  refine Zbp (lo:=(st:Int)) (n:=pl+1-st) (λq zs H2=>H2=H1/\AllG (NR κ H1) zs ((List.range q).map λi=>g.getD (pl-(st+i)) 0)) (by omega) ⟨rfl,.nil⟩ ?_ ?_
  · rintro q zs H2 hq _ ⟨rfl,e⟩
    obtain ⟨v,hv,nv⟩:=Zbt aG (i:=pl-(st+q)) (by omega)
    refine ⟨_,rfl,_,rfl,_,rfl,_,_,rfl,rfl,ga,_,_,v,rfl,rfl,SqL.of (Ss _ _ hG),?_,rfl,?_⟩
    · rw[show (pl:Int)-((st:Int)+(q:Int))=((pl-(st+q):Nat):Int) by omega]
      exact ZaF hv
    · rw[List.range_succ,Qu]
      exact e.append (.one (nv.same Ss))
  rintro zs H2 _ ⟨rfl,e⟩ lz nlz
  have Sz:=Zag nlz (.lst zs)
  have qz:=Zaf (H:=H2) (a:=lz) (o:=.lst zs)
  generalize upd H2 lz (.lst zs)=H3 at *
  have S03:=Ss.trans Sz
  have lsl:((f.drop st).take (pl+1-st)).length=pl+1-st:=by rw[Q8,W0]; omega
  refine k5 H3 sl lz _ zs ((f.drop st).take (pl+1-st)) ((List.range (pl+1-st)).map λi=>g.getD (pl-(st+i)) 0) 1 1 M N _ S03 (Sz _ _ qs) qz (ZjZ (aF.mono λ_ _ n=>n.same S03)) (e.mono λ_ _ n=>n.same Sz) (by rw[lsl,Q1,W3]) (by omega) (λx hx=>qf x (List.mem_of_mem_drop (We hx))) (λx hx=>?_) (by decide) (by decide) (by decide) (by decide) hM hN λH4 v S4 nv=>?_
  · obtain ⟨i,hi,rfl⟩:=W4.mp hx
    by_cases q:pl-(st+i)<g.length
    · refine qg _ ?_
      rw[Q4,Q5 q]
      exact Wd _
    · rw[Zd1 (by omega)]; exact QN.zero
  · refine k H4 v (S03.trans S4) ?_
    have ev:ZiV ((f.drop st).take (pl+1-st)) ((List.range (pl+1-st)).map λi=>g.getD (pl-(st+i)) 0)=pN f g pl:=by
      unfold ZiV pN
      rw[lsl,Zhk,show pl+1=st+(pl+1-st) by omega,Zlx (λi=>f.getD i 0*g.getD (pl-i) 0) st (λi hi=>by rw[Zd1 (f:=g) (by omega)]; grind),show st+(pl+1-st)-st=pl+1-st by omega]
      refine Rg.Sg_congr λi hi=>?_
      have e1:((f.drop st).take (pl+1-st)).getD i 0=f.getD (st+i) 0:=by
        rw[Q4,W7,if_pos hi,Uf,<-Q4]
      have e2:((List.range (pl+1-st)).map λi=>g.getD (pl-(st+i)) 0).getD i 0=g.getD (pl-(st+i)) 0:=by
        rw[Q4,Qc,W8 hi]; rfl
      rw[e1,e2]
    rw[<-ev]
    exact nv
theorem ZgD:FnScope ["table", "place"] ["table", "place"] (Zah ZcR):=⟨rfl,rfl,rfl,by decide +kernel,rfl,by decide +kernel,by decide +kernel⟩
theorem Zhl(h:Here K mg "column_at" ZcR):Has P w K mg base "column_at" 1 ["table", "place"] Zez:=by
  refine h.has (λf fd F=>F.binds λ_ _ _ _ _ _ us hl=>by obtain ⟨_,_,rfl⟩:=Zdm hl; exact rfl) λf fd F=>F.ok ZgD (λvs H Q E h=>?_) (λcdv A outer s H vs Q E hr h=>?_)
  · obtain ⟨_,_,_,_,_,_,rfl,_⟩:=h
    rfl
  obtain ⟨κ,a,rs,R,m,j,rfl,hA,rx,wd,n9,jm,k⟩:=h
  refine ⟨_,(Zae (Zan (Zbj ["row"] [(1, "place")] rfl (ZaC (pv 0)) (by exact λ_ _ _ _=>(Zap (i:=0) (show (["row", "place"]:List Str).Nodup by decide +kernel) rfl (Or.inl rfl))) (by exact λ_ _ _ _=>(Zao (ZhL K rfl) (pv 0) (pv 1) (λ_ _=>rfl))) ⟨⟨rfl,rfl,Or.inl rfl⟩,trivial⟩))),?_⟩
  have lr:=rx.1
  refine ⟨_,rfl,a,rfl,⟨_,SqL.of hA⟩,?_⟩
  refine Za1 (K:=K) (a:=a) (xs:=rs.map V.ref) (λi ys H2=>H2=H/\AllG (NR κ H) ys ((R.take i).map λr=>r.getD j 0)) (by rw[Q1]; omega) ⟨rfl,.nil⟩ (λi ys H2 _ q=>by rw[q.1]; exact SqL.of hA) ?_ ?_
  · rintro i x ys H2 hx hl ⟨rfl,e⟩
    obtain ⟨b,hb,rfl⟩:=Zaz hx
    obtain ⟨f,hf⟩:=ZaG hb lr
    obtain ⟨zs,hz,al⟩:=rx.2 i b f hb hf
    obtain ⟨v,hv,nv⟩:=Zbt al (i:=j) (by rw[wd f (Qe hf)]; exact jm)
    refine ⟨_,rfl,_,rfl,b,_,_,v,rfl,rfl,SqL.of hz,ZaF hv,rfl,?_⟩
    rw[W9,hf,Qu]
    exact e.append (.one nv)
  · rintro ys H2 hl ⟨rfl,e⟩ D nD
    rw[Q1,lr,Wa] at e
    have SD:=Zag nD (.lst ys)
    exact k _ D ys SD nD Zaf (e.mono λ_ _ n=>n.same SD)
end
end My
namespace L2
open PySem PySem.Spec PyProof.Rows
section
variable{X:Cx}
theorem ZfR(K:PySem.W.Frag)(h:X.K=K):SlR X (Zpc K):=by subst h; exact ZbQ
end
end L2
namespace My
open PySem L2 PyProof.Rows
theorem Zh5{κ:KX}{A:List (List κ.F)}{s:Nat}(h:s<=A.length):A.take s=(List.range s).map λi=>A.getD i []:=by
  apply Ua
  intro i
  rw[W7,Qc]
  by_cases q:i<s
  · rw[if_pos q,W8 q]
    show A[i]?=some (A.getD i [])
    rw[Q4,Q5 (by omega)]
    rfl
  · rw[if_neg q,Qp (by rw[W3]; omega)]
    rfl
noncomputable def cvL{κ:KX}(a:Nat->Nat->κ.F)(s t:Nat):List κ.F:=(List.range s).map (Rg.cv a s (λi=>a i s) t)
theorem Zhm{κ:KX}(a:Nat->Nat->κ.F)(s t:Nat):(cvL a s t).length=s:=by unfold cvL; rw[Q1,W3]
theorem Zj0{κ:KX}{A:List (List κ.F)}{n s t i:Nat}(wd:Wid n A)(hs:s<=n)(hi:i<A.length):ZiV ((A.getD i []).take s) (cvL (ent A) s t)=Rg.Sg (λj=>ent A i j*Rg.cv (ent A) s (λi=>ent A i s) t j) s:=by
  have w:=wd.get hi
  have l:((A.getD i []).take s).length=s:=by rw[Q8]; omega
  unfold ZiV
  rw[l,Zhk]
  refine Rg.Sg_congr λj hj=>?_
  have e1:((A.getD i []).take s).getD j 0=ent A i j:=by
    unfold ent
    rw[Q4,W7,if_pos hj,<-Q4]
  have e2:(cvL (ent A) s t).getD j 0=Rg.cv (ent A) s (λi=>ent A i s) t j:=by
    unfold cvL
    rw[Q4,Qc,W8 hj]
    rfl
  rw[e1,e2]
theorem ZmG{κ:KX}{A:List (List κ.F)}{n s t:Nat}(wd:Wid n A)(hs:s<=n)(hn:A.length=n):((A.take s).map (List.take s)).map (λr=>ZiV r (cvL (ent A) s t))=cvL (ent A) s (t+1):=by
  rw[Zh5 (by omega),List.map_map,List.map_map]
  unfold cvL
  refine Uk λi hi=>?_
  have hi:=Wx.mp hi
  exact Zj0 wd hs (by omega)
theorem ZnS{κ:KX}{A:List (List κ.F)}{n s:Nat}(hs:s<=n)(hn:A.length=n):(A.take s).map (λr=>r.getD s 0)=cvL (ent A) s 0:=by
  rw[Zh5 (by omega),List.map_map]
  rfl
section
variable{P:Program}{w:World}{K:PySem.W.Frag}{mg:Str->Option Value}{base:Heap}{CF CR cN cF:Addr}
theorem sc_corner_numbers:FnScope ["kind", "table", "size", "row", "inner", "column", "falling", "turn"] ["kind", "table", "size"] (Zah ZbE):=⟨rfl,rfl,rfl,by decide +kernel,rfl,by decide +kernel,by decide +kernel⟩
theorem Zdz(h:Here K mg "corner_numbers" ZbE) (T:Nm mg) (mn:ZfI P w K mg base CF CR) (mm:ZnH P w K mg base CF CR) (md:ZfM P w K mg base CF CR) (h_column_at:Has P w K mg base "column_at" 4 ["table", "place"] Zez) (h_sums_with:Has P w K mg base "sums_with" 4 ["kind", "table", "column"] (Zgy CF CR)):Has P w K mg base "corner_numbers" 5 ["kind", "table", "size"] (ZgC CF CR):=by
  refine h.has (λf fd F=>F.binds λ_ _ _ _ _ _ us hl=>by obtain ⟨_,_,_,rfl⟩:=Zed hl; exact rfl) λf fd F=>F.ok sc_corner_numbers (λvs H Q E h=>?_) (λcdv A outer s H vs Q E hr h=>?_)
  · obtain ⟨_,_,_,_,_,_,_,rfl,_⟩:=h
    rfl
  obtain ⟨κ,sk,tb,rs,A,n,sz,rfl,hk,hT,rx,lA,wd,n5,hs,qA,k⟩:=h
  have nd:=sc_corner_numbers.nd
  refine ⟨_,(Zac (Zal (i:=3) nd rfl (Or.inl rfl) (Za7 ZbQ (Zao Zav (pv 1) (pv 2) (λ_ _=>rfl)) ZbJ (Zbo (pv 2))))
    (Zac (Zbc (i:=4) ["each"] [(2, "size")] nd rfl rfl rfl (ZaC (Za7 ZbQ (pv 1) ZbJ (Zbo (pv 2)))) (by exact λ_ _ _ _=>(Zap (i:=0) (show (["each", "size"]:List Str).Nodup by decide +kernel) rfl (Or.inl rfl))) (by exact λ_ _ _ _=>(Za7 (ZfR K rfl) (pv 0) ZbJ (Zbo (pv 1)))) ⟨⟨rfl,rfl,Or.inl rfl⟩,trivial⟩)
    (Zac (Zal (i:=5) nd rfl (Or.inl rfl) (Zak h_column_at hr (by rfl) (Zaa (Za7 ZbQ (pv 1) ZbJ (Zbo (pv 2))) (Zaa (pv 2) Zab))))
    (Zac (Zal (i:=6) nd rfl (Or.inl rfl) (ZaU (Zaa (Zb6 (pv 0) Zfo hr (Zaa Zad Zab)) (Zaa (Zbw (pv 0) hr (Zaa (Zb6 (pv 0) Zfo hr (Zaa Zad Zab)) (Zaa (Zao Zav (Zao Zav (pv 1) (pv 2) (λ_ _=>rfl)) (pv 2) (λ_ _=>rfl)) Zab))) Zab))))
    (Zac (ZaQ PassesOwn.never rfl (ZaB (by rfl) T.range (Zaa (pv 2) Zab)) (Zap (i:=7) nd rfl (Or.inl rfl)) (Zac (ZaZ (Zd9 PySem.F.plainAttrs_list PySem.F.slot_list_append PySem.F.type_list_append Za5 (pv 6) (Zaa (Zbw (pv 0) hr (Zaa (Zb6 (pv 0) Zfo hr (Zaa Zad Zab)) (Zaa (Zbw (pv 0) hr (Zaa (pv 3) (Zaa (pv 5) Zab))) Zab))) Zab)))
      (Zae (Zal (i:=5) nd rfl (Or.inl rfl) (Zak h_sums_with hr (by rfl) (Zaa (pv 0) (Zaa (pv 4) (Zaa (pv 5) Zab))))))))
    (Zae (Zan (pv 6)))))))),?_⟩
  have lr:=rx.1
  have qe:=λi j=>Zh4 qA i j
  obtain ⟨ra,xs,ga,hxs,al⟩:=rx.get (i:=sz) (by omega)
  have eR:A.getD sz []=A[sz]:=ZfG (Q5 (by omega))
  rw[<-eR] at al
  have lrow:=wd.get (i:=sz) (by omega)
  have lxs:xs.length=n:=by rw[al.1]; exact lrow
  refine ⟨_,rfl,_,rfl,tb,_,_,_,rfl,rfl,SqL.of hT,ZbG ga,_,rfl,_,rfl,ra,xs,rfl,SqL.of hxs,λrw_ nrw=>?_⟩
  rw[show ZeK xs none (some (sz:Int))=xs.take sz from Zda xs sz]
  have Sr:=Zag nrw (.lst (xs.take sz))
  have qr:=Zaf (H:=H) (a:=rw_) (o:=.lst (xs.take sz))
  generalize upd H rw_ (.lst (xs.take sz))=H1 at *
  refine ⟨_,rfl,_,rfl,_,rfl,tb,_,rfl,SqL.of (Sr _ _ hT),λsl nsl=>?_⟩
  have ecut:ZeK (rs.map V.ref) none (some (sz:Int))=(rs.take sz).map V.ref:=by rw[List.map_take]; exact Zda _ sz
  rw[ecut]
  have Ssl:=Zag nsl (.lst ((rs.take sz).map V.ref))
  have qsl:=Zaf (H:=H1) (a:=sl) (o:=.lst ((rs.take sz).map V.ref))
  generalize upd H1 sl (.lst ((rs.take sz).map V.ref))=H2 at *
  have S02:=Sr.trans Ssl
  have lrt:(rs.take sz).length=sz:=by rw[Q8]; omega
  refine ⟨sl,rfl,⟨_,SqL.of qsl⟩,?_⟩
  refine Za1 (K:=K) (a:=sl) (xs:=(rs.take sz).map V.ref) (λi ys H3=>∃cs:List Addr,ys=cs.map V.ref/\Same H2 H3/\RowsX κ H3 cs ((A.take i).map (List.take sz))) (by rw[Q1]; omega) ⟨[],rfl,Same.refl _,by rw[List.take_zero]; exact .nil⟩ (λi ys H3 _ ⟨as,_,S,_⟩=>SqL.of (S _ _ qsl)) ?_ ?_
  · rintro i x ys H3 hx hl ⟨cs,rfl,S3,rc⟩
    obtain ⟨b,hb,rfl⟩:=Zaz hx
    have hi:i<sz:=by have:=(Qi.mp hb).1; omega
    rw[W7,if_pos hi] at hb
    obtain ⟨f,hf⟩:=ZaG hb lr
    obtain ⟨zs,hz,alz⟩:=rx.2 i b f hb hf
    refine ⟨_,rfl,_,rfl,_,rfl,b,zs,rfl,SqL.of (S3 _ _ (S02 _ _ hz)),λl nl=>?_⟩
    rw[show ZeK zs none (some (sz:Int))=zs.take sz from Zda zs sz]
    have Sl:=Zag nl (.lst (zs.take sz))
    refine ⟨cs++[l],by rw[Qu]; rfl,S3.trans Sl,?_⟩
    rw[W9,hf,Qu]
    exact (rc.same Sl).snoc Zaf (ZcC (alz.mono λ_ _ n=>n.same (S02.trans (S3.trans Sl))) sz)
  rintro ys H3 hl ⟨is,rfl,S3,rc⟩ inr ninr
  rw[Q1,lrt] at rc
  have Si:=Zag ninr (.lst (is.map V.ref))
  have qi:=Zaf (H:=H3) (a:=inr) (o:=.lst (is.map V.ref))
  generalize upd H3 inr (.lst (is.map V.ref))=H4 at *
  have S04:=S02.trans (S3.trans Si)
  have rI:=rc.same Si
  refine ⟨_,rfl,_,rfl,_,rfl,tb,_,rfl,SqL.of (S04 _ _ hT),λs2 ns2=>?_⟩
  rw[ecut]
  have S2:=Zag ns2 (.lst ((rs.take sz).map V.ref))
  have q2:=Zaf (H:=H4) (a:=s2) (o:=.lst ((rs.take sz).map V.ref))
  generalize upd H4 s2 (.lst ((rs.take sz).map V.ref))=H5 at *
  have S05:=S04.trans S2
  have rT:RowsX κ H5 (rs.take sz) (A.take sz):=by
    have r5:=rx.same S05
    refine ⟨by rw[Q8,Q8,r5.1],λi a f ha hf=>?_⟩
    rw[W7] at ha hf
    by_cases q:i<sz
    · rw[if_pos q] at ha hf; exact r5.2 i a f ha hf
    · rw[if_neg q] at ha; cases ha
  refine ⟨_,rfl,κ,s2,rs.take sz,A.take sz,n,sz,rfl,q2,rT,(λf hf=>wd f (We hf)),by rw[Q8]; omega,hs,λH6 col cs S6 ncol hcol acol=>?_⟩
  rw[ZnS (by omega) lA] at acol
  have S06:=S05.trans S6
  obtain ⟨C,dx,fs,ps,dvs,sp,c1,c2,c3,c4,rfl,c5⟩:=mn κ H6 sk (hk.same S06)
  refine ⟨_,rfl,sk,C,dx,fs,ps,_,sp,rfl,c1,c2,c3.mono (by decide),c4,c5 H6 1 1 _ _ (Same.refl _) Zdb λv1 H7 S7 n1=>?_⟩
  have S07:=S06.trans S7
  obtain ⟨Cm,dxm,fsm,psm,dvm,spm,m1,m2,m3,m4,rfl,m5⟩:=mm κ H7 sk (hk.same S07)
  obtain ⟨C',dx',fs',ps',dvs',sp',d1,d2,d3,d4,rfl,d5⟩:=mn κ H7 sk (hk.same S07)
  obtain ⟨ve,hve,nve⟩:=Zbt al (i:=sz) (by omega)
  refine ⟨_,rfl,sk,Cm,dxm,fsm,psm,_,spm,rfl,m1,m2,m3.mono (by decide),m4,_,rfl,sk,C',dx',fs',ps',_,sp',rfl,d1,d2,d3.mono (by decide),d4,d5 H7 0 0 _ _ (Same.refl _) ZjI λv0 H8 S8 n0=>?_⟩
  have S08:=S07.trans S8
  refine ⟨_,rfl,_,rfl,tb,_,_,_,rfl,rfl,SqL.of (S08 _ _ hT),ZbG ga,_,rfl,ra,_,_,ve,rfl,rfl,SqL.of (S08 _ _ hxs),ZaF hve,?_⟩
  refine m5 H8 v0 ve 0 _ _ S8 n0 (nve.same S08) (ZgB (M:=1) QN.zero (by decide)) (ZgB (qe sz sz) (by decide)) λv2 H9 S9 n2=>?_
  refine ⟨(by show 2<=sizeLine; decide),λfl nfl=>?_⟩
  have S69:=S7.trans (S8.trans S9)
  have S09:=S06.trans S69
  have Sf:=Zag nfl (.lst [v1,v2])
  have qf:=Zaf (H:=H9) (a:=fl) (o:=.lst [v1,v2])
  have af:AllG (NR κ (upd H9 fl (.lst [v1,v2]))) [v1,v2] (coL (Rg.cn (ent A) sz) (0+2)):=by
    have a2:AllG (NR κ (upd H9 fl (.lst [v1,v2]))) ([v1]++[v2]) ([(1:κ.F)]++[0-ent A sz sz]):=(AllG.one (((n1.same S8).same S9).same Sf)).append (.one (n2.same Sf))
    exact a2
  generalize upd H9 fl (.lst [v1,v2])=Ha at *
  refine ⟨_,rfl,(sz:Int),rfl,by omega,by omega,?_⟩
  rw[Qx]
  have hR9:H9 rw_=some (.lst (xs.take sz)):=S69 _ _ (S6 _ _ (S2 _ _ (Si _ _ (S3 _ _ (Ssl _ _ qr)))))
  have hI9:H9 inr=some (.lst (is.map V.ref)):=S69 _ _ (S6 _ _ (S2 _ _ qi))
  have rI9:RowsX κ H9 is ((A.take sz).map (List.take sz)):=((rI.same S2).same S6).same S69
  have aR9:AllG (NR κ H9) (xs.take sz) ((A.getD sz []).take sz):=ZcC (al.mono λ_ _ n=>n.same S09) sz
  have ncf:col≠fl:=λz=>by rw[z] at hcol; rw[S69 _ _ hcol] at nfl; cases nfl
  refine ZaT (lo:=0) (n:=sz) (λt σ Hb=>∃(z7:Option V) (col:Addr) (cs ys:List V),σ=[some (.ref sk),some (.ref tb),some (.int (sz:Int)),some (.ref rw_),some (.ref inr),some (.ref col),some (.ref fl),z7]/\Same H9 Hb/\Hb fl=some (.lst ys)/\AllG (NR κ Hb) ys (coL (Rg.cn (ent A) sz) (t+2))/\Hb col=some (.lst cs)/\AllG (NR κ Hb) cs (cvL (ent A) sz t)/\col≠fl) ⟨_,col,cs,_,rfl,Sf,qf,af,Sf _ _ (S69 _ _ hcol),acol.mono (λ_ _ n=>(n.same S69).same Sf),ncf⟩ ?_ ?_
  · rintro t σ Hb ht ⟨z7,col,cs,ys,rfl,Sb,hfl,afl,hcl,acl,ne⟩
    have S0b:=S09.trans Sb
    have lfl:ys.length=t+2:=by rw[afl.1,Zba]
    obtain ⟨Cm,dxm,fsm,psm,dvm,spm,m1,m2,m3,m4,rfl,m5⟩:=mm κ Hb sk (hk.same S0b)
    obtain ⟨C',dx',fs',ps',dvs',sp',d1,d2,d3,d4,rfl,d5⟩:=mn κ Hb sk (hk.same S0b)
    refine ⟨_,rfl,.inl ⟨rfl,_,SqL.of hfl⟩,_,rfl,sk,Cm,dxm,fsm,psm,_,spm,rfl,m1,m2,m3.mono (by decide),m4,_,rfl,sk,C',dx',fs',ps',_,sp',rfl,d1,d2,d3.mono (by decide),d4,d5 Hb 0 0 _ _ (Same.refl _) ZjI λv0 Hc Sc n0=>?_⟩
    obtain ⟨Cd,dxd,fsd,psd,dvd,spd,k1,k2,k3,k4,rfl,k5⟩:=md κ Hc sk (hk.same (S0b.trans Sc))
    have S9c:=Sb.trans Sc
    have l1:((A.getD sz []).take sz).length=sz:=by rw[Q8]; omega
    refine ⟨_,rfl,sk,Cd,dxd,fsd,psd,_,spd,rfl,k1,k2,k3.mono (by decide),k4,_,rfl,_,rfl,?_⟩
    refine k5 Hc rw_ col _ cs ((A.getD sz []).take sz) (cvL (ent A) sz t) 1 1 EE (GG^t*EE) _ (Same.refl _) (S9c _ _ hR9) (Sc _ _ hcl) (aR9.mono λ_ _ n=>n.same S9c) (acl.mono λ_ _ n=>n.same Sc) (by rw[l1,Zhm]) (by omega) (λx hx=>qA.getD sz x (We hx)) (λx hx=>?_) (by decide) (by decide) (by decide) (by decide) (by decide) (gg4 (by omega)) λHd vd Sd nvd=>?_
    · obtain ⟨i,_,rfl⟩:=W4.mp hx
      exact ZkV qe (by omega) t i
    rw[Zj0 wd (by omega) (by omega)] at nvd
    refine m5 Hd v0 vd 0 _ _ (Sc.trans Sd) (n0.same Sd) nvd (ZgB (M:=1) QN.zero (by decide)) (ZgB (Zly qe (by omega) t) (gg5 (by omega))) λv9 He Se n9=>?_
    rw[<-Zlz] at n9
    have Sbe:=Sc.trans (Sd.trans Se)
    have hfe:=Sbe _ _ hfl
    refine ⟨fl,_,_,rfl,rfl,hfe,Q6 (show ys.length<1000 by omega) (by decide),?_⟩
    have Of:Off [fl] He (upd He fl (.lst (ys++[v9]))):=Za9 (Same.refl He)
    have afl2:AllG (NR κ (upd He fl (.lst (ys++[v9])))) (ys++[v9]) (coL (Rg.cn (ent A) sz) (t+1+2)):=by
      rw[show t+1+2=(t+2)+1 by omega,ZfQ]
      exact (afl.mono λ_ _ n=>(n.same Sbe).off hfe Of).append (.one (n9.off hfe Of))
    have S9f:Same H9 (upd He fl (.lst (ys++[v9]))):=Off.same Of (Sb.trans Sbe) (λz hz=>by rw[Q3.mp hz]; exact nfl)
    have hf2:=Zaf (H:=He) (a:=fl) (o:=.lst (ys++[v9]))
    have hcl2:upd He fl (.lst (ys++[v9])) col=some (.lst cs):=by rw[Zau ne]; exact Sbe _ _ hcl
    have acl2:AllG (NR κ (upd He fl (.lst (ys++[v9])))) cs (cvL (ent A) sz t):=acl.mono λ_ _ n=>(n.same Sbe).off hfe Of
    generalize upd He fl (.lst (ys++[v9]))=Hf at *
    refine ⟨_,rfl,_,rfl,_,rfl,κ,sk,inr,col,is,(A.take sz).map (List.take sz),cs,cvL (ent A) sz t,1,1,EE,GG^t*EE,rfl,hk.same (S09.trans S9f),S9f _ _ hI9,rI9.same S9f,(λf hf=>?_),by rw[Q1,Q8]; omega,by rw[Zhm]; omega,hcl2,acl2,(λf hf x hx=>?_),(λx hx=>?_),by decide,by decide,by decide,by decide,by decide,gg4 (by omega),λHg D zs Sg nD hD aD=>?_⟩
    · obtain ⟨g,hg,rfl⟩:=W4.mp hf
      have:=wd g (We hg)
      rw[Q8,Zhm]; omega
    · obtain ⟨g,hg,rfl⟩:=W4.mp hf
      exact qA g (We hg) x (We hx)
    · obtain ⟨i,_,rfl⟩:=W4.mp hx
      exact ZkV qe (by omega) t i
    rw[ZmG wd (by omega) lA] at aD
    exact ⟨_,D,zs,_,rfl,S9f.trans Sg,Sg _ _ hf2,afl2.mono (λ_ _ n=>n.same Sg),hD,aD,λz=>by rw[z,hf2] at nD; cases nD⟩
  · rintro σ Hb ⟨z7,col,cs,ys,rfl,Sb,hfl,afl,-⟩
    exact ⟨_,rfl,k Hb fl ys (S09.trans Sb) hfl afl⟩
theorem sc_falling_numbers:FnScope ["kind", "table", "numbers", "size", "corner"] ["kind", "table"] (Zah Zbs):=⟨rfl,rfl,rfl,by decide +kernel,rfl,by decide +kernel,by decide +kernel⟩
theorem Zdi(h:Here K mg "falling_numbers" Zbs) (T:Nm mg) (mn:ZfI P w K mg base CF CR) (h_corner_numbers:Has P w K mg base "corner_numbers" 5 ["kind", "table", "size"] (ZgC CF CR)) (h_product_number:Has P w K mg base "product_number" 5 ["kind", "some", "others", "place"] (ZbY CF CR)):Has P w K mg base "falling_numbers" 6 ["kind", "table"] (Zff CF CR):=by
  refine h.has (λf fd F=>F.binds λ_ _ _ _ _ _ us hl=>by obtain ⟨_,_,rfl⟩:=Zdm hl; exact rfl) λf fd F=>F.ok sc_falling_numbers (λvs H Q E h=>?_) (λcdv A outer s H vs Q E hr h=>?_)
  · obtain ⟨_,_,_,_,_,_,rfl,_⟩:=h
    rfl
  obtain ⟨κ,sk,tb,rs,A,n,rfl,hk,hT,rx,lA,wd,n5,qA,k⟩:=h
  have nd:=sc_falling_numbers.nd
  refine ⟨_,(Zac (Zal (i:=2) nd rfl (Or.inr rfl) (ZaU (Zaa (Zb6 (pv 0) Zfo hr (Zaa Zad Zab)) Zab)))
    (Zac (ZaQ PassesOwn.never rfl (ZaB (by rfl) T.range (Zaa (Zaj Zam (by rfl) T.len boot_len (Zaa (pv 1) Zab)) Zab)) (Zap (i:=3) nd rfl (Or.inl rfl)) (Zac (Zal (i:=4) nd rfl (Or.inr rfl) (Zak h_corner_numbers hr (by rfl) (Zaa (pv 0) (Zaa (pv 1) (Zaa (pv 3) Zab)))))
      (Zae (Zal (i:=2) nd rfl (Or.inr rfl) (Zbj ["place"] [(0, "kind"),(4, "corner"),(2, "numbers")] rfl (ZaB (by rfl) T.range (Zaa (Zai ZaE (pv 3) Zad) Zab)) (by exact λ_ _ _ _=>(Zap (i:=0) (show (["place", "kind", "corner", "numbers"]:List Str).Nodup by decide +kernel) rfl (Or.inl rfl))) (by exact λ_ _ _ _=>(Zak h_product_number hr (by rfl) (Zaa (pv 1) (Zaa (pv 2) (Zaa (pv 3) (Zaa (pv 0) Zab)))))) ⟨⟨rfl,rfl,Or.inl rfl⟩,⟨⟨rfl,rfl,Or.inl rfl⟩,⟨⟨rfl,rfl,Or.inl rfl⟩,trivial⟩⟩⟩)))))
    (Zae (Zan (pv 2))))),?_⟩
  have lr:=rx.1
  have qe:=λi j=>Zh4 qA i j
  obtain ⟨C,dx,fs,ps,dvs,sp,c1,c2,c3,c4,rfl,c5⟩:=mn κ H sk hk
  refine ⟨_,rfl,sk,C,dx,fs,ps,_,sp,rfl,c1,c2,c3.mono (by decide),c4,c5 H 1 1 _ _ (Same.refl _) Zdb λv1 H1 S1 n1=>?_⟩
  refine ⟨(by show 1<=sizeLine; decide),λnl nnl=>?_⟩
  have Sn:=Zag nnl (.lst [v1])
  have qn:=Zaf (H:=H1) (a:=nl) (o:=.lst [v1])
  have an:AllG (NR κ (upd H1 nl (.lst [v1]))) [v1] (coL (Rg.qz 0 (ent A)) (0+1)):=AllG.one (n1.same Sn)
  generalize upd H1 nl (.lst [v1])=H2 at *
  have S02:=S1.trans Sn
  refine ⟨_,rfl,tb,_,rfl,.inl (SqL.of (S02 _ _ hT)),(n:Int),?_,by omega,by omega,?_⟩
  · rw[Q1,lr,lA]
  rw[Qx]
  refine ZaT (lo:=0) (n:=n) (λt σ Hb=>∃(z3 z4:Option V) (nl:Addr) (ys:List V),σ=[some (.ref sk),some (.ref tb),some (.ref nl),z3,z4]/\Same H Hb/\Hb nl=some (.lst ys)/\AllG (NR κ Hb) ys (coL (Rg.qz t (ent A)) (t+1))) ⟨_,_,nl,_,rfl,S02,qn,an⟩ ?_ ?_
  · rintro t σ Hb ht ⟨z3,z4,nl,ys,rfl,Sb,hnl,anl⟩
    refine ⟨_,rfl,_,rfl,_,rfl,κ,sk,tb,rs,A,n,t,(by rw[Qm]; rfl),hk.same Sb,Sb _ _ hT,rx.same Sb,lA,wd,n5,ht,qA,λHc D zs Sc hD aD=>?_⟩
    have S0c:=Sb.trans Sc
    refine ⟨_,rfl,_,_,rfl,rfl,((t+2:Nat):Int),?_,by omega,by omega,?_⟩
    · rw[Qm]; rfl
    rw[Qx]
    have e1:∀x∈coL (Rg.cn (ent A) t) (t+2),QN κ 1 (GG^7) x:=λx hx=>by
      obtain ⟨i,hi,rfl⟩:=ZjY hx
      exact (ZnR qe (by omega) i).mono (Ql (by decide) (by omega))
    have e2:∀x∈coL (Rg.qz t (ent A)) (t+1),QN κ 1 (8^t*GG^7) x:=λx hx=>by
      obtain ⟨i,hi,rfl⟩:=ZjY hx
      exact (ZmF qe t (by omega) i).mono (Wp _ (Ql (by decide) (by omega)))
    refine Zbp (lo:=0) (n:=t+2) (λq ws H2=>Same Hc H2/\AllG (NR κ H2) ws (coL (Rg.qz (t+1) (ent A)) q)) (by omega) ⟨Same.refl _,.nil⟩ ?_ ?_
    · rintro q ws Hd hq _ ⟨Sd,aw⟩
      refine ⟨_,rfl,_,rfl,_,rfl,_,rfl,κ,sk,D,nl,zs,ys,_,_,q,GG^7,8^t*GG^7,(by rw[Qm]; rfl),hk.same (S0c.trans Sd),Sd _ _ hD,aD.mono (λ_ _ n=>n.same Sd),Sd _ _ (Sc _ _ hnl),anl.mono (λ_ _ n=>(n.same Sc).same Sd),by rw[Zba]; omega,by rw[Zba]; omega,by rw[Zba]; omega,e1,e2,gg5 (by decide),qz5 (by omega) (by decide),λHe v Se nv=>⟨Sd.trans Se,?_⟩⟩
      rw[ZnQ hq] at nv
      rw[ZfQ]
      exact (aw.mono λ_ _ n=>n.same Se).append (.one nv)
    · rintro ws Hd _ ⟨Sd,aw⟩ nl2 nnl2
      have S2:=Zag nnl2 (.lst ws)
      exact ⟨_,_,nl2,ws,rfl,S0c.trans (Sd.trans S2),Zaf,aw.mono λ_ _ n=>n.same S2⟩
  · rintro σ Hb ⟨z3,z4,nl,ys,rfl,Sb,hnl,anl⟩
    exact ⟨_,rfl,k Hb nl ys Sb hnl anl⟩
end
end My
namespace My.Rg
open PySem L2 PyProof.Rows
section
variable{α:Type}[Lean.Grind.CommRing α]
theorem skS(j t:Nat):skip (j+1) (t+1)=skip j t+1:=by
  by_cases h:t<j
  · rw[Zdx h,Zdx (by omega)]
  · rw[Zcv (by omega),Zcv (by omega)]
theorem skZ(j:Nat):skip (j+1) 0=0:=Zdx (by omega)
theorem Zhn:∀ {n:Nat} {a:Nat->Nat->α},det (n+1) a=Sg (λi=>sgn α i*a i 0*det n λt k=>a (skip i t) (k+1)) (n+1)
  | 0,a=>by
    show (0:α)+sgn α 0*a 0 0*1=0+sgn α 0*a 0 0*1
    rfl
  | n+1,a=>by
    show Sg (λj=>sgn α j*a 0 j*det (n+1) (λi k=>a (i+1) (skip j k))) (n+1+1)=_
    rw[Sg_shift,Sg_shift (λi=>sgn α i*a i 0*det (n+1) λt k=>a (skip i t) (k+1))]
    have z:det (n+1) (λi k=>a (i+1) (skip 0 k))=det (n+1) λt k=>a (skip 0 t) (k+1):=det_congr λi k _ _=>by rw[Zcv (Qb k),Zcv (Qb i)]
    rw[z]
    congr 1
    have l:∀j,sgn α (j+1)*a 0 (j+1)*det (n+1) (λi k=>a (i+1) (skip (j+1) k))=Sg (λi=>sgn α (j+1)*a 0 (j+1)*(sgn α i*a (i+1) 0*det n λt k=>a (skip i t+1) (skip j k+1))) (n+1):=λj=>by
      rw[<-Sg_mul,Zhn (n:=n) (a:=λi k=>a (i+1) (skip (j+1) k))]
      congr 1
      refine Sg_congr λi _=>?_
      rw[skZ]
      congr 1
      exact det_congr λt k _ _=>by rw[skS]
    have r:∀i,sgn α (i+1)*a (i+1) 0*det (n+1) (λt k=>a (skip (i+1) t) (k+1))=Sg (λj=>sgn α (i+1)*a (i+1) 0*(sgn α j*a 0 (j+1)*det n λt k=>a (skip i t+1) (skip j k+1))) (n+1):=λi=>by
      rw[<-Sg_mul]
      congr 1
      show Sg _ (n+1)=_
      refine Sg_congr λj _=>?_
      show sgn α j*a (skip (i+1) 0) (j+1)*det n (λt k=>a (skip (i+1) (t+1)) (skip j k+1))=_
      rw[skZ]
      congr 1
      exact det_congr λt k _ _=>by rw[skS]
    rw[Sg_congr (λj _=>l j),Sg_congr (λi _=>r i),Zhe]
    refine Sg_congr λi _=>Sg_congr λj _=>?_
    generalize (det n λt k=>a (skip i t+1) (skip j k+1))=x
    show (0-sgn α j)*a 0 (j+1)*(sgn α i*a (i+1) 0*x)=(0-sgn α i)*a (i+1) 0*(sgn α j*a 0 (j+1)*x)
    grind
theorem Zbu:∀ {n:Nat} {a:Nat->Nat->α},det n (λi j=>a j i)=det n a
  | 0,_=>rfl
  | n+1,a=>by
    rw[Zhn (a:=a)]
    show Sg (λj=>sgn α j*a j 0*det n (λi k=>a (skip j k) (i+1))) (n+1)=_
    exact Sg_congr λj _=>by rw[Zbu (n:=n) (a:=λi k=>a (skip j i) (k+1))]
theorem Zj1{n:Nat}{a:Nat->Nat->α}{r s:Nat}(hr:r<n)(hs:s<n)(ne:r≠s):det n (ZaM (ZaM a r (a s)) s (a r))=0-det n a:=by
  have z:∀x:Nat->α,det n (ZaM (ZaM a r x) s x)=0:=λx=>ZhZ hr hs ne λj=>by
    unfold ZaM
    rw[if_neg ne,if_pos rfl,if_pos rfl]
  have c:∀x y:Nat->α,ZaM (ZaM a r x) s y=ZaM (ZaM a s y) r x:=λx y=>by
    funext i j
    unfold ZaM
    by_cases e1:i=s
    · rw[if_pos e1,if_neg (by omega),if_pos e1]
    · by_cases e2:i=r
      · rw[if_neg e1,if_pos e2,if_pos e2]
      · rw[if_neg e1,if_neg e2,if_neg e2,if_neg e1]
  have h0:=z λj=>a r j+a s j
  rw[ZcE _ _ hs,c,c,ZcE _ _ hr,ZcE _ _ hr,<-c,<-c,<-c,<-c] at h0
  have z1:=z λj=>a r j
  have z2:=z λj=>a s j
  have st:ZaM (ZaM a r λj=>a r j) s (λj=>a s j)=a:=by
    have e1:ZaM a r (λj=>a r j)=a:=ZbL a r
    rw[e1]
    exact ZbL a s
  rw[z1,z2,st] at h0
  have t:det n (ZaM (ZaM a r λj=>a s j) s λj=>a r j)=det n (ZaM (ZaM a r (a s)) s (a r)):=rfl
  rw[t] at h0
  generalize det n (ZaM (ZaM a r (a s)) s (a r))=u at *
  generalize det n a=v at *
  grind
end
end My.Rg
namespace My.Rg
open PySem L2 PyProof.Rows
section
variable{α:Type}[Lean.Grind.CommRing α]
theorem ZkX{n:Nat}{a:Nat->Nat->α}{r s:Nat}(c:α)(hr:r<n)(hs:s<n)(ne:r≠s):det n (λi k=>if k=r then a i r+c*a i s else a i k)=det n a:=by
  rw[<-Zbu,<-Zbu (a:=a),<-Zd0 (a:=λi j=>a j i) c hr hs ne]
  exact det_congr λi j _ _=>rfl
theorem ZkY{n:Nat}{a:Nat->Nat->α}{r:Nat}(c:α)(hr:r<n):det n (λi k=>if k=r then c*a i r else a i k)=c*det n a:=by
  rw[<-Zbu,<-Zbu (a:=a),<-Zh0 (a:=λi j=>a j i) c hr]
  exact det_congr λi j _ _=>rfl
def sw(i j k:Nat):Nat:=if k=j then i else if k=i then j else k
theorem ZlA(a:Nat->Nat->α)(i j:Nat):ZaM (ZaM a i (a j)) j (a i)=λr k=>a (sw i j r) k:=by
  funext r k
  unfold ZaM sw
  by_cases h1:r=j
  · rw[if_pos h1,if_pos h1]
  · rw[if_neg h1,if_neg h1]
    by_cases h2:r=i
    · rw[if_pos h2,if_pos h2]
    · rw[if_neg h2,if_neg h2]
theorem ZmH{n:Nat}{a:Nat->Nat->α}{i j:Nat}(hi:i<n)(hj:j<n)(ne:i≠j):det n (λr k=>a (sw i j r) (sw i j k))=det n a:=by
  have e1:=Zj1 (a:=λr k=>a r (sw i j k)) hi hj ne
  rw[ZlA] at e1
  have e2:=Zj1 (a:=λk r=>a r k) hi hj ne
  rw[ZlA,Zbu (a:=a)] at e2
  have e3:det n (λr k=>a r (sw i j k))=0-det n a:=by rw[<-e2,<-Zbu]
  rw[e3] at e1
  rw[show det n (λr k=>a (sw i j r) (sw i j k))=0-(0-det n a) from e1]
  grind
def opA(c:α)(i j:Nat)(a:Nat->Nat->α):Nat->Nat->α:=λr k =>
  let b:Nat->Nat->α:=λr k=>if r=i then a i k+c*a j k else a r k
  if k=j then b r j+(0-c)*b r i else b r k
def opS(c d:α)(i:Nat)(a:Nat->Nat->α):Nat->Nat->α:=λr k =>
  let b:Nat->Nat->α:=λr k=>if r=i then c*a i k else a r k
  if k=i then d*b r i else b r k
def opW(i j:Nat)(a:Nat->Nat->α):Nat->Nat->α:=λr k=>a (sw i j r) (sw i j k)
theorem ZmI{n:Nat}{a:Nat->Nat->α}{i j:Nat}(c:α)(hi:i<n)(hj:j<n)(ne:i≠j):det n (opA c i j a)=det n a:=by
  rw[<-Zd0 (a:=a) c hi hj ne]
  exact ZkX (a:=ZaM a i λk=>a i k+c*a j k) (0-c) hj hi λz=>ne z.symm
theorem ZmJ{n:Nat}{a:Nat->Nat->α}{i:Nat}{c d:α}(hi:i<n)(e:c*d=1):det n (opS c d i a)=det n a:=by
  have h:=ZkY (a:=ZaM a i λk=>c*a i k) d hi
  rw[Zh0 c hi] at h
  rw[show det n (opS c d i a)=d*(c*det n a) from h]
  grind
theorem lin_add(x y u v:α):lin x y+lin u v=lin (x+u) (y+v):=Ps.ext λn=>by
  rw[Ps.c_add]
  show (if n=0 then x else if n=1 then y else 0)+(if n=0 then u else if n=1 then v else 0)=(if n=0 then x+u else if n=1 then y+v else 0)
  split
  · rfl
  · split
    · rfl
    · grind
theorem Zce(c x y:α):Ps.con c*lin x y=lin (c*x) (c*y):=Ps.ext λn=>by
  show (Ps.mul (Ps.con c) (lin x y)).c n=_
  rw[Ps.con_mul]
  show c*(if n=0 then x else if n=1 then y else 0)=(if n=0 then c*x else if n=1 then c*y else 0)
  split
  · rfl
  · split
    · rfl
    · grind
theorem ZkZ(c:α):0-Ps.con c=Ps.con (0-c):=Ps.ext λn=>by
  rw[Ps.c_sub,Ps.c_zero]
  show 0-(if n=0 then c else 0)=if n=0 then 0-c else 0
  split <;> grind
theorem Zk0{c d:α}(e:c*d=1):Ps.con c*Ps.con d=1:=Ps.ext λn=>by
  show (Ps.mul (Ps.con c) (Ps.con d)).c n=_
  rw[Ps.con_mul,Ps.c_one]
  show c*(if n=0 then d else 0)=_
  split
  · exact e
  · grind
def xa(a:Nat->Nat->α):Nat->Nat->Ps α:=λi j=>lin (0-a i j) (if i=j then 1 else 0)
def chi(n:Nat)(a:Nat->Nat->α):Ps α:=det n (xa a)
theorem ZmK(c:α)(i j:Nat)(x y:Nat->Nat->α):opA (Ps.con c) i j (λr k=>lin (x r k) (y r k))=λr k=>lin (opA c i j x r k) (opA c i j y r k):=by
  funext r k
  unfold opA
  dsimp only
  by_cases h1:k=j
  · rw[if_pos h1,if_pos h1,if_pos h1,ZkZ]
    by_cases h2:r=i
    · rw[if_pos h2,if_pos h2,if_pos h2,if_pos h2,if_pos h2,if_pos h2,Zce,Zce,lin_add,lin_add,Zce,lin_add]
    · rw[if_neg h2,if_neg h2,if_neg h2,if_neg h2,if_neg h2,if_neg h2,Zce,lin_add]
  · rw[if_neg h1,if_neg h1,if_neg h1]
    by_cases h2:r=i
    · rw[if_pos h2,if_pos h2,if_pos h2,Zce,lin_add]
    · rw[if_neg h2,if_neg h2,if_neg h2]
theorem ZmL(c d:α)(i:Nat)(x y:Nat->Nat->α):opS (Ps.con c) (Ps.con d) i (λr k=>lin (x r k) (y r k))=λr k=>lin (opS c d i x r k) (opS c d i y r k):=by
  funext r k
  unfold opS
  dsimp only
  by_cases h1:k=i
  · rw[if_pos h1,if_pos h1,if_pos h1]
    by_cases h2:r=i
    · rw[if_pos h2,if_pos h2,if_pos h2,Zce,Zce]
    · rw[if_neg h2,if_neg h2,if_neg h2,Zce]
  · rw[if_neg h1,if_neg h1,if_neg h1]
    by_cases h2:r=i
    · rw[if_pos h2,if_pos h2,if_pos h2,Zce]
    · rw[if_neg h2,if_neg h2,if_neg h2]
theorem ZmM(c:α)(i j:Nat)(a:Nat->Nat->α)(r k:Nat):opA c i j (λr k=>0-a r k) r k=0-opA c i j a r k:=by
  unfold opA
  dsimp only
  split <;> split <;> grind
theorem ZmN(c d:α)(i:Nat)(a:Nat->Nat->α)(r k:Nat):opS c d i (λr k=>0-a r k) r k=0-opS c d i a r k:=by
  unfold opS
  dsimp only
  split <;> split <;> grind
def dl(α:Type)[Lean.Grind.CommRing α](r k:Nat):α:=if r=k then 1 else 0
theorem ZnT(c:α){i j:Nat}(ne:i≠j)(r k:Nat):opA c i j (dl α) r k=dl α r k:=by
  unfold opA dl
  dsimp only
  by_cases h1:k=j
  · subst h1
    by_cases h2:r=i
    · subst h2
      rw[if_pos rfl,if_pos rfl,if_pos rfl,if_pos rfl,if_pos rfl,if_neg ne,if_neg (λz=>ne z.symm)]
      grind
    · rw[if_pos rfl,if_neg h2,if_neg h2,if_neg h2]
      grind
  · rw[if_neg h1]
    by_cases h2:r=i
    · rw[if_pos h2,if_neg (show ¬j=k from λz=>h1 z.symm),h2]
      grind
    · rw[if_neg h2]
theorem ZnU{c d:α}(e:c*d=1)(i r k:Nat):opS c d i (dl α) r k=dl α r k:=by
  unfold opS dl
  dsimp only
  by_cases h1:k=i
  · subst h1
    by_cases h2:r=k
    · subst h2
      rw[if_pos rfl,if_pos rfl,if_pos rfl]
      grind
    · rw[if_pos rfl,if_neg h2,if_neg h2]
      grind
  · rw[if_neg h1]
    by_cases h2:r=i
    · rw[if_pos h2,h2,if_neg (show ¬i=k from λz=>h1 z.symm)]
      grind
    · rw[if_neg h2]
theorem sw_inj{i j r k:Nat}:sw i j r=sw i j k↔r=k:=by
  unfold sw
  constructor
  · intro h
    by_cases h1:r=j
    · rw[if_pos h1] at h
      by_cases h2:k=j
      · omega
      · rw[if_neg h2] at h
        by_cases h3:k=i
        · rw[if_pos h3] at h; omega
        · rw[if_neg h3] at h; omega
    · rw[if_neg h1] at h
      by_cases h2:k=j
      · rw[if_pos h2] at h
        by_cases h3:r=i
        · rw[if_pos h3] at h; omega
        · rw[if_neg h3] at h; omega
      · rw[if_neg h2] at h
        by_cases h3:r=i
        · rw[if_pos h3] at h
          by_cases h4:k=i
          · omega
          · rw[if_neg h4] at h; omega
        · rw[if_neg h3] at h
          by_cases h4:k=i
          · rw[if_pos h4] at h; omega
          · rw[if_neg h4] at h; exact h
  · intro h; rw[h]
theorem chi_opA{n:Nat}{c:α}{i j:Nat}(hi:i<n)(hj:j<n)(ne:i≠j)(a:Nat->Nat->α):chi n (opA c i j a)=chi n a:=by
  unfold chi
  rw[<-ZmI (a:=xa a) (Ps.con c) hi hj ne]
  refine det_congr λr k _ _=>?_
  have e:=ZmK c i j (λr k=>0-a r k) (dl α)
  have e2:xa a=λr k=>lin (0-a r k) (dl α r k):=rfl
  rw[e2,e]
  show lin (0-opA c i j a r k) (dl α r k)=lin (opA c i j (λr k=>0-a r k) r k) (opA c i j (dl α) r k)
  rw[ZmM,ZnT c ne]
theorem chi_opS{n:Nat}{c d:α}{i:Nat}(hi:i<n)(e:c*d=1)(a:Nat->Nat->α):chi n (opS c d i a)=chi n a:=by
  unfold chi
  rw[<-ZmJ (a:=xa a) hi (Zk0 e)]
  refine det_congr λr k _ _=>?_
  have e1:=ZmL c d i (λr k=>0-a r k) (dl α)
  have e2:xa a=λr k=>lin (0-a r k) (dl α r k):=rfl
  rw[e2,e1]
  show lin (0-opS c d i a r k) (dl α r k)=lin (opS c d i (λr k=>0-a r k) r k) (opS c d i (dl α) r k)
  rw[ZmN,ZnU e]
theorem chi_opW{n:Nat}{i j:Nat}(hi:i<n)(hj:j<n)(ne:i≠j)(a:Nat->Nat->α):chi n (opW i j a)=chi n a:=by
  unfold chi
  rw[<-ZmH (a:=xa a) hi hj ne]
  refine det_congr λr k _ _=>?_
  unfold xa opW
  congr 1
  by_cases h:r=k
  · rw[if_pos h,if_pos (sw_inj.mpr h)]
  · rw[if_neg h,if_neg (λz=>h (sw_inj.mp z))]
theorem Zj2:∀(n:Nat) (A B:Nat->Nat->α) (k:Nat),k<=n->(det n λi j=>lin (A i j) (B i j)).c k=(det n λi j=>lin (B i j) (A i j)).c (n-k)
  | 0,_,_,k,h=>by rw[show k=0 by omega]; rfl
  | n+1,A,B,k,h=>by
    have e:∀(A B:Nat->Nat->α) m,(det (n+1) λi j=>lin (A i j) (B i j)).c m=Sg (λj=>sgn α j*(A 0 j*(det n λi k=>lin (A (i+1) (skip j k)) (B (i+1) (skip j k))).c m+(if m=0 then 0 else B 0 j*(det n λi k=>lin (A (i+1) (skip j k)) (B (i+1) (skip j k))).c (m-1)))) (n+1):=λA B m=>by
      show (Sg (λj=>sgn (Ps α) j*lin (A 0 j) (B 0 j)*det n (λi k=>lin (A (i+1) (skip j k)) (B (i+1) (skip j k)))) (n+1)).c m=_
      rw[Ps.c_Sg]
      exact Sg_congr λj _=>Zlw _ _ _ _ _
    rw[e,e]
    refine Sg_congr λj _=>?_
    have ih:=Zj2 n (λi k=>A (i+1) (skip j k)) (λi k=>B (i+1) (skip j k))
    have dg:=λA B:Nat->Nat->α=>(Zey n A B).1
    congr 1
    by_cases h0:k=0
    · subst h0
      rw[if_pos rfl,if_neg (by omega),dg _ _ (n+1-0) (by omega),show n+1-0-1=n-0 by omega,<-ih 0 (by omega)]
      grind
    · rw[if_neg h0,ih (k-1) (by omega),show n-(k-1)=n+1-k by omega]
      by_cases h1:k=n+1
      · subst h1
        rw[dg _ _ (n+1) (by omega),Ux,if_pos rfl]
        grind
      · rw[if_neg (by omega),ih k (by omega),show n+1-k-1=n-k by omega]
        grind
theorem chi_qz{n:Nat}{a:Nat->Nat->α}{k:Nat}(h:k<=n):(chi n a).c k=(qz n a).c (n-k):=by
  unfold chi qz
  have e:=Zj2 n (λi j=>0-a i j) (dl α) k h
  refine e.trans ?_
  congr 1
  refine det_congr λi j _ _=>?_
  show lin (dl α i j) (0-a i j)=lin (if j=i then 1 else 0) (0-a i j)
  congr 1
  unfold dl
  by_cases q:i=j
  · rw[if_pos q,if_pos q.symm]
  · rw[if_neg q,if_neg (λz=>q z.symm)]
theorem chi_deg{n:Nat}{a:Nat->Nat->α}{k:Nat}(h:n<k):(chi n a).c k=0:=(Zey n _ _).1 k h
theorem Zh6:∀n,det n (dl α)=1
  | 0=>rfl
  | n+1=>by
    show Sg (λj=>sgn α j*dl α 0 j*det n (λi k=>dl α (i+1) (skip j k))) (n+1)=1
    rw[Sg_shift]
    have e1:det n (λi k=>dl α (i+1) (skip 0 k))=1:=by
      rw[<-Zh6 n]
      refine det_congr λi k _ _=>?_
      rw[Zcv (Qb k)]
      unfold dl
      by_cases q:i=k
      · rw[if_pos q,if_pos (by omega)]
      · rw[if_neg q,if_neg (by omega)]
    have e2:Sg (λi=>sgn α (i+1)*dl α 0 (i+1)*det n (λi_1 k=>dl α (i_1+1) (skip (i+1) k))) n=Sg (λ_=>(0:α)) n:=Sg_congr λi _=>by
      rw[show dl α 0 (i+1)=0 from if_neg (by omega)]
      grind
    rw[e1,e2,Sg_zero,show dl α 0 0=1 from if_pos rfl]
    show 1*1*1+0=(1:α)
    grind
theorem chi_top(n:Nat)(a:Nat->Nat->α):(chi n a).c n=1:=by
  refine ((Zey n _ _).2).trans ?_
  exact Zh6 n
end
end My.Rg
namespace My.Rg
open PySem L2 PyProof.Rows
section
variable{α:Type}[Lean.Grind.CommRing α]
def gb(x v u:α)(gs:List α)(N:Nat->Nat->α):Nat->Nat->α:=λr k =>
  if r<gs.length+1 then
    if k<gs.length+1 then
      if r=0 then (if k=0 then v else 0)+(if k=gs.length then u else 0)
      else (if k+1=r then 0-1 else 0)+(if k=r then x else 0)+(if k=gs.length then gs.getD (r-1) 0 else 0)
    else 0
  else if k<gs.length+1 then 0 else N (r-(gs.length+1)) (k-(gs.length+1))
def hn(x v u:α):List α->α
  | []=>v+u
  | g::gs=>hn x (v*x) (u+v*g) gs
theorem Zj3{h:Nat->α}{n i:Nat}(hi:i<n)(z:∀j,j<n->j≠i->h j=0):Sg h n=h i:=by
  have e:Sg h n=Sg (λl=>h l*(if i=l then 1 else 0)) n:=Sg_congr λj hj=>by
    by_cases q:i=j
    · rw[if_pos q]; grind
    · rw[if_neg q,z j hj (λy=>q y.symm)]; grind
  rw[e,ZjT,if_pos hi]
theorem det_gb(x:α)(n:Nat)(N:Nat->Nat->α):∀(gs:List α) (v u:α),det (gs.length+1+n) (gb x v u gs N)=hn x v u gs*det n N
  | [],v,u=>by
    show det (0+1+n) _=(v+u)*det n N
    rw[show 0+1+n=n+1 by omega]
    show Sg (λj=>sgn α j*gb x v u [] N 0 j*det n (λi k=>gb x v u [] N (i+1) (skip j k))) (n+1)=_
    rw[Zj3 (i:=0) (by omega) λj _ hj=>?_]
    · have e:det n (λi k=>gb x v u [] N (i+1) (skip 0 k))=det n N:=det_congr λi k _ _=>by
        rw[Zcv (Qb k)]
        unfold gb
        rw[if_neg (show ¬i+1<([]:List α).length+1 by show ¬i+1<0+1; omega),if_neg (show ¬k+1<([]:List α).length+1 by show ¬k+1<0+1; omega)]
        rfl
      rw[e]
      show 1*(v+u)*det n N=_
      grind
    · have e:gb x v u [] N 0 j=0:=by
        unfold gb
        rw[if_pos (show 0<([]:List α).length+1 by show 0<0+1; omega),if_neg (show ¬j<([]:List α).length+1 by show ¬j<0+1; omega)]
      rw[e]
      grind
  | g::gs,v,u=>by
    show det (gs.length+1+1+n) _=hn x (v*x) (u+v*g) gs*det n N
    rw[<-det_gb x n N gs (v*x) (u+v*g),show gs.length+1+1+n=gs.length+1+n+1 by omega]
    have l:(g::gs).length=gs.length+1:=rfl
    rw[<-Zd0 (a:=gb x v u (g::gs) N) (r:=0) (s:=1) v (by omega) (by omega) (by omega),Zhn]
    have r1:∀k,gb x v u (g::gs) N 1 k=if k<gs.length+2 then (if k=0 then 0-1 else 0)+(if k=1 then x else 0)+(if k=gs.length+1 then g else 0) else 0:=λk=>by
      unfold gb
      rw[l,if_pos (show 1<gs.length+1+1 by omega),if_neg (show ¬1=0 by omega)]
      by_cases q:k<gs.length+2
      · rw[if_pos q,if_pos (show k<gs.length+1+1 by omega)]
        have e1:(k+1=1)=(k=0):=by simp
        simp only[e1]
        rfl
      · rw[if_neg q,if_neg (show ¬k<gs.length+1+1 by omega)]
    have r0:∀k,gb x v u (g::gs) N 0 k=if k<gs.length+2 then (if k=0 then v else 0)+(if k=gs.length+1 then u else 0) else 0:=λk=>by
      unfold gb
      rw[l,if_pos (show 0<gs.length+1+1 by omega),if_pos rfl]
    rw[Zj3 (i:=1) (by omega) λj hj ne=>?_]
    · have e1:ZaM (gb x v u (g::gs) N) 0 (λj=>gb x v u (g::gs) N 0 j+v*gb x v u (g::gs) N 1 j) 1 0=0-1:=by
        unfold ZaM
        rw[if_neg (by omega),r1,if_pos (by omega),if_pos rfl,if_neg (by omega),if_neg (by omega)]
        grind
      rw[e1]
      have e2:det (gs.length+1+n) (λt k=>ZaM (gb x v u (g::gs) N) 0 (λj=>gb x v u (g::gs) N 0 j+v*gb x v u (g::gs) N 1 j) (skip 1 t) (k+1))=det (gs.length+1+n) (gb x (v*x) (u+v*g) gs N):=det_congr λt k _ _=>by
        by_cases h0:t=0
        · subst h0
          rw[Zdx (by omega)]
          unfold ZaM
          rw[if_pos rfl]
          show gb x v u (g::gs) N 0 (k+1)+v*gb x v u (g::gs) N 1 (k+1)=_
          rw[r0,r1]
          unfold gb
          rw[if_pos (show 0<gs.length+1 by omega),if_pos rfl]
          by_cases q:k<gs.length+1
          · rw[if_pos q,if_pos (show k+1<gs.length+2 by omega),if_neg (show ¬k+1=0 by omega)]
            by_cases q1:k=0
            · rw[if_pos q1,if_pos (show k+1=1 by omega)]
              by_cases q2:k=gs.length
              · rw[if_pos q2,if_pos (show k+1=gs.length+1 by omega),if_pos (show k+1=gs.length+1 by omega)]; grind
              · rw[if_neg q2,if_neg (show ¬k+1=gs.length+1 by omega),if_neg (show ¬k+1=gs.length+1 by omega)]; grind
            · rw[if_neg q1,if_neg (show ¬k+1=1 by omega)]
              by_cases q2:k=gs.length
              · rw[if_pos q2,if_pos (show k+1=gs.length+1 by omega),if_pos (show k+1=gs.length+1 by omega)]; grind
              · rw[if_neg q2,if_neg (show ¬k+1=gs.length+1 by omega),if_neg (show ¬k+1=gs.length+1 by omega)]; grind
          · rw[if_neg q,if_neg (show ¬k+1<gs.length+2 by omega)]; grind
        · rw[Zcv (show 1<=t by omega)]
          unfold ZaM
          rw[if_neg (by omega)]
          unfold gb
          rw[l]
          by_cases h1:t<gs.length+1
          · rw[if_pos h1,if_pos (show t+1<gs.length+1+1 by omega),if_neg h0,if_neg (show ¬t+1=0 by omega)]
            by_cases q:k<gs.length+1
            · rw[if_pos q,if_pos (show k+1<gs.length+1+1 by omega)]
              have e1:(k+1+1=t+1)=(k+1=t):=by simp
              have e2:(k+1=t+1)=(k=t):=by simp
              have e3:(k+1=gs.length+1)=(k=gs.length):=by simp
              have e4:(g::gs).getD (t+1-1) 0=gs.getD (t-1) 0:=by
                rw[show t+1-1=(t-1)+1 by omega]; rfl
              rw[e4]
              simp only[e1,e2,e3]
            · rw[if_neg q,if_neg (show ¬k+1<gs.length+1+1 by omega)]
          · rw[if_neg h1,if_neg (show ¬t+1<gs.length+1+1 by omega)]
            by_cases q:k<gs.length+1
            · rw[if_pos q,if_pos (show k+1<gs.length+1+1 by omega)]
            · rw[if_neg q,if_neg (show ¬k+1<gs.length+1+1 by omega),show t+1-(gs.length+1+1)=t-(gs.length+1) by omega,show k+1-(gs.length+1+1)=k-(gs.length+1) by omega]
      rw[e2]
      show (0-1)*(0-1)*_=_
      generalize (det (gs.length+1+n) (gb x (v*x) (u+v*g) gs N))=D
      grind
    · have e:ZaM (gb x v u (g::gs) N) 0 (λj=>gb x v u (g::gs) N 0 j+v*gb x v u (g::gs) N 1 j) j 0=0:=by
        unfold ZaM
        by_cases h0:j=0
        · rw[if_pos h0]
          show gb x v u (g::gs) N 0 0+v*gb x v u (g::gs) N 1 0=0
          rw[r0,r1,if_pos (show 0<gs.length+2 by omega),if_pos (show 0<gs.length+2 by omega),if_pos rfl,if_pos rfl,if_neg (show ¬0=gs.length+1 by omega),if_neg (show ¬0=gs.length+1 by omega),if_neg (show ¬0=1 by omega)]
          grind
        · rw[if_neg h0]
          unfold gb
          rw[l]
          by_cases h1:j<gs.length+1+1
          · rw[if_pos h1,if_pos (by omega),if_neg h0,if_neg (by omega),if_neg (by omega),if_neg (by omega)]
            grind
          · rw[if_neg h1,if_pos (by omega)]
      rw[e]
      grind
end
end My.Rg
namespace My.Rg
open PySem L2 PyProof.Rows
section
variable{α:Type}[Lean.Grind.CommRing α]
def pX(x:α):Nat->α
  | 0=>1
  | n+1=>pX x n*x
theorem ZlB(x:α)(m:Nat):∀n,pX x (m+n)=pX x m*pX x n
  | 0=>by show pX x m=pX x m*1; grind
  | n+1=>by
    show pX x (m+n)*x=pX x m*(pX x n*x)
    rw[ZlB x m n]; grind
def sub(x:α)(f:Ps α):Ps α:=⟨λk=>pX x k*f.c k⟩
theorem sub_mul(x:α)(f g:Ps α):sub x (f*g)=sub x f*sub x g:=Ps.ext λn=>by
  show pX x n*(f*g).c n=_
  rw[Ps.c_mul,Ps.c_mul,Sg_mul]
  refine Sg_congr λi hi=>?_
  show _=pX x i*f.c i*(pX x (n-i)*g.c (n-i))
  rw[show n=i+(n-i) by omega,ZlB,show i+(n-i)-i=n-i by omega]
  grind
theorem Zj4(x c:α):sub x (Ps.con c)=Ps.con c:=Ps.ext λn=>by
  show pX x n*(if n=0 then c else 0)=if n=0 then c else 0
  by_cases h:n=0
  · subst h; rw[if_pos rfl]; show 1*c=c; grind
  · rw[if_neg h]; grind
theorem ZnV(x:α)(h:Nat->Ps α)(m:Nat):sub x (Sg h m)=Sg (λi=>sub x (h i)) m:=Ps.ext λn=>by
  show pX x n*(Sg h m).c n=_
  rw[Ps.c_Sg,Ps.c_Sg,Sg_mul]
  rfl
theorem Zj5(x:α):∀(n:Nat) (M:Nat->Nat->Ps α),det n (λi j=>sub x (M i j))=sub x (det n M)
  | 0,M=>(Zj4 x 1).symm
  | n+1,M=>by
    show Sg (λj=>sgn (Ps α) j*sub x (M 0 j)*det n (λi k=>sub x (M (i+1) (skip j k)))) (n+1)=sub x (Sg (λj=>sgn (Ps α) j*M 0 j*det n (λi k=>M (i+1) (skip j k))) (n+1))
    rw[ZnV]
    refine Sg_congr λj _=>?_
    rw[sub_mul,sub_mul,Zj5 x n (λi k=>M (i+1) (skip j k)),Zhj,Zj4]
theorem qz_scl(x:α)(n:Nat)(a:Nat->Nat->α)(k:Nat):(qz n λi j=>x*a i j).c k=pX x k*(qz n a).c k:=by
  have e:(unz λi j=>x*a i j)=λi j=>sub x (unz a i j):=by
    funext i j
    refine Ps.ext λm=>?_
    show (if m=0 then (if j=i then (1:α) else 0) else if m=1 then 0-x*a i j else 0)=pX x m*(if m=0 then (if j=i then (1:α) else 0) else if m=1 then 0-a i j else 0)
    by_cases h:m=0
    · subst h
      rw[if_pos rfl,if_pos rfl]
      show _=1*_
      grind
    · rw[if_neg h,if_neg h]
      by_cases h1:m=1
      · subst h1
        rw[if_pos rfl,if_pos rfl]
        show _=1*x*_
        grind
      · rw[if_neg h1,if_neg h1]; grind
  unfold qz
  rw[e,Zj5]
  rfl
end
end My.Rg
namespace My
open PySem L2 PyProof.Rows
section
variable{κ:KX}
theorem QN.up{D E:Int}(hD:0<D)(hE:0<E){M e:Nat}{x:κ.F}(h:QN κ D M x)(bE:E.natAbs<=e):QN κ (D*E) (M*e) x:=by
  cases κ with
  | r p hp=>exact trivial
  | q =>
    obtain ⟨X,rfl,hX⟩:=h
    refine ⟨X*E,?_,by rw[Qf]; exact W1 hX bE⟩
    rw[Qt (by omega) (Wy (Qk hD hE)),Qn,Qj D E]
theorem QN.neg{D:Int}{M:Nat}{x:κ.F}(h:QN κ D M x):QN κ D M (0-x):=by
  cases κ with
  | r p hp=>exact trivial
  | q =>
    obtain ⟨X,rfl,hX⟩:=h
    refine ⟨-X,?_,by omega⟩
    have:(0-Rat.divInt X D:Rat) = -Rat.divInt X D:=by grind
    show (0-Rat.divInt X D:Rat)=_
    rw[this,Rat.neg_divInt]
theorem QN.sub{D:Int}(hD:0<D){M N:Nat}{x y:κ.F}(h:QN κ D M x)(g:QN κ D N y):QN κ D (M+N) (x-y):=by
  have e:x-y=x+(0-y):=by grind
  rw[e]
  exact QN.add hD h g.neg
theorem ZnW{E N:Nat}(hE:0<E)(hN:0<N){c:κ.F}(h:QN κ (E:Int) N c)(hc:c≠0):∃a:Nat,0<a/\a<=N/\QN κ (a:Int) E (Fd.inv c):=by
  cases κ with
  | r p hp=>exact ⟨1,by decide,hN,trivial⟩
  | q =>
    obtain ⟨X,e,hX⟩:=h
    have X0:X≠0:=λz=>hc (by rw[e,z]; exact Uw _)
    have m:Rat.divInt X E*Rat.divInt E X=(1:Rat):=by
      rw[Wj]
      have:X*(E:Int)≠0:=Int.mul_ne_zero X0 (by omega)
      have e2:(1:Rat)=Rat.divInt 1 1:=rfl
      have e3:(E:Int)*X≠0:=Int.mul_ne_zero (by omega) X0
      rw[e2,Qt e3 (by decide)]
      rw[U3,U9,Qj]
    have ei:Fd.inv c=Rat.divInt E X:=by
      have h1:(c:Rat)*Rat.divInt E X=1:=by rw[e]; exact m
      exact (ZdW (α:=Rat) h1).symm
    refine ⟨X.natAbs,by omega,hX,?_⟩
    show ∃Y:Int,(Fd.inv c:Rat)=Rat.divInt Y (X.natAbs:Int)/\Y.natAbs<=E
    rcases Um X0 with s | s
    · refine ⟨-(E:Int),?_,by omega⟩
      have:((X.natAbs:Nat):Int) = -X:=by omega
      rw[ei,this,Qt X0 (by omega),Wo,Int.neg_mul]
    · refine ⟨(E:Int),?_,by omega⟩
      have:((X.natAbs:Nat):Int)=X:=by omega
      rw[ei,this]
noncomputable def gs(G:List κ.F)(p k:Nat):κ.F:=if p<=k then G.getD (k-p) 0 else 0
theorem ZaP{F:List κ.F}{k:Nat}(h:F.length<=k):F.getD k 0=0:=by
  rw[Q4,Qp h]; rfl
theorem ZnX{F G:List κ.F}{i k:Nat}:∀j:Nat,pI F G i j k=if i<=k/\k<i+j then F.getD i 0*G.getD (k-i) 0 else 0
  | 0=>by rw[if_neg (by omega)]; rfl
  | j+1=>by
    show pI F G i j k+(if i+j=k then F.getD i 0*G.getD j 0 else 0)=_
    rw[ZnX j]
    by_cases a:i+j=k
    · subst a
      rw[if_neg (by omega),if_pos rfl,if_pos (by omega),Nat.add_sub_cancel_left]; grind
    · rw[if_neg a]
      by_cases b:i<=k/\k<i+j
      · rw[if_pos b,if_pos (by omega)]; grind
      · rw[if_neg b,if_neg (by omega)]; exact add00
theorem ZoR{F G:List κ.F}{i k:Nat}:pI F G i G.length k=F.getD i 0*gs G i k:=by
  rw[ZnX]
  unfold gs
  by_cases a:i<=k
  · rw[if_pos a]
    by_cases b:k<i+G.length
    · rw[if_pos ⟨a,b⟩]
    · rw[if_neg (by omega),ZaP (show G.length<=k-i by omega)]; grind
  · rw[if_neg (by omega),if_neg a]; grind
def Trm(F:List κ.F):Prop:=F.length=0\/F.getD (F.length-1) 0≠0
theorem Zh7{T:List κ.F}{r:Nat}(lr:r<=T.length)(h:r=0\/T.getD (r-1) 0≠0):Trm (T.take r):=by
  have e:(T.take r).length=r:=by rw[Q8]; omega
  rcases h with h | h
  · left; omega
  · by_cases z:r=0
    · left; omega
    · right
      rw[e,Q4,W7,if_pos (by omega),<-Q4]
      exact h
theorem ZmO{F G:List κ.F}(hF:Trm F)(hG:Trm G)(h:∀k,F.getD k 0=G.getD k 0):F=G:=by
  have le:∀ {A B:List κ.F},Trm A->(∀k,A.getD k 0=B.getD k 0)->A.length<=B.length:=by
    intro A B hA h
    rcases hA with z | z
    · omega
    · refine Nat.le_of_not_lt λc=>z ?_
      rw[h,ZaP (by omega)]
  have l:F.length=G.length:=Nat.le_antisymm (le hF h) (le hG λk=>(h k).symm)
  apply List.ext_getElem l
  intro i h1 h2
  have:=h i
  rw[Q4,Q4,Q5 h1,Q5 h2] at this
  exact this
noncomputable def dI(G:List κ.F)(x:κ.F)(p a:Nat)(R:List κ.F):List κ.F:=(List.range R.length).map λk=>if p<=k/\k<p+a then R.getD k 0-x*G.getD (k-p) 0 else R.getD k 0
structure Dv (F G:List κ.F) (t:Nat) (qs R:List κ.F):Prop where
  lq:qs.length=t
  lr:R.length=F.length
  eq:∀k,F.getD k 0=pO (List.replicate (F.length+1-G.length-t) 0++qs.reverse) G (F.length+1-G.length) k+(if k<F.length-t then R.getD k 0 else 0)
  top:∀x,qs[0]?=some x->x=F.getD (F.length-1) 0*Fd.inv (G.getD (G.length-1) 0)
  fst:t=0->R=F
end
end My
namespace My
open PySem L2 PyProof.Rows
structure DvIn {κ:KX} (F G:List κ.F) (D E M N:Nat):Prop where
  lF:F.length<=100
  lG:G.length<=100
  tG:Trm G
  qF:∀x∈F,QN κ (D:Int) M x
  qG:∀x∈G,QN κ (E:Int) N x
  d0:0<D
  e0:0<E
  m0:0<M
  n0:0<N
  eN:E<=N
  bD:D*(N*E)^(F.length+1-G.length)<2^3000
  bM:M*(2*(E*N))^(F.length+1-G.length)<2^3000
  bE:E<2^3000
  bN:N<2^3000
structure DvOut {κ:KX} (F G:List κ.F) (D E M N a:Nat) (qs R:List κ.F) (r:Nat):Prop where
  dv:Dv F G (F.length+1-G.length) qs R
  lr:r<=(R.take (G.length-1)).length
  r0:∀j,r<=j->(R.take (G.length-1)).getD j 0=0
  r1:r=0\/(R.take (G.length-1)).getD (r-1) 0≠0
  a0:0<a
  aN:a<=N
  qq:∀x∈qs,QN κ ((D*(a*E)^(F.length+1-G.length):Nat):Int) (M*(2*(E*N))^(F.length+1-G.length)) x
  qR:∀x∈R,QN κ ((D*(a*E)^(F.length+1-G.length):Nat):Int) (M*(2*(E*N))^(F.length+1-G.length)) x
theorem ZmP{κ:KX}{H:Hp}{xs:List V}{f:List κ.F}(h:AllG (NR κ H) xs f):AllG (NR κ H) xs.reverse f.reverse:=by
  obtain ⟨l,h⟩:=h
  refine ⟨by rw[Ui,Ui,l],λi v d hv hd=>?_⟩
  have hi:i<xs.length:=by
    have:=(Qi.mp hv).1
    rw[Ui] at this; exact this
  rw[List.getElem?_reverse hi] at hv
  rw[List.getElem?_reverse (by omega),<-l] at hd
  exact h _ v d hv hd
section
variable{κ:KX}
theorem QN.upN{D c:Nat}(hD:0<D)(hc:0<c){M:Nat}{x:κ.F}(h:QN κ (D:Int) M x):QN κ ((D*c:Nat):Int) (M*c) x:=by
  rw[U0]
  exact QN.up (by omega) (by omega) h (by omega)
theorem QN.mulN{D E M N:Nat}{x y:κ.F}(h:QN κ (D:Int) M x)(g:QN κ (E:Int) N y):QN κ ((D*E:Nat):Int) (M*N) (x*y):=by
  rw[U0]
  exact QN.mul h g
end
end My
namespace L2
open PySem PySem.Spec PyProof.Rows
section
variable{X:Cx}
def ipM:TIp:=λx y H Q=>∃i j,x = .int i/\y = .int j/\IntMulOk i j/\Q (.int (i*j)) H
theorem ZmQ:PIp X .Mult ipM:=by
  intro pins s σ H x y v u Q I r1 r2 h
  obtain ⟨i,j,e1,e2,hm,q⟩:=h
  subst e1; subst e2
  obtain ⟨t,rfl⟩:=r1
  obtain ⟨t',rfl⟩:=r2
  exact PyProof.Rows.imul_int ⟨.int _,H,I.tok _,⟨_,rfl⟩,q⟩ hm
end
end L2
namespace My
open PySem L2 PyProof.Rows
section
variable{κ:KX}
noncomputable def hv(F:List κ.F)(x:κ.F):Nat->κ.F
  | 0=>0
  | i+1=>hv F x i*x+F.reverse.getD i 0
noncomputable def tot(F:List κ.F)(R P:List (List κ.F))(u x:κ.F):Nat->List (List κ.F)
  | 0=>Zgx 0 (ZnM κ R.length)
  | i+1=>ZpT (mulT (tot F R P u x i) P R.length) (Zgx (F.reverse.getD i 0*(u*x^i)) (ZnM κ R.length))
end
end My
namespace My
open PySem L2 PyProof.Rows
theorem Zh8{κ:KX}:κ.mulF (K1 κ) (K1 κ)=K1 κ:=by show (1:κ.F)*1=1; grind
structure Wn (κ:KX) (A:Int) (x:κ.F) (B:Nat):Prop where
  n:NumV κ A x
  p:0<A
  l:A.natAbs<=B
  r:κ ≠ .q->A=1
theorem ZeA{κ:KX}:(1:κ.F)≠0:=λz=>Fd.zne z.symm
theorem Wn.ne{κ:KX}{A:Int}{x:κ.F}{B:Nat}(h:Wn κ A x B):x≠0:=λz=>by
  have h0:=h.p
  by_cases hq:κ = .q
  · subst hq
    have e1:Rat.num x=A:=h.n.1
    have z:x=(0:Rat):=z
    rw[z] at e1
    have:(0:Int)=A:=e1
    omega
  · have a:=h.r hq
    have n:=h.n
    rw[a] at n
    have e:=n.uniq Zdb
    rw[z] at e
    exact ZeA e.symm
theorem Wn.mul{κ:KX}{A C:Int}{x y:κ.F}{B E:Nat}(h:Wn κ A x B)(g:Wn κ C y E):Wn κ (A*C) (x*y) (B*E):=by
  refine ⟨?_,Qk h.p g.p,by rw[Qf]; exact W1 h.l g.l,λz=>by rw[h.r z,g.r z]; rfl⟩
  cases κ with
  | q =>
    have e1:Rat.num x=A:=h.n.1
    have e2:Rat.den x=1:=h.n.2
    have e3:Rat.num y=C:=g.n.1
    have e4:Rat.den y=1:=g.n.2
    have m:=Zg3 (x:=x) (y:=y) (n:=A*C) (d:=1) ⟨by decide,by rw[Int.gcd_one]⟩ (by rw[e1,e2,e3,e4]; simp)
    exact ⟨m.1,by have:=m.2; omega⟩
  | r p hp =>
    have a:=h.r (λz=>nomatch z)
    have b:=g.r (λz=>nomatch z)
    subst a b
    rw[h.n.uniq Zdb,g.n.uniq Zdb]
    show NumV _ (1*1) ((KX.r p hp).mulF (K1 _) (K1 _))
    rw[Zh8]
    exact Zdb
theorem wn1{κ:KX}:Wn κ 1 1 1:=⟨Zdb,by decide,by decide,λ_=>rfl⟩
theorem Wn.qn{κ:KX}{A:Int}{x:κ.F}{B:Nat}(h:Wn κ A x B):QN κ ((1:Nat):Int) B x:=(ZjQ h.n).mono h.l
theorem ZnY{κ:KX}{D M:Nat}(hD:0<D)(lD:D<=10^60){f:List κ.F}{A:Int}(h:∀x∈f,QN κ (D:Int) M x)(b:ZmB κ f A){x:κ.F}(n:NumV κ A x):Wn κ A x D:=by
  obtain ⟨b0,b1⟩:=ZjP hD h b
  refine ⟨n,b0,b1,λz=>?_⟩
  cases κ with
  | q=>exact absurd rfl z
  | r p hp=>exact b
theorem Zpj{κ:KX}(x:κ.F)(i:Nat):x^(i+1)=x^i*x:=by grind
theorem Zpk{κ:KX}(x:κ.F):x^0=1:=by grind
end My
namespace My
open PySem L2 PyProof.Rows
section
variable{κ:KX}
theorem ZlC(x:κ.F):∀i,Rg.pX x i=x^i
  | 0=>by rw[Zpk]; rfl
  | i+1=>by rw[Zpj,<-ZlC x i]; rfl
theorem ZmR(x:κ.F)(R:List (List κ.F)):ent (Zgx x R)=λi j=>x*ent R i j:=by
  funext i j
  unfold ent Zgx
  rw[Q4 (l:=List.map _ R),Qc,Q4 (l:=R)]
  cases h:R[i]? with
  | none =>
    show ([]:List κ.F).getD j 0=x*([]:List κ.F).getD j 0
    show (0:κ.F)=x*0
    grind
  | some f =>
    show (f.map (x * ·)).getD j 0=x*f.getD j 0
    exact ZkL f x j
theorem Zk1{R:List (List κ.F)}{D M:Nat}{A:Int}{x:κ.F}(hD:0<D)(q:AllR (QN κ (D:Int) M) R)(b:ZmB κ R.flatten A)(n:NumV κ A x):AllR (QN κ 1 M) (Zgx x R):=λf hf y hy=>by
  obtain ⟨f0,hf0,rfl⟩:=W4.mp hf
  obtain ⟨y0,hy0,rfl⟩:=W4.mp hy
  have qf:∀z∈R.flatten,QN κ (D:Int) M z:=λz hz=>by
    obtain ⟨f,hf,hz⟩:=List.mem_flatten.mp hz
    exact q f hf z hz
  have bl:=ZjP hD qf b
  cases κ with
  | r p hp=>exact trivial
  | q =>
    obtain ⟨X,e,l⟩:=q f0 hf0 y0 hy0
    obtain ⟨c,hc⟩:=b.2.1 y0 (List.mem_flatten.mpr ⟨f0,hf0,hy0⟩)
    have hx:x=((A:Int):Rat):=Rat.ext n.1 n.2
    have d0:(0:Int)<(Rat.den y0:Int):=by have:=Rat.den_pos y0; omega
    have x1:x=Rat.divInt A 1:=by rw[<-Qs x,n.1,n.2]; rfl
    have D0:(D:Int)≠0:=by omega
    have ey:x*y0=Rat.divInt (Rat.num y0*c) 1:=by
      have e1:x*y0=Rat.divInt (A*Rat.num y0) (1*(Rat.den y0:Int)):=by
        rw[<-Wj,<-x1,Qs]
      rw[e1,Qt (by omega) (by decide),hc]
      generalize Rat.num y0=u
      generalize ((Rat.den y0:Nat):Int)=v
      grind
    refine ⟨Rat.num y0*c,ey,?_⟩
    have e2:x*y0=Rat.divInt (A*X) (1*(D:Int)):=by
      rw[<-Wj,<-x1,<-e]
    rw[e2,Qt (by omega) (by decide)] at ey
    have ez:A*X=Rat.num y0*c*D:=by
      have:A*X*1=Rat.num y0*c*(1*(D:Int)):=ey
      generalize Rat.num y0*c=u at *
      grind
    have ea:A.natAbs*X.natAbs=(Rat.num y0*c).natAbs*D:=by
      have:=congrArg Int.natAbs ez
      rw[Qf,Qf (Rat.num y0*c)] at this
      rw[this,Qo]
    refine Nat.le_of_mul_le_mul_right (c:=D) ?_ hD
    rw[<-ea,Wq M D]
    exact W1 bl.2 l
theorem ZoS{A:Int}{x:κ.F}{B:Nat}(h:Wn κ A x B):∀i,Wn κ (A^i) (x^i) (B^i)
  | 0=>by rw[Zpk,Wf,Nat.pow_zero]; exact wn1
  | i+1=>by
    rw[Zpj,Qy,Ug]
    exact (ZoS h i).mul h
theorem ZnZ{b:Int}{y:κ.F}{B:Nat}(h:Wn κ b y B)(l:B<=10^500):B1 κ (Fd.inv y):=by
  obtain ⟨a,a0,al,q⟩:=ZnW (E:=1) (N:=B+1) (by decide) (by omega) (h.qn.mono (by omega)) h.ne
  have z:B+1<2^3000:=Q9 (Nat.add_le_add_right l 1) (by decide)
  exact q.b1 (by omega) (by rw[Qo]; exact Q9 al z) (by decide)
theorem ZmS(m:Nat)(a:Nat->Nat->κ.F):(coL (Rg.qz m a) (m+1)).reverse=coL (Rg.chi m a) (m+1):=by
  refine Ua λi=>?_
  by_cases h:i<m+1
  · rw[List.getElem?_reverse (by rw[Zba]; exact h),Zba]
    have g:∀(f:Rg.Ps κ.F) j,j<m+1->(coL f (m+1))[j]?=some (f.c j):=λf j hj=>by
      unfold coL
      rw[Qc,W8 hj]
      rfl
    rw[g _ _ (by omega),g _ _ h,Rg.chi_qz (by omega),show m+1-1-i=m-i by omega]
  · rw[Qp (by rw[Ui,Zba]; omega),Qp (by rw[Zba]; omega)]
def GrS(κ:KX)(A:List (List κ.F)):Prop:=∃D M:Nat,0<D/\D<=10^42/\M<=10^45/\AllR (QN κ (D:Int) M) A
end
def Zh9(P:Program)(w:World)(K:PySem.W.Frag)(mg:Str->Option Value)(base:Heap)(CF CR:Addr):Prop :=
  ∀(κ:KX) (H:Hp) (s:Addr),KdX CF CR κ H s->∃C dx fs ps dvs sp,H s=some (.ins C dx fs)/\Cls K C/\HasMX P w K mg base C "number" 3 ps dvs sp/\fs.lookup ("number" : Str)=none/\dvs=[] ∧
    ∀(H':Hp) (b:Int) (y:κ.F) (Q:VK) (E:XK),Same H H'->NumV κ b y->0<b->b.natAbs<=10^1000->(κ ≠ .q->b=1)->(∀v H'',Same H' H''->NR κ H'' v (Fd.inv y)->Q v H'')->sp [.ref s,.int 1,.int b] H' Q E
def ZfS(CF CR cF:Addr):Sp:=λvs H Q E=>∃(κ:KX) (s tb:Addr) (rs:List Addr) (A:List (List κ.F)) (m:Nat),vs=[.ref s,.ref tb]/\KdX CF CR κ H s/\TabL κ H tb rs A m/\(A.length≠m->E (.ref cF) none H)/\(A.length=m->m<=7/\GrS κ A/\∀(H':Hp) (D:Addr) (ys:List V),Same H H'->H D=none->H' D=some (.lst ys)->AllG (NR κ H') ys (coL (Rg.chi m (ent A)) (m+1))->Q (.ref D) H')
end My
namespace My
open PySem L2 PyProof.Rows
section
variable{P:Program}{w:World}{K:PySem.W.Frag}{mg:Str->Option Value}{base:Heap}{CF CR cF cN:Addr}
theorem sc_great:FnScope ["kind", "A", "part", "numbers", "bottom", "each"] ["kind", "A"] (Zah ZgY):=⟨rfl,rfl,rfl,by decide +kernel,rfl,by decide +kernel,by decide +kernel⟩
theorem Zk2(h:Here K mg "great" ZgY) (T:Nm mg) (Tv:mg "reversed" = none) (mc:Zh9 P w K mg base CF CR) (mt:Zmp P w K mg base CF CR "times" (λ_ x y=>x*y)) (h_need_square:HasX P w K mg base "need_square" 6 ["table"] (Zcu cF)) (h_evenly_freed:Has P w K mg base "evenly_freed" 6 ["kind", "table"] (Zch CF CR)) (h_falling_numbers:Has P w K mg base "falling_numbers" 6 ["kind", "table"] (Zff CF CR)):HasX P w K mg base "great" 7 ["kind", "A"] (ZfS CF CR cF):=by
  refine h.hasX (λf fd F=>F.binds λ_ _ _ _ _ _ us hl=>by obtain ⟨_,_,rfl⟩:=Zdm hl; exact rfl) λf fd F=>F.okx sc_great (λvs H Q E h=>?_) (λcdv A outer s H vs Q E hr h=>?_)
  · obtain ⟨_,_,_,_,_,_,rfl,_⟩:=h
    rfl
  obtain ⟨κ,sk,tb,rs,A,m,rfl,hk,ta,kF,kS⟩:=h
  have nd:=sc_great.nd
  refine ⟨_,(Zac (ZaZ (Zfp h_need_square ZoB hr (by rfl) (Zaa (pv 1) Zab)))
    (Zac (Zal (i:=2) nd rfl (Or.inl rfl) (Zak h_evenly_freed hr (by rfl) (Zaa (pv 0) (Zaa (pv 1) Zab))))
    (Zac (Zal (i:=3) nd rfl (Or.inl rfl) (ZaU Zab))
    (Zac (Zal (i:=4) nd rfl (Or.inl rfl) Zad)
    (Zac (ZaQ PassesOwn.leaving rfl (ZaC (Zak h_falling_numbers hr (by rfl) (Zaa (pv 0) (Zaa (Zao Zat (pv 2) Zad (λ_ _=>rfl)) Zab)))) (Zap (i:=5) nd rfl (Or.inl rfl)) (Zac (ZaZ (Zd9 PySem.F.plainAttrs_list PySem.F.slot_list_append PySem.F.type_list_append Za5 (pv 3) (Zaa (Zbw (pv 0) hr (Zaa (pv 5) (Zaa (Zb6 (pv 0) Zfo hr (Zaa Zad (Zaa (pv 4) Zab))) Zab))) Zab)))
      (Zae (ZiZ (i:=4) nd rfl (Or.inl rfl) (Zao Zat (pv 2) Zad (λ_ _=>rfl)) ZmQ))))
    (Zae (Zan (ZiK (by rfl) T.list (by rfl) Tv rfl (Zaa (pv 3) Zab))))))))),?_⟩
  refine ⟨_,rfl,κ,tb,rs,A,m,rfl,ta,(λsq=>?_),kF⟩
  obtain ⟨m7,⟨D,M,D0,lD,lM,qA⟩,k⟩:=kS sq
  have lr:=ta.r.1
  have n1:=ta.n1
  refine ⟨_,rfl,_,rfl,κ,sk,tb,rs,A,m,D,M,rfl,hk,ta,qA,D0,Q0 lD (by decide),Q0 lM (by decide),λH1 tp D' rs' bA x S1 htp bv nx tF=>?_⟩
  have qFl:∀y∈A.flatten,QN κ (D:Int) M y:=λy hy=>by
    obtain ⟨f,hf,hy⟩:=List.mem_flatten.mp hy
    exact qA f hf y hy
  have wx:Wn κ bA x D:=ZnY D0 (Q0 lD (by decide)) qFl bv nx
  have qF:AllR (QN κ 1 EE) (Zgx x A):=λf hf y hy=>(Zk1 D0 qA bv nx f hf y hy).mono (Q0 lM (by decide))
  refine ⟨(by decide),λna nna=>?_⟩
  have Sn:=Zag nna (.lst [])
  have qn:=Zaf (H:=H1) (a:=na) (o:=.lst [])
  generalize upd H1 na (.lst [])=H2 at *
  have S02:=S1.trans Sn
  refine ⟨_,rfl,_,rfl,tp,_,0,_,rfl,rfl,SqT.of (Sn _ _ htp),rfl,κ,sk,D',rs',Zgx x A,m,rfl,hk.same S02,Sn _ _ tF.l,tF.r.same Sn,by rw[ZfN]; exact sq,tF.w,m7,qF,λH3 L zs S3 hL aL=>?_⟩
  have lz:zs.length=m+1:=by rw[aL.1,Zba]
  have S13:=Sn.trans S3
  have S03:=S1.trans S13
  refine ⟨L,rfl,⟨_,SqL.of hL⟩,?_⟩
  have nL:L≠na:=λz=>by
    rw[z,S3 _ _ qn] at hL
    have:[]=zs:=by injection (Option.some.inj hL)
    rw[<-this] at lz
    exact absurd lz (by show ¬0=m+1; omega)
  have eF:ent (Zgx x A)=λi j=>x*ent A i j:=ZmR x A
  have en:∀i,(Rg.qz m (ent (Zgx x A))).c i*Fd.inv (x^i)=(Rg.qz m (ent A)).c i:=λi=>by
    rw[eF,Rg.qz_scl,ZlC]
    have mi:=Fd.mul_inv (x^i) (ZoS wx i).ne
    generalize Fd.inv (x^i)=q at *
    generalize (Rg.qz m (ent A)).c i=d at *
    generalize x^i=y at *
    grind
  have bi:∀i,i<=8->D^i<=10^500:=λi hi=>Q0 (Nat.pow_le_pow_left lD i) (Q0 (Ql (by decide) hi) (by decide))
  refine Zbf (K:=K) (a:=L) (xs:=zs) (λi σ H4=>∃(z5:Option V) (ys:List V),σ=[some (.ref sk),some (.ref tb),some (.ref tp),some (.ref na),some (.int (bA^i)),z5]/\Off [na] H3 H4/\H4 na=some (.lst ys)/\AllG (NR κ H4) ys (coL (Rg.qz m (ent A)) i)) ⟨_,[],by rw[Wf]; rfl,λ_ _ _ q=>q,S3 _ _ qn,.nil⟩ ?_ ?_ ?_
  · rintro i σ H4-⟨z5,ys,rfl,O4,-⟩
    exact SqL.of (O4 _ _ (λz=>nL (Q3.mp z)) hL)
  · rintro i v σ H4 hx ⟨z5,ys,rfl,O4,hna,ays⟩
    have hi:i<m+1:=by have:=(Qi.mp hx).1; omega
    obtain ⟨v',hv',nv⟩:=Zbt aL (i:=i) (by rw[Zba]; omega)
    rw[hx] at hv'
    obtain rfl:=Option.some.inj hv'
    rw[Zdh _ (by omega)] at nv
    have S14:Same H1 H4:=Off.same O4 S13 (λz hz=>by rw[Q3.mp hz]; exact nna)
    have S04:=S1.trans S14
    have nv4:=nv.off (S3 _ _ qn) O4
    have wi:=ZoS wx i
    have ly:ys.length=i:=by rw[ays.1,Zba]
    obtain ⟨Ct,dxt,fst,pst,dvt,spt,t1,t2,t3,t4,rfl,t5⟩:=mt κ H4 sk (hk.same S04)
    obtain ⟨Cn,dxn,fsn,psn,dvn,spn,e1,e2,e3,e4,rfl,e5⟩:=mc κ H4 sk (hk.same S04)
    refine ⟨_,rfl,.inl ⟨rfl,_,SqL.of hna⟩,_,rfl,sk,Ct,dxt,fst,pst,_,spt,rfl,t1,t2,t3.mono (by decide),t4,_,rfl,_,rfl,sk,Cn,dxn,fsn,psn,_,spn,rfl,e1,e2,e3.mono (by decide),e4,_,rfl,e5 H4 (bA^i) (x^i) _ _ (Same.refl _) wi.n wi.p (Q0 wi.l (Q0 (bi i (by omega)) (by decide))) wi.r λv4 H5 S5 n4=>?_⟩
    have bx:B1 κ ((Rg.qz m (ent (Zgx x A))).c i):=ZgB (ZmF (λi j=>Zh4 qF i j) m m7 i) (qz5 m7 (by omega))
    refine t5 H5 v v4 _ _ _ S5 (nv4.same S5) n4 bx (ZnZ wi (bi i (by omega))) λv6 H6 S6 n6=>?_
    have n6:NR κ H6 v6 ((Rg.qz m (ent (Zgx x A))).c i*Fd.inv (x^i)):=n6
    rw[en] at n6
    have S46:=S5.trans S6
    have hn6:=S46 _ _ hna
    refine ⟨na,_,_,rfl,rfl,hn6,Q6 (show ys.length<1000 by omega) (by decide),?_⟩
    have Of:Off [na] H6 (upd H6 na (.lst (ys++[v6]))):=Za9 (Same.refl H6)
    have ay2:AllG (NR κ (upd H6 na (.lst (ys++[v6])))) (ys++[v6]) (coL (Rg.qz m (ent A)) (i+1)):=by
      rw[ZfQ]
      exact (ays.mono λ_ _ n=>(n.same S46).off hn6 Of).append (.one (n6.off hn6 Of))
    have O7:Off [na] H3 (upd H6 na (.lst (ys++[v6]))):=λb o hb q=>Of b o hb (S46 _ _ (O4 b o hb q))
    have htp7:upd H6 na (.lst (ys++[v6])) tp=some (.tup [.ref D',.int bA]):=by
      rw[Zau (λz=>by rw[z,nna] at htp; cases htp)]
      exact S46 _ _ (S14 _ _ htp)
    have hn7:=Zaf (H:=H6) (a:=na) (o:=.lst (ys++[v6]))
    generalize upd H6 na (.lst (ys++[v6]))=H7 at *
    refine ⟨_,rfl,_,rfl,tp,_,1,_,rfl,rfl,SqT.of htp7,rfl,_,_,rfl,rfl,Zpe (Q0 wi.l (Q0 (bi i (by omega)) (by decide))) (Q0 wx.l (Q0 lD (by decide))),?_⟩
    exact ⟨some v,_,by rw[Qy]; rfl,O7,hn7,ay2⟩
  · rintro σ H4 ⟨z5,ys,rfl,O4,hna,ays⟩
    rw[lz] at ays
    have S14:Same H1 H4:=Off.same O4 S13 (λz hz=>by rw[Q3.mp hz]; exact nna)
    refine ⟨_,rfl,na,_,rfl,SqL.of hna,λp np=>?_⟩
    have Sp:=Zag np (.lst ys.reverse)
    refine k _ p ys.reverse ((S1.trans S14).trans Sp) ?_ Zaf ?_
    · cases e:H p with
      | none=>rfl
      | some o=>rw[(S1.trans S14) _ _ e] at np; cases np
    · have:=ZmP (ays.mono λ_ _ n=>n.same Sp)
      rw[ZmS] at this
      exact this
end
end My
namespace My
open PySem L2 PyProof.Rows
structure PolL (κ:KX) (H:Hp) (a:Addr) (xs:List V) (f:List κ.F):Prop where
  l:H a=some (.lst xs)
  al:AllG (NR κ H) xs f
theorem PolL.same{κ:KX}{H H':Hp}{a:Addr}{xs:List V}{f:List κ.F}(h:PolL κ H a xs f)(S:Same H H'):PolL κ H' a xs f:=⟨S _ _ h.l,h.al.mono λ_ _ n=>n.same S⟩
noncomputable def ZfT{κ:KX}(F G:List κ.F):List κ.F:=(List.range (max F.length G.length)).map λk=>F.getD k 0+G.getD k 0
theorem Zd2{κ:KX}(F G:List κ.F):(ZfT F G).length=max F.length G.length:=by unfold ZfT; simp
theorem ZfU{κ:KX}(F G:List κ.F)(k:Nat):(ZfT F G).getD k 0=F.getD k 0+G.getD k 0:=by
  by_cases h:k<max F.length G.length
  · unfold ZfT
    rw[Q4,Qc,W8 h]; rfl
  · rw[ZaP (by rw[Zd2]; omega),ZaP (show F.length<=k by omega),ZaP (show G.length<=k by omega)]; exact add00.symm
def ZcK:Sp:=λvs H Q _=>∃(κ:KX) (fa ga:Addr) (xs ys:List V) (F G:List κ.F),vs=[.int κ.P,.ref fa,.ref ga]/\PolL κ H fa xs F/\PolL κ H ga ys G/\F.length<=400/\G.length<=400/\(∀x∈F,B1 κ x)/\(∀x∈G,B1 κ x) ∧
  ∀(H':Hp) (R:Addr) (zs:List V) (r:Nat),Same H H'->PolL κ H' R zs ((ZfT F G).take r)->r<=(ZfT F G).length->(∀j,r<=j->(ZfT F G).getD j 0=0)->(r=0\/(ZfT F G).getD (r-1) 0≠0)->Q (.ref R) H'
def szD(κ:KX):Nat:=match κ with
  | .q=>144
  | .r _ _=>1
def szM(κ:KX):Nat:=match κ with
  | .q=>10^63
  | .r _ _=>1
structure PolS {κ:KX} (f:List κ.F):Prop where
  t:Trm f
  l:f.length<=60
  lq:κ = .q->f.length<=9
  s:∀x∈f,QN κ (szD κ:Int) (szM κ) x
end My
namespace My
open PySem L2 PyProof.Rows
section
variable{κ:KX}
abbrev Sr(κ:KX):Type:=Rg.Ps κ.F
noncomputable def sr(F:List κ.F):Sr κ:=⟨λk=>F.getD k 0⟩
theorem Zm9(F:List κ.F)(k:Nat):(sr F).c k=F.getD k 0:=rfl
theorem Zn0{F G:List κ.F}(h:∀k,F.getD k 0=G.getD k 0):sr F=sr G:=Rg.Ps.ext h
theorem ZlD:sr ([]:List κ.F)=0:=Rg.Ps.ext λk=>by rw[Rg.Ps.c_zero]; rfl
noncomputable def cn(x:κ.F):Sr κ:=sr [x]
theorem Zok(x:κ.F)(k:Nat):(cn x).c k=if k=0 then x else 0:=by
  cases k with
  | zero=>rfl
  | succ k=>rfl
theorem Zn1(x:κ.F):cn x=Rg.Ps.con x:=Rg.Ps.ext λk=>by rw[Zok]; rfl
theorem Zfg:cn (1:κ.F)=1:=by rw[Zn1]; rfl
theorem Zj6{h:Nat->κ.F}{n:Nat}:∀d,(∀i,n<=i->h i=0)->Rg.Sg h (n+d)=Rg.Sg h n
  | 0,_=>rfl
  | d+1,e=>by
    show Rg.Sg h (n+d)+h (n+d)=_
    rw[Zj6 d e,e (n+d) (by omega)]
    generalize Rg.Sg h n=s
    grind
theorem ZlE{F G:List κ.F}{k:Nat}:∀n,pO F G n k=Rg.Sg (λi=>F.getD i 0*gs G i k) n
  | 0=>rfl
  | n+1=>by
    show pO F G n k+pI F G n G.length k=Rg.Sg _ n+_
    rw[ZlE n,ZoR]
theorem Zn2(F G:List κ.F)(k:Nat):(sr F*sr G).c k=pO F G F.length k:=by
  rw[ZlE,Rg.Ps.c_mul]
  have e1:=Zj6 (h:=λi=>F.getD i 0*gs G i k) (n:=F.length) (k+1-F.length) λi hi=>by
    show F.getD i 0*_=0
    rw[ZaP hi]; grind
  have e2:Rg.Sg (λi=>F.getD i 0*gs G i k) (k+1)=Rg.Sg (λi=>(sr F).c i*(sr G).c (k-i)) (k+1):=Rg.Sg_congr λi hi=>by
    show F.getD i 0*gs G i k=F.getD i 0*G.getD (k-i) 0
    unfold gs
    rw[if_pos (by omega)]
  rw[<-e2]
  by_cases h:F.length<=k+1
  · rw[<-e1,show F.length+(k+1-F.length)=k+1 by omega]
  · have e3:=Zj6 (h:=λi=>F.getD i 0*gs G i k) (n:=k+1) (F.length-(k+1)) λi hi=>by
      show F.getD i 0*gs G i k=0
      unfold gs
      rw[if_neg (by omega)]; grind
    rw[<-e3,show k+1+(F.length-(k+1))=F.length by omega]
def Fs(a:Sr κ):Prop:=∃N,∀k,N<=k->a.c k=0
theorem Fs.sr(F:List κ.F):Fs (sr F):=⟨F.length,λk h=>by rw[Zm9]; exact ZaP h⟩
theorem Fs.cn(x:κ.F):Fs (cn x):=Fs.sr [x]
theorem Fs.zero:Fs (0:Sr κ):=⟨0,λk _=>Rg.Ps.c_zero k⟩
theorem Fs.one:Fs (1:Sr κ):=by rw[<-Zfg]; exact Fs.cn 1
theorem Fs.add{a b:Sr κ}(h:Fs a)(g:Fs b):Fs (a+b):=by
  obtain ⟨N,h⟩:=h
  obtain ⟨M,g⟩:=g
  exact ⟨N+M,λk hk=>by rw[Rg.Ps.c_add,h k (by omega),g k (by omega)]; grind⟩
theorem Fs.mul{a b:Sr κ}(h:Fs a)(g:Fs b):Fs (a*b):=by
  obtain ⟨N,h⟩:=h
  obtain ⟨M,g⟩:=g
  refine ⟨N+M,λk hk=>?_⟩
  rw[Rg.Ps.c_mul,Rg.Sg_congr (g:=λ_=>0) λi hi=>?_,Rg.Sg_zero]
  by_cases q:N<=i
  · rw[h i q]; grind
  · rw[g (k-i) (by omega)]; grind
theorem Fs.sub{a b:Sr κ}(h:Fs a)(g:Fs b):Fs (a-b):=by
  obtain ⟨N,h⟩:=h
  obtain ⟨M,g⟩:=g
  exact ⟨N+M,λk hk=>by rw[Rg.Ps.c_sub,h k (by omega),g k (by omega)]; grind⟩
theorem mem_getD{F:List κ.F}{x:κ.F}(h:x∈F):∃k,k<F.length/\x=F.getD k 0:=by
  obtain ⟨k,hk,e⟩:=List.getElem_of_mem h
  exact ⟨k,hk,by rw[Q4,Q5 hk,e]; rfl⟩
theorem Zia{F:List κ.F}{D:Int}{M:Nat}(h:∀x∈F,QN κ D M x)(k:Nat):QN κ D M (F.getD k 0):=by
  by_cases q:k<F.length
  · refine h _ ?_
    rw[Q4,Q5 q]
    exact Wd _
  · rw[ZaP (by omega)]; exact QN.zero
end
end My
namespace My
open PySem L2 PyProof.Rows
def ZbP{κ:KX}:List (List κ.F)->Nat
  | []=>0
  | f::fs=>f.length-1+ZbP fs
structure PolM {κ:KX} (f:List κ.F):Prop where
  m:Mon f
  l2:2<=f.length
  l8:f.length<=8
  q:∀x∈f,QN κ (12^7) (2^84) x
structure ChM {κ:KX} (fs:List (List κ.F)) (most:Int):Prop where
  l1:1<=fs.length
  l7:fs.length<=7
  s:(ZbP fs:Int)<=most
  ok:∀f∈fs,PolM f
def Chm(κ:KX)(H:Hp)(ca:Addr)(n:Nat)(most left:Int):Prop:=∃(as:List Addr) (fs:List (List κ.F)),H ca=some (.lst (as.map V.ref))/\RowsX κ H as fs/\fs.length<=n/\(ZbP fs:Int)+left=most/\∀f∈fs,PolM f
theorem Chm.same{κ:KX}{H H':Hp}{ca:Addr}{n:Nat}{most left:Int}(h:Chm κ H ca n most left)(S:Same H H'):Chm κ H' ca n most left:=by
  obtain ⟨as,fs,h1,h2,h3⟩:=h; exact ⟨as,fs,S _ _ h1,h2.same S,h3⟩
def ZdI:Sp:=λvs H Q _=>∃(κ:KX) (c most:Int),vs=[.int κ.P,.int c,.int most]/\1<=most/\most<=7/\∀(H':Hp) (ca:Addr) (as:List Addr) (fs:List (List κ.F)),Same H H'->H' ca=some (.lst (as.map V.ref))->RowsX κ H' as fs->ChM fs most->Q (.ref ca) H'
def Zcw(K:PySem.W.Frag):Sp:=λvs H Q _=>∃(a:Addr) (cs:List Int) (i:Int),vs=[.ref a,.int i]/\SqL K H a (cs.map V.int)/\0<=i/\∀c:Int,Q (.int c) H
def ZdJ:Sp:=λvs H Q _=>∃(κ:KX) (ca:Addr) (cs:List Int) (i:Int) (n m:Nat),vs=[.int κ.P,.ref ca,.int i,.int (n:Int),.int (m:Int)]/\H ca=some (.lst (cs.map V.int))/\0<=i/\i<=1000/\n<=7/\m<=7/\∀H' D rs (R:List (List κ.F)),Same H H'->H' D=some (.lst (rs.map V.ref))->RowsX κ H' rs R->R.length=n->Wid m R->AllR (QN κ ((12:Nat):Int) 108) R->(∀a∈rs,H a=none)->rs.Nodup->Q (.ref D) H'
def ZcL(CF CR:Addr):Sp:=λvs H Q _=>∃(κ:KX) (s ta:Addr) (rs:List Addr) (R:List (List κ.F)) (m:Nat),vs=[.ref s,.ref ta]/\KdX CF CR κ H s/\TabL κ H ta rs R m/\R.length≠m/\∀H',Same H H'->Q (.bl true) H'
theorem Zn3{C C' G X:V->Prop}(h:(∀a,C' a->G a)->∀a,C a->X a)(hG:∀a,C' a->G a):∀a,C a->X a:=h hG
theorem Zib{κ:KX}{i:Nat}(hi:i+1<=7){x:κ.F}(h:QN κ (12^(i+1)) (2^(12*(i+1))) x):QN κ (12^7) (2^84) x:=by
  have u:=QN.up (Uh (show (0:Int)<12 by decide)) (Uh (show (0:Int)<12 by decide)) h (E:=12^(7-(i+1))) (e:=(2^12)^(7-(i+1))) (by rw[Uv]; exact Nat.pow_le_pow_left (by decide) _)
  rw[<-Int.pow_add,show i+1+(7-(i+1))=7 by omega,<-Nat.pow_mul,<-Wt,show 12*(i+1)+12*(7-(i+1))=84 by omega] at u
  exact u
theorem ZeB{κ:KX}{x:κ.F}(h:QN κ 12 108 x):QN κ (12^7) (2^84) x:=Zib (i:=0) (by decide) (h.mono (by decide))
end My
namespace My
open PySem L2 PyProof.Rows
section
variable{P:Program}{w:World}{K:PySem.W.Frag}{mg:Str->Option Value}{base:Heap}
theorem sc_l_fraction:FnScope ["_law_top", "_law_bottom", "_law_by"] ["_law_top", "_law_bottom"] (Zah Zcq):=⟨rfl,rfl,rfl,by decide +kernel,rfl,by decide +kernel,by decide +kernel⟩
theorem Zj7(h:Here K mg "_law_fraction" Zcq) (h_l_divisor:Has P w K mg base "_law_divisor" 1 ["_law_one", "_law_other"] ZaV):Has P w K mg base "_law_fraction" 2 ["_law_top", "_law_bottom"] Zeq:=by
  refine h.has (λf fd F=>F.binds λ_ _ _ _ _ _ us hl=>by obtain ⟨_,_,rfl⟩:=Zdm hl; exact rfl) λf fd F=>F.ok sc_l_fraction (λvs H Q E h=>?_) (λcdv A outer s H vs Q E hr h=>?_)
  · obtain ⟨_,_,rfl,_⟩:=h
    rfl
  obtain ⟨t,b,rfl,hb,fb,k⟩:=h
  have nd:=sc_l_fraction.nd
  refine ⟨_,(Zac (Zal (i:=2) nd rfl (Or.inl rfl) (Zak h_l_divisor hr (by rfl) (Zaa (pv 0) (Zaa (pv 1) Zab))))
    (Zae (Zan (Zbh (Zaa (Zai ZhP (pv 0) (pv 2)) (Zaa (Zai ZhP (pv 1) (pv 2)) Zab)))))),?_⟩
  refine ⟨_,rfl,_,rfl,t,b,rfl,?_⟩
  have hg:=M3.gcd_ne (a:=t) (b:=b) (by omega)
  have gl:Int.gcd t b<=b.natAbs:=U1 (by omega) (Wk.mpr (W2 t b))
  have hg1:(Int.gcd t b:Int)≠0/\Bits 8000 (Int.gcd t b:Int):=⟨by omega,fb.le (by rw[Qo]; exact gl)⟩
  obtain ⟨e1,e2⟩:=ZpK (t:=t) hb
  refine ⟨_,rfl,_,rfl,_,_,rfl,rfl,hg1,_,rfl,_,rfl,_,_,rfl,rfl,hg1,(by show 2<=sizeLine; decide),λr hr'=>?_⟩
  have:=k r hr'
  rw[<-e1,<-e2] at this
  exact this
end
section
variable{P:Program}{w:World}{K:PySem.W.Frag}{mg:Str->Option Value}{base:Heap}
theorem sc_l_prime:FnScope ["_law_number"] ["_law_number"] (Zah Zeg):=⟨rfl,rfl,rfl,by decide +kernel,rfl,by decide +kernel,by decide +kernel⟩
theorem Zho(h:Here K mg "_law_prime" Zeg) (h_l_is_prime:Has P w K mg base "_law_is_prime" 1 ["_law_number"] ZdU):Has P w K mg base "_law_prime" 2 ["_law_number"] Zeu:=by
  refine h.has (λf fd F=>F.binds λ_ _ _ _ _ _ us hl=>by obtain ⟨_,rfl⟩:=Zjv hl; exact rfl) λf fd F=>F.ok sc_l_prime (λvs H Q E h=>?_) (λcdv A outer s H vs Q E hr h=>?_)
  · obtain ⟨_,rfl,_⟩:=h
    rfl
  obtain ⟨n,rfl,n2,n9,k⟩:=h
  have nd:=sc_l_prime.nd
  refine ⟨_,(Zac (ZbM PassesOwn.never (Zci (ZaL (Zak h_l_is_prime hr (by rfl) (Zaa (pv 0) Zab)))) (Zae (Zal (i:=0) nd rfl (Or.inl rfl) (Zai ZaE (pv 0) Zad))))
    (Zae (Zan (pv 0)))),?_⟩
  refine ⟨λmm σ H'=>∃t:Int,mm=(999983-t).toNat/\σ=[some (.int t)]/\H'=H/\2<=t/\t<=999983,⟨_,n,rfl,rfl,rfl,by omega,by omega⟩,?_⟩
  rintro mm σ H' ⟨t,rfl,rfl,rfl,h2,ht⟩
  refine ⟨_,rfl,t,rfl,by omega,λhp=>⟨_,rfl,?_⟩,λhp=>⟨_,rfl,?_⟩⟩
  · refine ZdP ?_
    exact ⟨_,rfl,k t (.inr ⟨hp,by omega⟩)⟩
  · refine Ziv ?_
    refine ⟨_,λ_ _ h=>h,?_⟩
    have hne:t≠999983:=λz=>hp (by rw[z]; exact M2.prm_big)
    refine ⟨_,rfl,_,_,rfl,rfl,?_⟩
    exact ⟨_,by omega,t+1,rfl,rfl,rfl,by omega,by omega⟩
theorem ZfV:FnScope ["_law_cell"] ["_law_cell"] (Zah Zcp):=⟨rfl,rfl,rfl,by decide +kernel,rfl,by decide +kernel,by decide +kernel⟩
theorem ZfW(h:Here K mg "_law_prime_by" Zcp) (h_l_prime:Has P w K mg base "_law_prime" 2 ["_law_number"] Zeu):Has P w K mg base "_law_prime_by" 3 ["_law_cell"] Zdc:=by
  refine h.has (λf fd F=>F.binds λ_ _ _ _ _ _ us hl=>by obtain ⟨_,rfl⟩:=Zjv hl; exact rfl) λf fd F=>F.ok ZfV (λvs H Q E h=>?_) (λcdv A outer s H vs Q E hr h=>?_)
  · obtain ⟨_,rfl,_⟩:=h
    rfl
  obtain ⟨c,rfl,k⟩:=h
  refine ⟨_,(Zac (ZaD (Zaq Zbz (Zai Za0 (pv 0) Zad) Zad (Zaw _)) (Zae (Zan Zad)) Zar)
    (Zac (ZaD (Zaq Zbz (Zai Za0 (pv 0) Zad) Zad (Zaw _)) (Zae (Zan (Zao Zav (ZaU (Zaa Zad (Zaa Zad (Zaa Zad (Zaa Zad (Zaa Zad (Zaa Zad Zab))))))) (Zai Za0 (Zai Zbg (pv 0) Zad) Zad) (λ_ _=>rfl)))) Zar)
    (Zae (Zan (Zak h_l_prime hr (by rfl) (Zaa (Zai ZaE Zad (Zai Za0 (Zai ZdD (Zai Zbg (pv 0) Zad) Zad) Zad)) Zab)))))),?_⟩
  refine ⟨_,rfl,_,_,rfl,rfl,(by show (0:Int)<_; decide),rfl,_,rfl,?_⟩
  refine Zbn (λ_=>k H 0 (Same.refl H) (.inl rfl)) (λ_=>?_)
  refine ⟨_,rfl,_,_,rfl,rfl,(by show (0:Int)<_; decide),rfl,_,rfl,?_⟩
  refine Zbn (λ_=>?_) (λ_=>?_)
  · obtain ⟨m,am,pm⟩:=ZoL c
    refine ⟨(by show 6<=sizeLine; decide),λq hq=>?_⟩
    refine ⟨_,rfl,_,_,rfl,rfl,⟨by decide,by decide⟩,_,_,rfl,rfl,(by show (0:Int)<_; decide),_,_,_,_,rfl,rfl,SqL.of Zaf,am,?_⟩
    exact k _ m (Zag hq _) pm
  · refine ⟨_,rfl,_,_,rfl,rfl,⟨by decide,by decide⟩,_,_,rfl,rfl,.inr ⟨by decide,by decide⟩,_,_,rfl,rfl,(by show (0:Int)<_; decide),_,_,rfl,rfl,_,rfl,?_,?_,λp pp=>k H p (Same.refl H) pp⟩
    · show (2:Int)<=2+c/3*48271%999982
      omega
    · show 2+c/3*48271%999982<=(999983:Int)
      omega
theorem Zj8:FnScope ["_law_prime_here", "_law_number"] ["_law_prime_here", "_law_number"] (Zah Zfu):=⟨rfl,rfl,rfl,by decide +kernel,rfl,by decide +kernel,by decide +kernel⟩
theorem Zj9(h:Here K mg "_law_make" Zfu):Has P w K mg base "_law_make" 1 ["_law_prime_here", "_law_number"] Za3:=by
  refine h.has (λf fd F=>F.binds λ_ _ _ _ _ _ us hl=>by obtain ⟨_,_,rfl⟩:=Zdm hl; exact rfl) λf fd F=>F.ok Zj8 (λvs H Q E h=>?_) (λcdv A outer s H vs Q E hr h=>?_)
  · obtain ⟨_,_,_,rfl,_⟩:=h
    rfl
  obtain ⟨κ,t,x,rfl,nx,k⟩:=h
  refine ⟨_,(Zac (ZaD (Zaq Zbz (pv 0) Zad (Zaw _)) (Zae (Zan (Zbh (Zaa (pv 1) (Zaa Zad Zab))))) Zar)
    (Zae (Zan (Zai ZaN (pv 1) (pv 0))))),?_⟩
  refine ⟨_,rfl,rfl,_,rfl,?_⟩
  cases κ with
  | r p hp =>
    have h2:=hp.two
    refine Zgu (show (KX.r p hp).P≠0 by have:0<(KX.r p hp).P:=Zgt; omega) ⟨_,rfl,_,rfl,_,_,rfl,rfl,(show (p:Int)≠0 by omega),k H _ (Same.refl H) ?_⟩
    show V.int (t.fmod p)=V.int x.val
    have e:(Fin.val x:Int)=t%p:=nx.2
    rw[Qz _ (by omega),e]
  | q =>
    refine Zer (show KX.q.P=0 from rfl) ⟨_,rfl,(by show 2<=sizeLine; decide),λr nr=>?_⟩
    refine k _ _ (Zag nr _) ⟨r,rfl,?_⟩
    have e1:Rat.num x=t:=nx.1
    have e2:Rat.den x=1:=nx.2
    rw[Zaf,e1,e2]; rfl
theorem ZeS:FnScope ["_law_prime_here", "_law_found"] ["_law_prime_here", "_law_found"] (Zah Zca):=⟨rfl,rfl,rfl,by decide +kernel,rfl,by decide +kernel,by decide +kernel⟩
theorem ZeT(h:Here K mg "_law_is_number" Zca) (T:Nm mg) (h_l_whole:Has P w K mg base "_law_whole" 1 ["_law_found"] ZdT) (h_l_divisor:Has P w K mg base "_law_divisor" 1 ["_law_one", "_law_other"] ZaV):Has P w K mg base "_law_is_number" 2 ["_law_prime_here", "_law_found"] ZdG:=by
  refine h.has (λf fd F=>F.binds λ_ _ _ _ _ _ us hl=>by obtain ⟨_,_,rfl⟩:=Zdm hl; exact rfl) λf fd F=>F.ok ZeS (λvs H Q E h=>?_) (λcdv A outer s H vs Q E hr h=>?_)
  · obtain ⟨_,_,_,rfl,_⟩:=h
    rfl
  obtain ⟨κ,u,x,rfl,nu,k⟩:=h
  refine ⟨_,(Zac (ZaD (Zaq ZdM (pv 0) Zad (Zaw _)) (Zae (Zan (Zd4 (Zak h_l_whole hr (by rfl) (Zaa (pv 1) Zab)) (ZeY (Zkt ZlT Zio Zad (pv 1) (pv 0)))))) Zar)
    (Zac (ZaD (Zc1 (Zci (ZaL (Zaj Zas (by rfl) T.isinstance boot_isinstance (Zaa (pv 1) (Zaa (ZcH (by rfl) T.tuple boot_tuple) Zab))))) (Zc1 (Zaq Zin (Zaj Zam (by rfl) T.len boot_len (Zaa (pv 1) Zab)) Zad (Zaw _)) (Zc1 (Zci (ZaL (Zak h_l_whole hr (by rfl) (Zaa (Zao Zat (pv 1) Zad (λ_ _=>rfl)) Zab)))) (Zc0 (Zci (ZaL (Zak h_l_whole hr (by rfl) (Zaa (Zao Zat (pv 1) Zad (λ_ _=>rfl)) Zab)))))))).pt (Zae (Zan Zdl)) Zar)
    (Zae (Zan (Zd4 (Zcj ZdM (Zao Zat (pv 1) Zad (λ_ _=>rfl)) Zad (Zaw _)) (ZeY (Zcj Zbz (Zak h_l_divisor hr (by rfl) (Zaa (Zao Zat (pv 1) Zad (λ_ _=>rfl)) (Zaa (Zao Zat (pv 1) Zad (λ_ _=>rfl)) Zab))) Zad (Zaw _)))))))),?_⟩
  refine ⟨_,rfl,_,_,rfl,rfl,_,rfl,?_⟩
  cases κ with
  | r p hp =>
    have nu:u = .int x.val:=nu
    subst nu
    have xl:=x.isLt
    exact Zdu (show (0:Int)<(KX.r p hp).P from Zgt) ⟨_,rfl,_,rfl,_,rfl,Ziv ⟨_,rfl,_,_,rfl,rfl,_,rfl,Zdu (show (0:Int)<=x.val by omega) ⟨_,rfl,_,_,rfl,rfl,Zln (show (x.val:Int)<(p:Int) by omega) k⟩⟩⟩
  | q =>
    obtain ⟨a,rfl,ha⟩:=nu
    have fx:=Zbd x
    refine ZhQ (show ¬(0:Int)<0 by decide) ?_
    refine ⟨_,rfl,_,_,_,_,rfl,.of (.tup ha),.ty (Zb3 K _),_,rfl,ZdP ?_⟩
    refine ⟨_,rfl,a,_,rfl,.inr (SqT.of ha),rfl,_,rfl,Ze1 (λz=>absurd rfl z) (λ_=>?_)⟩
    refine ⟨_,rfl,a,_,0,_,rfl,rfl,SqT.of ha,rfl,_,rfl,_,rfl,ZdP ?_⟩
    refine ⟨_,rfl,a,_,1,_,rfl,rfl,SqT.of ha,rfl,_,rfl,_,rfl,ZdP ?_⟩
    refine ⟨_,rfl,a,_,1,_,rfl,rfl,SqT.of ha,rfl,_,_,rfl,rfl,_,rfl,Zdu (show (0:Int)<x.den from fx.pos) ?_⟩
    refine ⟨_,rfl,a,_,0,_,rfl,rfl,SqT.of ha,rfl,_,rfl,a,_,1,_,rfl,rfl,SqT.of ha,rfl,_,_,rfl,rfl,Zln (show V.int ((Int.gcd x.num x.den:Nat):Int)=V.int 1 by rw[fx.cop]; rfl) k⟩
end
def ZgE(CF CR:Addr):Sp:=λvs H Q _=>∃p:Int,vs=[.int p]/\PK p/\∀(H':Hp) (k:Addr),Same H H'->KdA CF CR p H' k->Q (.ref k) H'
section
variable{P:Program}{w:World}{K:PySem.W.Frag}{mg:Str->Option Value}{base:Heap}{CF CR cN:Addr}
theorem Zka:FnScope ["_law_prime_here"] ["_law_prime_here"] (Zah Zft):=⟨rfl,rfl,rfl,by decide +kernel,rfl,by decide +kernel,by decide +kernel⟩
theorem Zkb(h:Here K mg "_law_kind" Zft) (kd:Kd K mg CF CR) (hI:HasI P w K mg base CR 2 ["self", "prime"] (ZhN CR)):Has P w K mg base "_law_kind" 4 ["_law_prime_here"] (ZgE CF CR):=by
  refine h.has (λf fd F=>F.binds λ_ _ _ _ _ _ us hl=>by obtain ⟨_,rfl⟩:=Zjv hl; exact rfl) λf fd F=>F.ok Zka (λvs H Q E h=>?_) (λcdv A outer s H vs Q E hr h=>?_)
  · obtain ⟨_,rfl,_⟩:=h
    rfl
  obtain ⟨p,rfl,hp,k⟩:=h
  refine ⟨_,(Zac (ZaD (Zaq Zbz (pv 0) Zad (Zaw _)) (Zae (Zan (Zjj kd.mkF (by rfl) kd.mgF))) Zar)
    (Zae (Zan (ZkA hI hr (by rfl) kd.mgR (Zaa (pv 0) Zab))))),?_⟩
  refine ⟨_,rfl,rfl,_,rfl,?_⟩
  refine Zbn (λz=>?_) (λz=>?_)
  · intro f0 df0 nf0 ndf0 nef0
    refine k _ f0 (λb o e=>?_) (.inl ⟨z,df0,Zaf⟩)
    rw[Zau (ZaA e nf0),Zau (ZaA e ndf0)]; exact e
  · rcases hp with rfl | ⟨pr1,lp1⟩
    · exact absurd rfl z
    refine ⟨_,rfl,λx1 dx1 nx1 ndx1 nex1=>⟨x1,dx1,p,rfl,Zaf,pr1,lp1,rfl,?_⟩⟩
    refine k _ x1 (λb o e=>?_) (.inr ⟨pr1,lp1,dx1,Zaf⟩)
    rw[Zau (ZaA e nx1),Zau (ZaA e nx1),Zau (ZaA e ndx1)]; exact e
end
section
variable{P:Program}{w:World}{K:PySem.W.Frag}{mg:Str->Option Value}{base:Heap}
theorem ZiP:FnScope ["_law_prime_here", "_law_one", "_law_other"] ["_law_prime_here", "_law_one", "_law_other"] (Zah Zeh):=⟨rfl,rfl,rfl,by decide +kernel,rfl,by decide +kernel,by decide +kernel⟩
theorem Zhp(h:Here K mg "_law_times" Zeh) (h_l_fraction:Has P w K mg base "_law_fraction" 2 ["_law_top", "_law_bottom"] Zeq):Has P w K mg base "_law_times" 3 ["_law_prime_here", "_law_one", "_law_other"] (ZaX λ_ x y=>x*y):=by
  refine h.has (λf fd F=>F.binds λ_ _ _ _ _ _ us hl=>by obtain ⟨_,_,_,rfl⟩:=Zed hl; exact rfl) λf fd F=>F.ok ZiP (λvs H Q E h=>?_) (λcdv A outer s H vs Q E hr h=>?_)
  · obtain ⟨_,_,_,_,_,rfl,_⟩:=h
    rfl
  obtain ⟨κ,u,v,x,y,rfl,nx,ny,bx,by',k⟩:=h
  refine ⟨_,(Zac (ZaD (Zaq Zbz (pv 0) Zad (Zaw _)) (Zae (Zan (Zak h_l_fraction hr (by rfl) (Zaa (Zai Zay (Zao Zat (pv 1) Zad (λ_ _=>rfl)) (Zao Zat (pv 2) Zad (λ_ _=>rfl))) (Zaa (Zai Zay (Zao Zat (pv 1) Zad (λ_ _=>rfl)) (Zao Zat (pv 2) Zad (λ_ _=>rfl))) Zab))))) Zar)
    (Zae (Zan (Zai ZaN (Zai Zay (pv 1) (pv 2)) (pv 0))))),?_⟩
  refine ⟨_,rfl,rfl,_,rfl,?_⟩
  cases κ with
  | q =>
    obtain ⟨a,rfl,ha⟩:=nx
    obtain ⟨b,rfl,hb⟩:=ny
    refine Zer (show KX.q.P=0 from rfl) ?_
    have px:=(Zbd x).pos
    have py:=(Zbd y).pos
    refine ⟨_,rfl,a,_,0,_,rfl,rfl,SqT.of ha,rfl,_,rfl,b,_,0,_,rfl,rfl,SqT.of hb,rfl,_,_,rfl,rfl,bx.1.mulT by'.1,_,rfl,a,_,1,_,rfl,rfl,SqT.of ha,rfl,_,rfl,b,_,1,_,rfl,rfl,SqT.of hb,rfl,_,_,rfl,rfl,(bx.2.up (by decide)).mulG by'.2,_,_,rfl,Qk px py,(bx.2.times by'.2),λr hr'=>?_⟩
    have e:x*y=Rat.divInt (x.num*y.num) ((x.den:Int)*y.den):=by
      rw[<-Wj,Qs,Qs]
    refine k _ _ (Zag hr' _) ⟨r,rfl,?_⟩
    rw[Zaf]
    show _=some (HO.tup [.int (x*y).num,.int ((x*y).den:Int)])
    rw[e]
  | r p hp =>
    have nx:u = .int x.val:=nx
    have ny:v = .int y.val:=ny
    subst nx ny
    refine Zgu (show (KX.r p hp).P≠0 by have:0<(KX.r p hp).P:=Zgt; omega) ⟨_,rfl,_,rfl,_,_,rfl,rfl,ZaO (Zbe hp x) (Zbe hp y),_,rfl,_,_,rfl,rfl,(show (p:Int)≠0 by have:=hp.two; omega),k H _ (Same.refl H) ?_⟩
    show V.int (((x.val:Int)*y.val).fmod p)=V.int ((Fin.val (x*y):Nat):Int)
    have e:Fin.val (x*y)=(x.val*y.val)%p:=Fin.val_mul x y
    rw[e,Wr,U0,Qz _ (by omega)]
theorem Zkc:FnScope ["_law_prime_here", "_law_one", "_law_other"] ["_law_prime_here", "_law_one", "_law_other"] (Zah Zfv):=⟨rfl,rfl,rfl,by decide +kernel,rfl,by decide +kernel,by decide +kernel⟩
theorem ZiQ(h:Here K mg "_law_plus" Zfv) (h_l_fraction:Has P w K mg base "_law_fraction" 2 ["_law_top", "_law_bottom"] Zeq):Has P w K mg base "_law_plus" 3 ["_law_prime_here", "_law_one", "_law_other"] (ZaX λ_ x y=>x+y):=by
  refine h.has (λf fd F=>F.binds λ_ _ _ _ _ _ us hl=>by obtain ⟨_,_,_,rfl⟩:=Zed hl; exact rfl) λf fd F=>F.ok Zkc (λvs H Q E h=>?_) (λcdv A outer s H vs Q E hr h=>?_)
  · obtain ⟨_,_,_,_,_,rfl,_⟩:=h
    rfl
  obtain ⟨κ,u,v,x,y,rfl,nx,ny,bx,by',k⟩:=h
  refine ⟨_,(Zac (ZaD (Zaq Zbz (pv 0) Zad (Zaw _)) (Zae (Zan (Zak h_l_fraction hr (by rfl) (Zaa (Zai ZaE (Zai Zay (Zao Zat (pv 1) Zad (λ_ _=>rfl)) (Zao Zat (pv 2) Zad (λ_ _=>rfl))) (Zai Zay (Zao Zat (pv 2) Zad (λ_ _=>rfl)) (Zao Zat (pv 1) Zad (λ_ _=>rfl)))) (Zaa (Zai Zay (Zao Zat (pv 1) Zad (λ_ _=>rfl)) (Zao Zat (pv 2) Zad (λ_ _=>rfl))) Zab))))) Zar)
    (Zae (Zan (Zai ZaN (Zai ZaE (pv 1) (pv 2)) (pv 0))))),?_⟩
  refine ⟨_,rfl,rfl,_,rfl,?_⟩
  cases κ with
  | q =>
    obtain ⟨a,rfl,ha⟩:=nx
    obtain ⟨b,rfl,hb⟩:=ny
    refine Zer (show KX.q.P=0 from rfl) ?_
    have px:=(Zbd x).pos
    have py:=(Zbd y).pos
    refine ⟨_,rfl,a,_,0,_,rfl,rfl,SqT.of ha,rfl,_,rfl,b,_,1,_,rfl,rfl,SqT.of hb,rfl,_,_,rfl,rfl,bx.1.mulG by'.2,_,rfl,b,_,0,_,rfl,rfl,SqT.of hb,rfl,_,rfl,a,_,1,_,rfl,rfl,SqT.of ha,rfl,_,_,rfl,rfl,by'.1.mulG bx.2,_,_,rfl,rfl,_,rfl,a,_,1,_,rfl,rfl,SqT.of ha,rfl,_,rfl,b,_,1,_,rfl,rfl,SqT.of hb,rfl,_,_,rfl,rfl,(bx.2.up (by decide)).mulG by'.2,_,_,rfl,Qk px py,(bx.2.times by'.2),λr hr'=>?_⟩
    have e:x+y=Rat.divInt (x.num*y.den+y.num*x.den) ((x.den:Int)*y.den):=by
      rw[<-Ut _ _ (by omega) (by omega),Qs,Qs]
    refine k _ _ (Zag hr' _) ⟨r,rfl,?_⟩
    rw[Zaf]
    show _=some (HO.tup [.int (x+y).num,.int ((x+y).den:Int)])
    rw[e]
  | r p hp =>
    have nx:u = .int x.val:=nx
    have ny:v = .int y.val:=ny
    subst nx ny
    refine Zgu (show (KX.r p hp).P≠0 by have:0<(KX.r p hp).P:=Zgt; omega) ⟨_,rfl,_,rfl,_,_,rfl,rfl,_,rfl,_,_,rfl,rfl,(show (p:Int)≠0 by have:=hp.two; omega),k H _ (Same.refl H) ?_⟩
    show V.int (((x.val:Int)+y.val).fmod p)=V.int ((Fin.val (x+y):Nat):Int)
    have e:Fin.val (x+y)=(x.val+y.val)%p:=Fin.val_add x y
    rw[e,Wr,Int.natCast_add,Qz _ (by omega)]
theorem sc_l_mixed:FnScope ["_law_cell", "_law_k", "_law_one"] ["_law_cell", "_law_k"] (Zah Zej):=⟨rfl,rfl,rfl,by decide +kernel,rfl,by decide +kernel,by decide +kernel⟩
theorem ZiR(h:Here K mg "_law_mixed" Zej):Has P w K mg base "_law_mixed" 1 ["_law_cell", "_law_k"] Zfb:=by
  refine h.has (λf fd F=>F.binds λ_ _ _ _ _ _ us hl=>by obtain ⟨_,_,rfl⟩:=Zdm hl; exact rfl) λf fd F=>F.ok sc_l_mixed (λvs H Q E h=>?_) (λcdv A outer s H vs Q E hr h=>?_)
  · obtain ⟨_,_,rfl,_⟩:=h
    rfl
  obtain ⟨c,j,rfl,hj,k⟩:=h
  have nd:=sc_l_mixed.nd
  refine ⟨_,(Zac (Zal (i:=2) nd rfl (Or.inl rfl) (Zai Za0 (Zai ZdD (Zai ZaE (Zai ZaE (Zai Za0 (pv 0) Zad) (Zai Zay (Zai ZdD Zad (pv 1)) (pv 1))) (Zai ZdD Zad (pv 1))) Zad) Zad))
    (Zae (Zan (Zai Za0 (Zai Zay (pv 2) (Zai ZaE (Zai ZaE (Zai Za0 (pv 2) Zad) (Zai ZdD Zad (pv 1))) Zad)) Zad)))),?_⟩
  have f1:((40503:Int)*j).natAbs<=10^150:=Q0 (show _<=100000000 by omega) (by decide)
  have f2:j.natAbs<=10^150:=Q0 (show _<=100000000 by omega) (by decide)
  refine ⟨_,rfl,_,_,rfl,rfl,(by show (0:Int)<_; decide),_,rfl,_,_,rfl,rfl,.inl ⟨by decide,by decide⟩,_,rfl,_,_,rfl,rfl,ZaO f1 f2,_,_,rfl,rfl,_,rfl,_,_,rfl,rfl,.inl ⟨by decide,by decide⟩,_,_,rfl,rfl,_,_,rfl,rfl,.inr ⟨by decide,by decide⟩,_,_,rfl,rfl,(by show (0:Int)<_; decide),?_⟩
  refine ⟨_,rfl,_,rfl,_,_,rfl,rfl,(by show (0:Int)<_; decide),_,rfl,_,_,rfl,rfl,.inl ⟨by decide,by decide⟩,_,_,rfl,rfl,_,_,rfl,rfl,_,_,rfl,rfl,?_,_,_,rfl,rfl,(by show (0:Int)<_; decide),?_⟩
  · refine ZaO ?_ ?_
    · show ((c%2147483647+40503*j*j+17*j)*48271%2147483647:Int).natAbs<=_
      exact Q0 (show _<=10000000000 by omega) (by decide)
    · show ((c%2147483647+40503*j*j+17*j)*48271%2147483647%65537+3*j+1:Int).natAbs<=_
      exact Q0 (show _<=10000000000 by omega) (by decide)
  · exact k _
theorem ZiS:FnScope ["_law_prime_here", "_law_number"] ["_law_prime_here", "_law_number"] (Zah Zek):=⟨rfl,rfl,rfl,by decide +kernel,rfl,by decide +kernel,by decide +kernel⟩
theorem Zhq(h:Here K mg "_law_drawn" Zek) (h_l_fraction:Has P w K mg base "_law_fraction" 2 ["_law_top", "_law_bottom"] Zeq):Has P w K mg base "_law_drawn" 3 ["_law_prime_here", "_law_number"] ZcZ:=by
  refine h.has (λf fd F=>F.binds λ_ _ _ _ _ _ us hl=>by obtain ⟨_,_,rfl⟩:=Zdm hl; exact rfl) λf fd F=>F.ok ZiS (λvs H Q E h=>?_) (λcdv A outer s H vs Q E hr h=>?_)
  · obtain ⟨_,_,rfl,_⟩:=h
    rfl
  obtain ⟨κ,c,rfl,k⟩:=h
  refine ⟨_,(Zac (ZaD (Zaq ZdM (pv 0) Zad (Zaw _)) (Zae (Zan (Zao Zav (ZaU (Zaa Zad (Zaa Zad (Zaa (Zai Zbb (pv 0) Zad) (Zaa (Zai ZaN (Zai Zbg (pv 1) Zad) (pv 0)) Zab))))) (Zai Za0 (pv 1) Zad) (λ_ _=>rfl)))) Zar)
    (Zac (ZaD (Zaq Zbz (Zai Za0 (pv 1) Zad) Zad (Zaw _)) (Zae (Zan (Zbh (Zaa (Zai Zbb (Zai Za0 (Zai Zbg (pv 1) Zad) Zad) Zad) (Zaa Zad Zab))))) Zar)
    (Zae (Zan (Zak h_l_fraction hr (by rfl) (Zaa (Zai Zbb (Zai Za0 (Zai Zbg (pv 1) Zad) Zad) Zad) (Zaa (Zai ZaE Zad (Zai Za0 (Zai Zbg (pv 1) Zad) Zad)) Zab))))))),?_⟩
  refine ⟨_,rfl,_,_,rfl,rfl,_,rfl,?_⟩
  cases κ with
  | r p hp =>
    have h2:=hp.two
    refine Zdu (show (0:Int)<(KX.r p hp).P from Zgt) ⟨_,rfl,_,_,rfl,rfl,_,rfl,_,_,rfl,rfl,⟨by decide,by decide⟩,_,rfl,_,_,rfl,rfl,(show (p:Int)≠0 by omega),(by show 4<=sizeLine; decide),λl nl=>?_⟩
    obtain ⟨x4,e4⟩:=ZnG hp (c/4)
    have key:∃(v:V) (x:Fin p),atI [V.int 0,V.int 1,V.int ((p:Int)-1),V.int ((c/4).fmod p)] (c%4)=some v/\v = .int (x.val:Int):=by
      rcases (by omega:c%4=0\/c%4=1\/c%4=2\/c%4=3) with e | e | e | e <;> rw[e]
      · exact ⟨_,⟨0,by omega⟩,rfl,rfl⟩
      · exact ⟨_,⟨1,by omega⟩,rfl,rfl⟩
      · exact ⟨_,⟨p-1,by omega⟩,rfl,by show V.int ((p:Int)-1)=V.int (((p-1:Nat)):Int); congr 1; omega⟩
      · exact ⟨_,x4,rfl,by rw[e4]⟩
    obtain ⟨v,x,av,ev⟩:=key
    exact ⟨_,rfl,_,_,rfl,rfl,(by show (0:Int)<_; decide),l,_,_,_,rfl,rfl,SqL.of Zaf,av,k _ v x (Zag nl _) ev trivial⟩
  | q =>
    refine ZhQ (show ¬(0:Int)<0 by decide) ?_
    refine ⟨_,rfl,_,_,rfl,rfl,(by show (0:Int)<_; decide),rfl,_,rfl,?_⟩
    refine Zbn (λ_=>?_) (λ_=>?_)
    · obtain ⟨x,e1,e2⟩:=ZhS (n:=c/3%3-1) (d:=1) ⟨by decide,by rw[Int.gcd_one]⟩
      refine ⟨_,rfl,_,_,rfl,rfl,⟨by decide,by decide⟩,_,_,rfl,rfl,(by show (0:Int)<_; decide),_,_,rfl,rfl,(by show 2<=sizeLine; decide),λz nz=>?_⟩
      have ex:x=Rat.divInt (c/3%3-1) 1:=by rw[<-e1,<-e2,Qs]
      refine k _ _ x (Zag nz _) ⟨z,rfl,?_⟩ ?_
      · rw[Zaf,e1,e2]
      · rw[ex]; exact Zph (by decide) (by decide) (by omega)
    · refine ⟨_,rfl,_,_,rfl,rfl,⟨by decide,by decide⟩,_,_,rfl,rfl,(by show (0:Int)<_; decide),_,_,rfl,rfl,_,rfl,_,_,rfl,rfl,⟨by decide,by decide⟩,_,_,rfl,rfl,(by show (0:Int)<_; decide),_,_,rfl,rfl,c/3%19-9,1+c/57%4,rfl,by omega,Bits.of (Q6 (show _<2^3 by show _<8; omega) (Ql (by decide) (by decide))),λr nr=>?_⟩
      exact k _ _ (Rat.divInt (c/3%19-9) (1+c/57%4)) (Zag nr _) ⟨r,rfl,Zaf⟩ (Zph (by omega) (by omega) (by omega))
theorem sc_l_cut:FnScope ["_law_prime_here", "_law_numbers"] ["_law_prime_here", "_law_numbers"] (Zah ZgZ):=⟨rfl,rfl,rfl,by decide +kernel,rfl,by decide +kernel,by decide +kernel⟩
theorem Zk3(h:Here K mg "_law_cut" ZgZ) (T:Nm mg) (h_l_make:Has P w K mg base "_law_make" 1 ["_law_prime_here", "_law_number"] Za3):Has P w K mg base "_law_cut" 2 ["_law_prime_here", "_law_numbers"] ZdZ:=by
  refine h.has (λf fd F=>F.binds λ_ _ _ _ _ _ us hl=>by obtain ⟨_,_,rfl⟩:=Zdm hl; exact rfl) λf fd F=>F.ok sc_l_cut (λvs H Q E h=>?_) (λcdv A outer s H vs Q E hr h=>?_)
  · obtain ⟨_,_,_,_,rfl,_⟩:=h
    rfl
  obtain ⟨κ,a,xs,g,rfl,ha,al,k⟩:=h
  have nd:=sc_l_cut.nd
  refine ⟨_,(Zac (ZbM PassesOwn.never (Zla (Zaq ZdM (Zaj Zam (by rfl) T.len boot_len (Zaa (pv 1) Zab)) Zad (Zaw _)) (ZiX (Zaq (ZnC hr) (Zao Zav (pv 1) (Zai Zbb (Zaj Zam (by rfl) T.len boot_len (Zaa (pv 1) Zab)) Zad) (λ_ _=>rfl)) (Zak h_l_make hr (by rfl) (Zaa (pv 0) (Zaa Zad Zab))) (Zaw _)))).pt (Zae (Zal (i:=1) nd rfl (Or.inl rfl) (Za7 ZbQ (pv 1) ZbJ (Zbo (ZeJ ZcI Zad))))))
    (Zae (Zan (pv 1)))),?_⟩
  have lx:=al.1
  refine ⟨λmm σ H'=>∃(b:Addr) (r:Nat),mm=r/\σ=[some (.int κ.P),some (.ref b)]/\Same H H'/\H' b=some (.lst (xs.take r))/\r<=g.length/\(∀j,r<=j->g.getD j 0=0)/\(b=a\/H b=none),⟨_,a,g.length,rfl,rfl,Same.refl _,by rw[<-lx,Wa]; exact ha,Q2 _,λj hj=>?_,.inl rfl⟩,?_⟩
  · rw[Q4,Qp hj]; rfl
  rintro mm σ H' ⟨b,r,rfl,rfl,S,hb,hr',h0,fb⟩
  have lt:(xs.take mm).length=mm:=by rw[Q8]; omega
  refine ⟨_,rfl,b,_,rfl,.inl (SqL.of hb),_,_,rfl,rfl,_,rfl,?_⟩
  rw[lt]
  refine Zbm (λz=>?_) (λz=>?_)
  · have z:(0:Int)<(mm:Int):=z
    obtain ⟨v,hv,nv⟩:=Zbt al (i:=mm-1) (by omega)
    have hat:atI (xs.take mm) (((xs.take mm).length:Int)-1)=some v:=by
      rw[lt,show (mm:Int)-1=((mm-1:Nat):Int) by omega]
      refine ZaF ?_
      rw[W7,if_pos (by omega)]; exact hv
    refine ⟨_,rfl,_,rfl,b,_,rfl,.inl (SqL.of hb),_,_,rfl,rfl,b,_,_,v,rfl,rfl,SqL.of hb,hat,_,rfl,κ,0,0,rfl,ZjI,λH2 v0 S2 n0=>?_⟩
    obtain ⟨bb,eq,iff⟩:=ZoM (nv.same (S.trans S2)) n0
    refine ⟨bb,eq,_,rfl,?_⟩
    cases bb with
    | true =>
      have gz:=iff.mp rfl
      refine Ziv ⟨_,λ_ _ h=>h,?_⟩
      refine ⟨_,rfl,_,rfl,_,rfl,b,_,rfl,SqL.of (S2 _ _ hb),λp np=>?_⟩
      have ec:ZeK (xs.take mm) none (some (-1))=xs.take (mm-1):=by
        unfold ZeK
        rw[HT.sIx_none,List.drop_zero,Nat.sub_zero,lt]
        have:HT.sIx mm mm (some (-1))=mm-1:=by
          simp only[HT.sIx]
          rw[if_pos (by decide)]
          omega
        rw[this,List.take_take]
        congr 1
        omega
      refine ⟨mm-1,by omega,p,mm-1,rfl,rfl,(S.trans S2).trans (Zag np _),?_,by omega,λj hj=>?_,.inr ((S.trans S2).free np)⟩
      · rw[Zaf]
        exact congrArg (λz=>some (HO.lst z)) ec
      · by_cases e:j=mm-1
        · rw[e]; exact gz
        · exact h0 j (by omega)
    | false =>
      refine ZdP ?_
      exact ⟨_,rfl,k H2 b mm (S.trans S2) (S2 _ _ hb) hr' h0 (.inr λz=>by have:=iff.mpr z; cases this) fb⟩
  · have z:¬(0:Int)<(mm:Int):=z
    exact ⟨_,rfl,k H' b mm S hb hr' h0 (.inl (by omega)) fb⟩
theorem sc_l_poly_times:FnScope ["_law_prime_here", "_law_f", "_law_g", "_law_told", "_law_i", "_law_j"] ["_law_prime_here", "_law_f", "_law_g"] (Zah ZbT):=⟨rfl,rfl,rfl,by decide +kernel,rfl,by decide +kernel,by decide +kernel⟩
theorem ZeC(h:Here K mg "_law_poly_times" ZbT) (T:Nm mg) (h_l_make:Has P w K mg base "_law_make" 3 ["_law_prime_here", "_law_number"] Za3) (h_l_plus:Has P w K mg base "_law_plus" 3 ["_law_prime_here", "_law_one", "_law_other"] (ZaX λ_ x y=>x+y)) (h_l_times:Has P w K mg base "_law_times" 3 ["_law_prime_here", "_law_one", "_law_other"] (ZaX λ_ x y=>x*y)) (h_l_cut:Has P w K mg base "_law_cut" 3 ["_law_prime_here", "_law_numbers"] ZdZ):Has P w K mg base "_law_poly_times" 4 ["_law_prime_here", "_law_f", "_law_g"] Zbl:=by
  refine h.has (λf fd F=>F.binds λ_ _ _ _ _ _ us hl=>by obtain ⟨_,_,_,rfl⟩:=Zed hl; exact rfl) λf fd F=>F.ok sc_l_poly_times (λvs H Q E h=>?_) (λcdv A outer s H vs Q E hr h=>?_)
  · obtain ⟨_,_,_,_,_,_,_,_,_,_,_,rfl,_⟩:=h
    rfl
  obtain ⟨κ,fa,ga,xs,ys,F,G,Dd,Ee,M,N,rfl,hF,hG,aF,aG,lF,lG,qF,qG,hD,hE,lD,lM,k⟩:=h
  have nd:=sc_l_poly_times.nd
  refine ⟨_,(Zac (Zbc (i:=3) ["_law_k"] [(0, "_law_prime_here")] nd rfl rfl rfl (ZaB (by rfl) T.range (Zaa (Zai ZaE (Zaj Zam (by rfl) T.len boot_len (Zaa (pv 1) Zab)) (Zaj Zam (by rfl) T.len boot_len (Zaa (pv 2) Zab))) Zab)) (by exact λ_ _ _ _=>(Zap (i:=0) (show (["_law_k", "_law_prime_here"]:List Str).Nodup by decide +kernel) rfl (Or.inl rfl))) (by exact λ_ _ _ _=>(Zak h_l_make hr (by rfl) (Zaa (pv 1) (Zaa Zad Zab)))) ⟨⟨rfl,rfl,Or.inl rfl⟩,trivial⟩)
    (Zac (ZaQ PassesOwn.never rfl (ZaB (by rfl) T.range (Zaa (Zaj Zam (by rfl) T.len boot_len (Zaa (pv 1) Zab)) Zab)) (Zap (i:=4) nd rfl (Or.inl rfl)) (Zae (ZaQ PassesOwn.never rfl (ZaB (by rfl) T.range (Zaa (Zaj Zam (by rfl) T.len boot_len (Zaa (pv 2) Zab)) Zab)) (Zap (i:=5) nd rfl (Or.inl rfl)) (Zae (Zcg (Zak h_l_plus hr (by rfl) (Zaa (pv 0) (Zaa (Zao Zav (pv 3) (Zai ZaE (pv 4) (pv 5)) (λ_ _=>rfl)) (Zaa (Zak h_l_times hr (by rfl) (Zaa (pv 0) (Zaa (Zao Zav (pv 1) (pv 4) (λ_ _=>rfl)) (Zaa (Zao Zav (pv 2) (pv 5) (λ_ _=>rfl)) Zab)))) Zab)))) (Zcf (pv 3) (Zai ZaE (pv 4) (pv 5)) Za8))))))
    (Zae (Zan (Zak h_l_cut hr (by rfl) (Zaa (pv 0) (Zaa (pv 3) Zab))))))),?_⟩
  have lx:=aF.1
  have ly:=aG.1
  have hDE:=Qk hD hE
  have bM:F.length*(G.length*(M*N))<2^3000:=lM
  have mulb:∀ {x y:κ.F},QN κ Dd M x->QN κ Ee N y->1<=F.length->1<=G.length->B1 κ x/\B1 κ y/\B1 κ (x*y):=by
    intro x y hx hy f1 g1
    have m1:M*N<=F.length*(G.length*(M*N)):=by
      have a:1*(M*N)<=G.length*(M*N):=Qw _ g1
      have b:1*(G.length*(M*N))<=F.length*(G.length*(M*N)):=Qw _ f1
      omega
    refine ⟨hx.b1 hD lD.1 lD.2.2.1,hy.b1 hE lD.2.1 lD.2.2.2.1,(QN.mul hx hy).b1 hDE lD.2.2.2.2 (Q9 m1 bM)⟩
  refine ⟨_,rfl,fa,_,rfl,.inl (SqL.of hF),_,rfl,ga,_,rfl,.inl (SqL.of hG),_,_,rfl,rfl,(xs.length:Int)+(ys.length:Int),rfl,by omega,by omega,?_⟩
  rw[show ((xs.length:Int)+(ys.length:Int)).toNat=F.length+G.length by omega]
  refine Zbp (lo:=0) (n:=F.length+G.length) (λq zs H4=>Same H H4/\AllG (NR κ H4) zs (List.replicate q 0)) (by omega) ⟨Same.refl _,.nil⟩ ?_ ?_
  · rintro q zs H4 _ _ ⟨S4,e4⟩
    refine ⟨_,rfl,κ,0,0,rfl,ZjI,λH5 v0 S5 n0=>⟨S4.trans S5,?_⟩⟩
    rw[List.replicate_succ']
    exact (e4.mono λ_ _ n=>n.same S5).append (.one n0)
  rintro zs H1 _ ⟨S1,e1⟩ tb ntb1
  have Sd:=Zag ntb1 (.lst zs)
  have qt:=Zaf (H:=H1) (a:=tb) (o:=.lst zs)
  have e2:=e1.mono λ_ _ n=>n.same Sd
  have ntb:H tb=none:=S1.free ntb1
  have S2:=S1.trans Sd
  generalize upd H1 tb (.lst zs)=H2 at *
  rw[<-ZnJ] at e2
  refine ⟨_,rfl,fa,_,rfl,.inl (SqL.of (S2 _ _ hF)),(xs.length:Int),rfl,by omega,by omega,?_⟩
  rw[show ((xs.length:Int)).toNat=F.length by omega]
  refine ZaT (lo:=0) (n:=F.length) (λi σ H3=>∃(z4 z5:Option V) (zs:List V),σ=[some (.int κ.P),some (.ref fa),some (.ref ga),some (.ref tb),z4,z5]/\Same H H3/\H3 tb=some (.lst zs)/\AllG (NR κ H3) zs (ZbZ F G i 0)) ⟨_,_,zs,rfl,S2,qt,e2⟩ ?_ ?_
  · rintro i σ H3 hi ⟨z4,z5,zs,rfl,S3,q3,e3⟩
    refine ⟨_,rfl,ga,_,rfl,.inl (SqL.of (S3 _ _ hG)),(ys.length:Int),rfl,by omega,by omega,?_⟩
    rw[show ((ys.length:Int)).toNat=G.length by omega]
    refine ZaT (lo:=0) (n:=G.length) (λj σ H3=>∃(z5:Option V) (zs:List V),σ=[some (.int κ.P),some (.ref fa),some (.ref ga),some (.ref tb),some (.int (0+(i:Int))),z5]/\Same H H3/\H3 tb=some (.lst zs)/\AllG (NR κ H3) zs (ZbZ F G i j)) ⟨_,zs,rfl,S3,q3,e3⟩ ?_ ?_
    · rintro j σ H4 hj ⟨z5,zs,rfl,S4,q4,e4⟩
      have lz:=e4.1
      rw[ZaY] at lz
      obtain ⟨vt,hvt,nvt⟩:=Zbt e4 (i:=i+j) (by rw[ZaY]; omega)
      obtain ⟨vf,hvf,nvf⟩:=Zbt aF (i:=i) hi
      obtain ⟨vg,hvg,nvg⟩:=Zbt aG (i:=j) hj
      have mt:=Qe (Zcs (show i+j<(ZbZ F G i j).length by rw[ZaY]; omega))
      have bt:B1 κ ((ZbZ F G i j).getD (i+j) 0):=(Zmx hDE qF qG hi (by omega) _ mt).b1 hDE lD.2.2.2.2 bM
      obtain ⟨bf,bg,bfg⟩:=mulb (qF _ (Qe (Zcs hi))) (qG _ (Qe (Zcs hj))) (by omega) (by omega)
      have eij:(0+(i:Int))+(0+(j:Int))=((i+j:Nat):Int):=by omega
      refine ⟨_,rfl,_,rfl,_,rfl,_,rfl,_,_,rfl,rfl,tb,_,_,_,rfl,rfl,SqL.of q4,(by rw[eij]; exact ZaF hvt),_,rfl,_,rfl,_,rfl,fa,_,_,_,rfl,rfl,SqL.of (S4 _ _ hF),(by rw[Qm]; exact ZaF hvf),_,rfl,_,rfl,ga,_,_,_,rfl,rfl,SqL.of (S4 _ _ hG),(by rw[Qm]; exact ZaF hvg),κ,vf,vg,_,_,rfl,nvf.same S4,nvg.same S4,bf,bg,λH5 vp S5 np=>?_⟩
      refine ⟨κ,vt,vp,_,_,rfl,nvt.same S5,np,bt,bfg,λH6 v S6 nv=>?_⟩
      have S46:=S5.trans S6
      have q6:=S46 _ _ q4
      refine ⟨_,rfl,_,rfl,_,rfl,_,_,rfl,rfl,tb,zs,_,_,rfl,rfl,q6,(by rw[eij]; exact ZbF (Wb _) (by omega)),?_⟩
      rw[Qx]
      have O7:Off [tb] H6 (upd H6 tb (.lst (zs.set (i+j) v))):=Za9 (Same.refl H6)
      refine ⟨_,zs.set (i+j) v,rfl,Off.same O7 (S4.trans S46) (λz hz=>by rw[Q3.mp hz]; exact ntb),Zaf,?_⟩
      rw[ZjK hi hj]
      exact (e4.mono λ_ _ n=>(n.same S46).off q6 O7).set _ (nv.off q6 O7)
    · rintro σ H4 ⟨z5,zs,rfl,S4,q4,e4⟩
      rw[ZkN] at e4
      exact ⟨_,_,zs,rfl,S4,q4,e4⟩
  · rintro σ H3 ⟨z4,z5,zs,rfl,S3,q3,e3⟩
    refine ⟨_,rfl,_,rfl,κ,tb,zs,_,rfl,q3,e3,λH4 D r S4 hD4 lr h0 h1 fD=>?_⟩
    rw[ZaY] at lr
    refine k H4 D _ r (S3.trans S4) hD4 (ZcC (e3.mono λ_ _ n=>n.same S4) r) lr h0 h1 ?_
    rcases fD with rfl | fD
    · exact ntb
    · exact S3.free fD
end
section
variable{P:Program}{w:World}{K:PySem.W.Frag}{mg:Str->Option Value}{base:Heap}{CF CR:Addr}
theorem sc_l_is_row:FnScope ["_law_prime_here", "_law_found", "_law_many", "_law_one"] ["_law_prime_here", "_law_found", "_law_many"] (Zah Zdr):=⟨rfl,rfl,rfl,by decide +kernel,rfl,by decide +kernel,by decide +kernel⟩
theorem ZfX(h:Here K mg "_law_is_row" Zdr) (T:Nm mg) (h_l_is_number:Has P w K mg base "_law_is_number" 2 ["_law_prime_here", "_law_found"] ZdG):Has P w K mg base "_law_is_row" 3 ["_law_prime_here", "_law_found", "_law_many"] Zdd:=by
  refine h.has (λf fd F=>F.binds λ_ _ _ _ _ _ us hl=>by obtain ⟨_,_,_,rfl⟩:=Zed hl; exact rfl) λf fd F=>F.ok sc_l_is_row (λvs H Q E h=>?_) (λcdv A outer s H vs Q E hr h=>?_)
  · obtain ⟨_,_,_,_,rfl,_⟩:=h
    rfl
  obtain ⟨κ,a,xs,fl,rfl,ha,al,k⟩:=h
  have nd:=sc_l_is_row.nd
  refine ⟨_,(Zac (ZaD (Zc1 (Zci (ZaL (Zaj Zas (by rfl) T.isinstance boot_isinstance (Zaa (pv 1) (Zaa (ZcH (by rfl) T.list boot_list) Zab))))) (Zc0 (Zaq Zin (Zaj Zam (by rfl) T.len boot_len (Zaa (pv 1) Zab)) (pv 2) (Zaw _)))).pt (Zae (Zan Zdl)) Zar)
    (Zac (ZaQ PassesOwn.never rfl (ZaC (pv 1)) (Zap (i:=3) nd rfl (Or.inl rfl)) (Zae (ZaD (Zci (ZaL (Zak h_l_is_number hr (by rfl) (Zaa (pv 0) (Zaa (pv 3) Zab))))) (Zae (Zan Zdl)) Zar)))
    (Zae (Zan Zdl)))),?_⟩
  refine ⟨_,rfl,_,_,_,_,rfl,.of (.lst ha),.ty (Zb3 K _),_,rfl,ZdP ?_⟩
  refine ⟨_,rfl,a,_,rfl,.inl (SqL.of ha),_,rfl,rfl,_,rfl,?_⟩
  rw[al.1]
  refine Ze1 (λz=>absurd rfl z) (λ_=>?_)
  refine ⟨_,rfl,a,rfl,⟨_,SqL.of ha⟩,?_⟩
  refine Zbf (xs:=xs) (λj σ H4=>∃z3:Option V,σ=[some (.int κ.P),some (.ref a),some (.int (fl.length:Int)),z3]/\H4=H) ⟨_,rfl,rfl⟩ ?_ ?_ ?_
  · rintro j σ H4-⟨z3,rfl,rfl⟩
    exact SqL.of ha
  · rintro j u σ H4 hu ⟨z3,rfl,rfl⟩
    obtain ⟨x,hx',nx⟩:=al.get hu
    exact ⟨_,rfl,_,rfl,κ,u,x,rfl,nx,_,rfl,ZdP ⟨_,rfl,rfl⟩⟩
  · rintro σ H4 ⟨z3,rfl,rfl⟩
    exact k
theorem sc_l_spoil:FnScope ["_law_thing", "_law_one"] ["_law_thing"] (Zah Zc6):=⟨rfl,rfl,rfl,by decide +kernel,rfl,by decide +kernel,by decide +kernel⟩
theorem Zn4(h:Here K mg "_law_spoil" Zc6):Has P w K mg base "_law_spoil" 0 ["_law_thing"] spF :=
  h.has (λf fd F=>F.binds λ_ _ _ _ _ _ us hl=>by obtain ⟨_,rfl⟩:=Zjv hl; exact rfl) λf fd F=>⟨λ_ _ _ _ z=>z.elim,λ_ _ _ _ _ _ _ _ _ _ _ _ _ z=>z.elim⟩
theorem ZdA{j:Nat}{sp0:Sp}(h:Here K mg "_law_spoil" Zc6) (T:Nm mg) (h_l_spoil:Has P w K mg base "_law_spoil" j ["_law_thing"] sp0):Has P w K mg base "_law_spoil" (j+1) ["_law_thing"] (Zfa K sp0):=by
  refine h.has (λf fd F=>F.binds λ_ _ _ _ _ _ us hl=>by obtain ⟨_,rfl⟩:=Zjv hl; exact rfl) λf fd F=>F.ok sc_l_spoil (λvs H Q E h=>?_) (λcdv A outer s H vs Q E hr h=>?_)
  · obtain ⟨_,rfl,_⟩:=h
    rfl
  have nd:=sc_l_spoil.nd
  obtain ⟨v,rfl,⟨i,rfl,k⟩ | ⟨t,xs,Pv,rfl,ht,p0,pt,ps_,k⟩ | ⟨t,xs,Pv,rfl,ht,lx,p0,pt,ps_,k⟩⟩:=h
  · refine ⟨_,(Zac (ZaD (Zc1 (ZaL (Zaj Zas (by rfl) T.isinstance boot_isinstance (Zaa (pv 0) (Zaa (ZcH (by rfl) T.tuple boot_tuple) Zab)))) (Zc0 (ZaL (Zaj Zas (by rfl) T.isinstance boot_isinstance (Zaa (pv 0) (Zaa (ZcH (by rfl) T.list boot_list) Zab)))))).pt (Zae (ZaQ PassesOwn.never rfl (ZaC (pv 0)) (Zap (i:=1) nd rfl (Or.inl rfl)) (Zae (ZaZ (Zak h_l_spoil hr (by rfl) (Zaa (pv 1) Zab)))))) Zar)
      (Zae (ZaD (ZaL (Zaj Zas (by rfl) T.isinstance boot_isinstance (Zaa (pv 0) (Zaa (ZcH (by rfl) T.list boot_list) Zab)))) (Zae (ZaZ (Zd9 PySem.F.plainAttrs_list PySem.F.slot_list_append PySem.F.type_list_append Za5 (pv 0) (Zaa Zhz Zab)))) Zar))),?_⟩
    refine ⟨_,rfl,_,_,_,_,rfl,.of (.int i),.ty (ZfL K),_,rfl,ZdP ?_⟩
    refine ⟨_,rfl,_,_,_,_,rfl,.of (.int i),.ty (ZdH K),_,rfl,ZdP ?_⟩
    refine ⟨_,rfl,_,_,_,_,rfl,.of (.int i),.ty (ZdH K),_,rfl,ZdP ?_⟩
    exact k
  · refine ⟨_,(Zac (ZaD (Zc1 (ZaL (Zaj Zas (by rfl) T.isinstance boot_isinstance (Zaa (pv 0) (Zaa (ZcH (by rfl) T.tuple boot_tuple) Zab)))) (Zc0 (ZaL (Zaj Zas (by rfl) T.isinstance boot_isinstance (Zaa (pv 0) (Zaa (ZcH (by rfl) T.list boot_list) Zab)))))).pt (Zae (ZaQ PassesOwn.never rfl (Znm (pv 0)) (Zap (i:=1) nd rfl (Or.inl rfl)) (Zae (ZaZ (Zak h_l_spoil hr (by rfl) (Zaa (pv 1) Zab)))))) Zar)
      (Zae (ZaD (ZaL (Zaj Zas (by rfl) T.isinstance boot_isinstance (Zaa (pv 0) (Zaa (ZcH (by rfl) T.list boot_list) Zab)))) (Zae (ZaZ (Zd9 PySem.F.plainAttrs_list PySem.F.slot_list_append PySem.F.type_list_append Za5 (pv 0) (Zaa Zhz Zab)))) Zar))),?_⟩
    refine ⟨_,rfl,_,_,_,_,rfl,.of (.tup ht),.ty (Zb3 K _),_,rfl,Ziv ?_⟩
    refine ⟨_,rfl,t,rfl,⟨_,SqT.of ht⟩,?_⟩
    refine ZlS (xs:=xs) (λi σ H2=>∃z1:Option V,σ=[some (.ref t),z1]/\Pv i H2) ⟨_,rfl,p0⟩ ?_ ?_ ?_
    · rintro i σ H2 hi ⟨z1,rfl,p⟩
      exact SqT.of (pt i H2 hi p)
    · rintro i x σ H2 hx ⟨z1,rfl,p⟩
      exact ⟨_,rfl,ps_ i x H2 _ hx p λ_ H3 q=>⟨_,rfl,q⟩⟩
    · rintro σ H2 ⟨z1,rfl,p⟩
      refine ⟨_,rfl,_,_,_,_,rfl,.of (.tup (pt _ H2 (Q2 _) p)),.ty (ZeO K),_,rfl,ZdP ?_⟩
      exact k H2 p
  · refine ⟨_,(Zac (ZaD (Zc1 (ZaL (Zaj Zas (by rfl) T.isinstance boot_isinstance (Zaa (pv 0) (Zaa (ZcH (by rfl) T.tuple boot_tuple) Zab)))) (Zc0 (ZaL (Zaj Zas (by rfl) T.isinstance boot_isinstance (Zaa (pv 0) (Zaa (ZcH (by rfl) T.list boot_list) Zab)))))).pt (Zae (ZaQ PassesOwn.never rfl (ZaC (pv 0)) (Zap (i:=1) nd rfl (Or.inl rfl)) (Zae (ZaZ (Zak h_l_spoil hr (by rfl) (Zaa (pv 1) Zab)))))) Zar)
      (Zae (ZaD (ZaL (Zaj Zas (by rfl) T.isinstance boot_isinstance (Zaa (pv 0) (Zaa (ZcH (by rfl) T.list boot_list) Zab)))) (Zae (ZaZ (Zd9 PySem.F.plainAttrs_list PySem.F.slot_list_append PySem.F.type_list_append Za5 (pv 0) (Zaa Zhz Zab)))) Zar))),?_⟩
    refine ⟨_,rfl,_,_,_,_,rfl,.of (.lst ht),.ty (ZeP K),_,rfl,ZdP ?_⟩
    refine ⟨_,rfl,_,_,_,_,rfl,.of (.lst ht),.ty (Zb3 K _),_,rfl,Ziv ?_⟩
    refine ⟨_,rfl,t,rfl,⟨_,SqL.of ht⟩,?_⟩
    refine Zbf (xs:=xs) (λi σ H2=>∃z1:Option V,σ=[some (.ref t),z1]/\Pv i H2) ⟨_,rfl,p0⟩ ?_ ?_ ?_
    · rintro i σ H2 hi ⟨z1,rfl,p⟩
      exact SqL.of (pt i H2 hi p)
    · rintro i x σ H2 hx ⟨z1,rfl,p⟩
      exact ⟨_,rfl,ps_ i x H2 _ hx p λ_ H3 q=>⟨_,rfl,q⟩⟩
    · rintro σ H2 ⟨z1,rfl,p⟩
      have h2:=pt _ H2 (Q2 _) p
      refine ⟨_,rfl,_,_,_,_,rfl,.of (.lst h2),.ty (Zb3 K _),_,rfl,Ziv ?_⟩
      refine ⟨_,rfl,.inl ⟨rfl,_,SqL.of h2⟩,t,xs,.non,rfl,rfl,h2,Q6 (show xs.length<1000 by omega) (by decide),?_⟩
      exact k H2 p
theorem sc_l_poly_plus:FnScope ["_law_prime_here", "_law_f", "_law_g", "_law_told", "_law_k"] ["_law_prime_here", "_law_f", "_law_g"] (Zah Zcb):=⟨rfl,rfl,rfl,by decide +kernel,rfl,by decide +kernel,by decide +kernel⟩
theorem ZeU(h:Here K mg "_law_poly_plus" Zcb) (T:Nm mg) (Tm:mg "max" = none) (h_l_plus:Has P w K mg base "_law_plus" 3 ["_law_prime_here", "_law_one", "_law_other"] (ZaX λ_ x y=>x+y)) (h_l_cut:Has P w K mg base "_law_cut" 3 ["_law_prime_here", "_law_numbers"] ZdZ):Has P w K mg base "_law_poly_plus" 4 ["_law_prime_here", "_law_f", "_law_g"] ZcK:=by
  refine h.has (λf fd F=>F.binds λ_ _ _ _ _ _ us hl=>by obtain ⟨_,_,_,rfl⟩:=Zed hl; exact rfl) λf fd F=>F.ok sc_l_poly_plus (λvs H Q E h=>?_) (λcdv A outer s H vs Q E hr h=>?_)
  · obtain ⟨_,_,_,_,_,_,_,rfl,_⟩:=h
    rfl
  obtain ⟨κ,fa,ga,xs,ys,F,G,rfl,⟨hF,aF⟩,⟨hG,aG⟩,lF,lG,bF,bG,k⟩:=h
  have nd:=sc_l_poly_plus.nd
  refine ⟨_,(Zac (Zal (i:=3) nd rfl (Or.inl rfl) (ZaU Zab))
    (Zac (ZaQ PassesOwn.never rfl (ZaB (by rfl) T.range (Zaa (Zaj (Zd5 rfl) (by rfl) Tm PyProof.Rows.Boot.max (Zaa (Zaj Zam (by rfl) T.len boot_len (Zaa (pv 1) Zab)) (Zaa (Zaj Zam (by rfl) T.len boot_len (Zaa (pv 2) Zab)) Zab))) Zab)) (Zap (i:=4) nd rfl (Or.inl rfl)) (Zae (ZaD (Zaq ZlU (pv 4) (Zaj Zam (by rfl) T.len boot_len (Zaa (pv 1) Zab)) (Zaw _)) (Zae (ZaZ (Zd9 PySem.F.plainAttrs_list PySem.F.slot_list_append PySem.F.type_list_append Za5 (pv 3) (Zaa (Zao Zav (pv 2) (pv 4) (λ_ _=>rfl)) Zab)))) (Zae (ZaD (Zaq ZlU (pv 4) (Zaj Zam (by rfl) T.len boot_len (Zaa (pv 2) Zab)) (Zaw _)) (Zae (ZaZ (Zd9 PySem.F.plainAttrs_list PySem.F.slot_list_append PySem.F.type_list_append Za5 (pv 3) (Zaa (Zao Zav (pv 1) (pv 4) (λ_ _=>rfl)) Zab)))) (Zae (ZaZ (Zd9 PySem.F.plainAttrs_list PySem.F.slot_list_append PySem.F.type_list_append Za5 (pv 3) (Zaa (Zak h_l_plus hr (by rfl) (Zaa (pv 0) (Zaa (Zao Zav (pv 1) (pv 4) (λ_ _=>rfl)) (Zaa (Zao Zav (pv 2) (pv 4) (λ_ _=>rfl)) Zab)))) Zab)))))))))
    (Zae (Zan (Zak h_l_cut hr (by rfl) (Zaa (pv 0) (Zaa (pv 3) Zab))))))),?_⟩
  have lx:=aF.1
  have ly:=aG.1
  refine ⟨(by show 0<=sizeLine; decide),λtb ntb=>?_⟩
  have St:=Zag ntb (.lst [])
  have qt:=Zaf (H:=H) (a:=tb) (o:=.lst [])
  generalize upd H tb (.lst [])=H1 at *
  obtain ⟨n,hn⟩:∃n,n=max F.length G.length:=⟨_,rfl⟩
  have en:(if (ys.length:Int)>(xs.length:Int) then (ys.length:Int) else (xs.length:Int))=(n:Int):=by
    split <;> omega
  refine ⟨_,rfl,fa,_,rfl,.inl (SqL.of (St _ _ hF)),_,rfl,ga,_,rfl,.inl (SqL.of (St _ _ hG)),_,_,rfl,(n:Int),(by rw[<-en]),by omega,by omega,?_⟩
  rw[Qx]
  refine ZaT (lo:=0) (n:=n) (λi σ H3=>∃(z4:Option V) (zs:List V),σ=[some (.int κ.P),some (.ref fa),some (.ref ga),some (.ref tb),z4]/\Same H H3/\H3 tb=some (.lst zs)/\AllG (NR κ H3) zs ((ZfT F G).take i)) ⟨_,[],rfl,St,qt,by rw[List.take_zero]; exact .nil⟩ ?_ ?_
  · rintro i σ H3 hi ⟨z4,zs,rfl,S3,q3,e3⟩
    have lz:=e3.1
    have la:=Zd2 F G
    rw[Q8] at lz
    have hlt:zs.length<1000:=by omega
    have ea:(ZfT F G).take (i+1)=(ZfT F G).take i++[F.getD i 0+G.getD i 0]:=by
      rw[W9,Zcs (show i<(ZfT F G).length by omega),ZfU]; rfl
    have next:∀(v:V) (H4:Hp),Same H3 H4->NR κ H4 v (F.getD i 0+G.getD i 0)->∃(z4:Option V) (zs':List V),[some (V.int κ.P),some (V.ref fa),some (V.ref ga),some (V.ref tb),some (V.int (0+(i:Int)))]=[some (.int κ.P),some (.ref fa),some (.ref ga),some (.ref tb),z4]/\Same H (upd H4 tb (.lst (zs++[v])))/\upd H4 tb (.lst (zs++[v])) tb=some (.lst zs')/\AllG (NR κ (upd H4 tb (.lst (zs++[v])))) zs' ((ZfT F G).take (i+1)):=by
      intro v H4 S4 nv
      have q4:=S4 _ _ q3
      have O:Off [tb] H4 (upd H4 tb (.lst (zs++[v]))):=Za9 (Same.refl H4)
      refine ⟨_,zs++[v],rfl,Off.same O (S3.trans S4) (λz hz=>by rw[Q3.mp hz]; exact ntb),Zaf,?_⟩
      rw[ea]
      exact (e3.mono λ_ _ n=>(n.same S4).off q4 O).append (.one (nv.off q4 O))
    refine ⟨_,rfl,_,rfl,fa,_,rfl,.inl (SqL.of (S3 _ _ hF)),_,_,rfl,rfl,_,rfl,?_⟩
    by_cases A:F.length<=i
    · obtain ⟨v,hv,nv⟩:=Zbt aG (i:=i) (by omega)
      refine Zdu (show (xs.length:Int)<=0+(i:Int) by omega) ?_
      refine ⟨_,rfl,.inl ⟨rfl,_,SqL.of q3⟩,_,rfl,_,rfl,ga,_,_,v,rfl,rfl,SqL.of (S3 _ _ hG),(by rw[Qm]; exact ZaF hv),tb,zs,_,rfl,rfl,q3,Q6 hlt (by decide),next v H3 (Same.refl _) ?_⟩
      have e:F.getD i 0+G.getD i 0=G.getD i 0:=by rw[ZaP A]; grind
      rw[e]; exact nv.same S3
    refine ZhQ (show ¬(xs.length:Int)<=0+(i:Int) by omega) ?_
    obtain ⟨vf,hvf,nvf⟩:=Zbt aF (i:=i) (by omega)
    refine ⟨_,rfl,_,rfl,ga,_,rfl,.inl (SqL.of (S3 _ _ hG)),_,_,rfl,rfl,_,rfl,?_⟩
    by_cases B:G.length<=i
    · refine Zdu (show (ys.length:Int)<=0+(i:Int) by omega) ?_
      refine ⟨_,rfl,.inl ⟨rfl,_,SqL.of q3⟩,_,rfl,_,rfl,fa,_,_,vf,rfl,rfl,SqL.of (S3 _ _ hF),(by rw[Qm]; exact ZaF hvf),tb,zs,_,rfl,rfl,q3,Q6 hlt (by decide),next vf H3 (Same.refl _) ?_⟩
      have e:F.getD i 0+G.getD i 0=F.getD i 0:=by rw[ZaP B]; grind
      rw[e]; exact nvf.same S3
    refine ZhQ (show ¬(ys.length:Int)<=0+(i:Int) by omega) ?_
    obtain ⟨vg,hvg,nvg⟩:=Zbt aG (i:=i) (by omega)
    refine ⟨_,rfl,.inl ⟨rfl,_,SqL.of q3⟩,_,rfl,_,rfl,_,rfl,fa,_,_,vf,rfl,rfl,SqL.of (S3 _ _ hF),(by rw[Qm]; exact ZaF hvf),_,rfl,_,rfl,ga,_,_,vg,rfl,rfl,SqL.of (S3 _ _ hG),(by rw[Qm]; exact ZaF hvg),κ,vf,vg,_,_,rfl,nvf.same S3,nvg.same S3,bF _ (Qe (Zcs (by omega))),bG _ (Qe (Zcs (by omega))),λH4 v S4 nv=>?_⟩
    exact ⟨tb,zs,_,rfl,rfl,S4 _ _ q3,Q6 hlt (by decide),next v H4 S4 nv⟩
  · rintro σ H3 ⟨z4,zs,rfl,S3,q3,e3⟩
    have la:=Zd2 F G
    rw[hn,<-la,Wa] at e3
    refine ⟨_,rfl,_,rfl,κ,tb,zs,_,rfl,q3,e3,λH4 D r S4 hD lr r0 r1 _=>?_⟩
    exact k H4 D _ r (S3.trans S4) ⟨hD,ZcC (e3.mono λ_ _ n=>n.same S4) r⟩ lr r0 r1
theorem ZiT:FnScope ["_law_prime_here", "_law_one", "_law_other"] ["_law_prime_here", "_law_one", "_law_other"] (Zah Zei):=⟨rfl,rfl,rfl,by decide +kernel,rfl,by decide +kernel,by decide +kernel⟩
theorem ZgF(h:Here K mg "_law_minus" Zei) (h_l_make:Has P w K mg base "_law_make" 3 ["_law_prime_here", "_law_number"] Za3) (h_l_plus:Has P w K mg base "_law_plus" 3 ["_law_prime_here", "_law_one", "_law_other"] (ZaX λ_ x y=>x+y)) (h_l_times:Has P w K mg base "_law_times" 3 ["_law_prime_here", "_law_one", "_law_other"] (ZaX λ_ x y=>x*y)):Has P w K mg base "_law_minus" 4 ["_law_prime_here", "_law_one", "_law_other"] (ZaX λ_ x y=>x-y):=by
  refine h.has (λf fd F=>F.binds λ_ _ _ _ _ _ us hl=>by obtain ⟨_,_,_,rfl⟩:=Zed hl; exact rfl) λf fd F=>F.ok ZiT (λvs H Q E h=>?_) (λcdv A outer s H vs Q E hr h=>?_)
  · obtain ⟨_,_,_,_,_,rfl,_⟩:=h
    rfl
  obtain ⟨κ,u,v,x,y,rfl,nu,nv,bx,by_,k⟩:=h
  refine ⟨_,(Zae (Zan (Zak h_l_plus hr (by rfl) (Zaa (pv 0) (Zaa (pv 1) (Zaa (Zak h_l_times hr (by rfl) (Zaa (pv 0) (Zaa (Zak h_l_make hr (by rfl) (Zaa (pv 0) (Zaa (ZeJ ZcI Zad) Zab))) (Zaa (pv 2) Zab)))) Zab)))))),?_⟩
  refine ⟨_,rfl,_,rfl,_,rfl,_,rfl,_,rfl,κ,-1,Km1 κ,rfl,Zgw,λH1 vm S1 nm=>?_⟩
  refine ⟨_,rfl,κ,vm,v,_,_,rfl,nm,nv.same S1,ZkO,by_,λH2 t S2 nt=>?_⟩
  have nt:NR κ H2 t (Km1 κ*y):=nt
  rw[Zde] at nt
  refine ⟨κ,u,t,_,_,rfl,nu.same (S1.trans S2),nt,bx,Zlm by_,λH3 t3 S3 nt3=>?_⟩
  have nt3:NR κ H3 t3 (x+(0-y)):=nt3
  refine k H3 t3 (S1.trans (S2.trans S3)) ?_
  show NR κ H3 t3 (x-y)
  rw[show x-y=x+(0-y) by grind]
  exact nt3
theorem ZgG:FnScope ["_law_cells", "_law_k"] ["_law_cells", "_law_k"] (Zah ZcV):=⟨rfl,rfl,rfl,by decide +kernel,rfl,by decide +kernel,by decide +kernel⟩
theorem ZgH(h:Here K mg "_law_cell_at" ZcV) (T:Nm mg):Has P w K mg base "_law_cell_at" 1 ["_law_cells", "_law_k"] (Zcw K):=by
  refine h.has (λf fd F=>F.binds λ_ _ _ _ _ _ us hl=>by obtain ⟨_,_,rfl⟩:=Zdm hl; exact rfl) λf fd F=>F.ok ZgG (λvs H Q E h=>?_) (λcdv A outer s H vs Q E hr h=>?_)
  · obtain ⟨_,_,_,rfl,_⟩:=h
    rfl
  obtain ⟨a,cs,i,rfl,ha,i0,k⟩:=h
  refine ⟨_,(Zac (ZaD (Zaq Zio (pv 1) (Zaj Zam (by rfl) T.len boot_len (Zaa (pv 0) Zab)) (Zaw _)) (Zae (Zan (Zao Zav (pv 0) (pv 1) (λ_ _=>rfl)))) Zar)
    (Zae (Zan Zad))),?_⟩
  refine ⟨_,rfl,_,rfl,a,_,rfl,.inl ha,_,_,rfl,rfl,_,rfl,?_⟩
  rw[Q1]
  refine Zbm (λz=>?_) (λz=>k 0)
  have z:i<(cs.length:Int):=z
  have e:i=((i.toNat:Nat):Int):=by omega
  exact ⟨_,rfl,_,rfl,a,_,_,_,rfl,rfl,ha,(by rw[e]; exact ZnD (i:=i.toNat) (by omega)),k _⟩
end
end My
namespace My
open PySem L2 PyProof.Rows
section
variable{P:Program}{w:World}{K:PySem.W.Frag}{mg:Str->Option Value}{base:Heap}
theorem sc_l_chain:FnScope ["_law_prime_here", "_law_cell", "_law_most", "_law_one", "_law_chain_here", "_law_f", "_law_left", "_law_k", "_law_size", "_law_h"] ["_law_prime_here", "_law_cell", "_law_most"] (Zah Zel):=⟨rfl,rfl,rfl,by decide +kernel,rfl,by decide +kernel,by decide +kernel⟩
theorem ZgI(h:Here K mg "_law_chain" Zel) (T:Nm mg) (Tm:mg "max" = none) (h_l_make:Has P w K mg base "_law_make" 4 ["_law_prime_here", "_law_number"] Za3) (h_l_mixed:Has P w K mg base "_law_mixed" 4 ["_law_cell", "_law_k"] Zfb) (h_l_drawn:Has P w K mg base "_law_drawn" 4 ["_law_prime_here", "_law_number"] ZcZ) (h_l_poly_times:Has P w K mg base "_law_poly_times" 4 ["_law_prime_here", "_law_f", "_law_g"] Zbl):Has P w K mg base "_law_chain" 5 ["_law_prime_here", "_law_cell", "_law_most"] ZdI:=by
  refine h.has (λf fd F=>F.binds λ_ _ _ _ _ _ us hl=>by obtain ⟨_,_,_,rfl⟩:=Zed hl; exact rfl) λf fd F=>F.ok sc_l_chain (λvs H Q E h=>?_) (λcdv A outer s H vs Q E hr h=>?_)
  · obtain ⟨_,_,_,rfl,_⟩:=h
    rfl
  obtain ⟨κ,c,most,rfl,m1,m7,k⟩:=h
  have nd:=sc_l_chain.nd
  refine ⟨_,(Zac (Zal (i:=3) nd rfl (Or.inl rfl) (Zak h_l_make hr (by rfl) (Zaa (pv 0) (Zaa Zad Zab))))
    (Zac (Zal (i:=4) nd rfl (Or.inl rfl) (ZaU Zab))
    (Zac (Zal (i:=5) nd rfl (Or.inl rfl) (ZaU (Zaa (pv 3) Zab)))
    (Zac (Zal (i:=6) nd rfl (Or.inl rfl) (pv 2))
    (Zac (ZaQ PassesOwn.never rfl (ZaB (by rfl) T.range (Zaa Zad Zab)) (Zap (i:=7) nd rfl (Or.inr rfl)) (Zac (Zal (i:=8) nd rfl (Or.inl rfl) (Zao Zav (ZaU (Zaa Zad (Zaa Zad (Zaa Zad (Zaa Zad (Zaa Zad Zab)))))) (Zai Za0 (Zak h_l_mixed hr (by rfl) (Zaa (pv 1) (Zaa (Zai ZdD Zad (pv 7)) Zab))) Zad) (λ_ _=>rfl)))
      (Zac (ZaD (Zaq Zbz (Zaj Zam (by rfl) T.len boot_len (Zaa (pv 5) Zab)) Zad (Zaw _)) (Zae (Zal (i:=8) nd rfl (Or.inl rfl) (Zaj (Zd5 rfl) (by rfl) Tm PyProof.Rows.Boot.max (Zaa Zad (Zaa (pv 8) Zab))))) Zar)
      (Zac (Zal (i:=9) nd rfl (Or.inl rfl) (Zai Zjg (Zbj ["_law_j"] [(0, "_law_prime_here"),(1, "_law_cell"),(7, "_law_k")] rfl (ZaB (by rfl) T.range (Zaa (pv 8) Zab)) (by exact λ_ _ _ _=>(Zap (i:=0) (show (["_law_j", "_law_prime_here", "_law_cell", "_law_k"]:List Str).Nodup by decide +kernel) rfl (Or.inl rfl))) (by exact λ_ _ _ _=>(Zak h_l_drawn hr (by rfl) (Zaa (pv 1) (Zaa (Zak h_l_mixed hr (by rfl) (Zaa (pv 2) (Zaa (Zai ZaE (Zai ZaE (Zai ZdD Zad (pv 3)) Zad) (pv 0)) Zab))) Zab)))) ⟨⟨rfl,rfl,Or.inl rfl⟩,⟨⟨rfl,rfl,Or.inl rfl⟩,⟨⟨rfl,rfl,Or.inl rfl⟩,trivial⟩⟩⟩) (ZaU (Zaa (pv 3) Zab))))
      (Zac (Zal (i:=5) nd rfl (Or.inl rfl) (Zak h_l_poly_times hr (by rfl) (Zaa (pv 0) (Zaa (pv 5) (Zaa (pv 9) Zab)))))
      (Zac (ZaD (Zaq ZdM (Zai Zbb (Zaj Zam (by rfl) T.len boot_len (Zaa (pv 5) Zab)) Zad) (pv 6) (Zaw _)) (Zae Zkr) Zar)
      (Zac (Zal (i:=4) nd rfl (Or.inl rfl) (Zai Zjg (ZaU (Zaa (pv 5) Zab)) (pv 4)))
      (Zae (Zal (i:=6) nd rfl (Or.inl rfl) (Zai ZaE (Zai Zbb (pv 6) (Zaj Zam (by rfl) T.len boot_len (Zaa (pv 5) Zab))) Zad))))))))))
    (Zac (ZaD (Zaq (ZnI hr) (pv 4) (ZaU Zab) (Zaw _)) (Zae (Zal (i:=4) nd rfl (Or.inl rfl) (ZaU (Zaa (ZaU (Zaa (Zak h_l_drawn hr (by rfl) (Zaa (pv 0) (Zaa (Zak h_l_mixed hr (by rfl) (Zaa (pv 1) (Zaa Zad Zab))) Zab))) (Zaa (pv 3) Zab))) Zab)))) Zar)
    (Zae (Zan (pv 4))))))))),?_⟩
  refine ⟨_,rfl,κ,1,1,rfl,Zdb,λH1 v1 S1 n1=>?_⟩
  refine ⟨(by show 0<=sizeLine; decide),λca nca=>?_⟩
  have Sc:=Zag nca (.lst [])
  have qc:=Zaf (H:=H1) (a:=ca) (o:=.lst [])
  generalize upd H1 ca (.lst [])=H2 at *
  refine ⟨_,rfl,(by show 1<=sizeLine; decide),λfa nfa=>?_⟩
  have Sf:=Zag nfa (.lst [v1])
  have qf:=Zaf (H:=H2) (a:=fa) (o:=.lst [v1])
  generalize upd H2 fa (.lst [v1])=H3 at *
  have S12:=Sc.trans Sf
  have S03:=S1.trans S12
  refine ⟨_,rfl,?_⟩
  refine ⟨(7:Int),rfl,by decide,by decide,?_⟩
  rw[show (7:Int).toNat=7 from rfl]
  refine' ZoO (C:=λσ H4=>∃(ca:Addr) (z5 z6 z7 z8 z9:Option V),σ=[some (.int κ.P),some (.int c),some (.int most),some v1,some (.ref ca),z5,z6,z7,z8,z9]/\Same H1 H4/\∃left:Int,0<=left/\Chm κ H4 ca 7 most left) (λkk=>?loop) ?rest
  case loop =>
    refine ZaT (lo:=0) (n:=7) (λi σ H4=>∃(ca fa:Addr) (left:Int) (z7 z8 z9:Option V) (xs:List V) (G:List κ.F),σ=[some (.int κ.P),some (.int c),some (.int most),some v1,some (.ref ca),some (.ref fa),some (.int left),z7,z8,z9]/\Same H1 H4/\(0<=left/\Chm κ H4 ca i most left)/\left<=7/\H4 fa=some (.lst xs)/\AllG (NR κ H4) xs G/\Mon G/\G.length<=8/\∀x∈G,QN κ (12^i) (2^(12*i)) x) ⟨ca,fa,most,_,_,_,[v1],[1],rfl,S12,⟨by omega,[],[],Sf _ _ qc,.nil,Q2 _,by show (0:Int)+most=most; omega,λz h=>nomatch h⟩,m7,qf,.one (n1.same S12),⟨Q2 1,rfl⟩,(show 1<=8 by decide),λx hx=>by rw[Q3.mp hx]; exact Zgv⟩ ?body (λσ H4 p=>kk σ H4 ?fin)
    case fin =>
      obtain ⟨ca,fa,left,z7,z8,z9,xs,G,rfl,S4,ch,-⟩:=p
      exact ⟨ca,_,_,_,_,_,rfl,S4,left,ch⟩
    case body =>
      rintro i σ H4 hi ⟨ca,fa,left,z7,z8,z9,xs,G,rfl,S4,⟨l0,ch⟩,l7,hF,aF,mF,lF,qF⟩
      refine ⟨(by show 5<=sizeLine; decide),λl nl=>?_⟩
      have Sl:=Zag nl (.lst [.int 0,.int 1,.int 1,.int 2,.int 3])
      have ql:=Zaf (H:=H4) (a:=l) (o:=.lst [.int 0,.int 1,.int 1,.int 2,.int 3])
      generalize upd H4 l (.lst [.int 0,.int 1,.int 1,.int 2,.int 3])=H5 at *
      refine ⟨_,rfl,_,rfl,_,_,rfl,rfl,.inl ⟨by decide,by decide⟩,c,9*(0+(i:Int)),rfl,by omega,λmx=>?_⟩
      obtain ⟨n0,en,n3⟩:=ZoN mx
      refine ⟨_,_,rfl,rfl,(by show (0:Int)<_; decide),l,_,_,_,rfl,rfl,SqL.of ql,en,?_⟩
      have S45:=S4.trans Sl
      have ch5:=ch.same Sl
      have hF5:=Sl _ _ hF
      have aF5:=aF.mono λ_ _ n=>n.same Sl
      clear ch hF aF S4 ql nl
      generalize hvs:V.int (n0:Int)=vs_
      have dA:∃n:Nat,vs_ = .int (n:Int)/\n<=3:=⟨n0,hvs.symm,n3⟩
      clear hvs en
      revert vs_
      refine' Zn3 (C:=λvs_=>∃n:Nat,vs_ = .int (n:Int)/\n<=3) (C':=λvs_=>∃n:Nat,vs_ = .int (n:Int)/\n<=3/\(xs.length=1->1<=n)) (λk1 vs_ dA=>?first) ?second
      case first =>
        obtain ⟨n,e1,n3⟩:=dA
        refine ⟨_,rfl,fa,_,rfl,.inl (SqL.of hF5),rfl,_,rfl,?_⟩
        refine Zbn (λz=>?_) (λz=>?_)
        case refine_2=>exact k1 vs_ ⟨n,e1,n3,λy=>absurd (show (xs.length:Int)=1 by omega) z⟩
        refine ⟨_,rfl,1,(n:Int),(by rw[e1]),?_⟩
        refine k1 _ ⟨if n>1 then n else 1,?_,by split <;> omega,λ_=>by split <;> omega⟩
        by_cases y:n>1
        · rw[if_pos y,if_pos (by omega)]
        · rw[if_neg y,if_neg (by omega)]; rfl
      case second =>
        rintro vs_ ⟨n,rfl,n3,n1'⟩
        refine ⟨_,rfl,(n:Int),rfl,by omega,by omega,?_⟩
        rw[Qx]
        refine Zbp (lo:=0) (n:=n) (λq ys H6=>Same H5 H6/\∃g:List κ.F,AllG (NR κ H6) ys g/\g.length=q/\∀x∈g,QN κ 12 108 x) (by omega) ⟨Same.refl _,[],.nil,rfl,λx h=>nomatch h⟩ ?_ ?_
        · rintro q ys H6 hq _ ⟨S6,g,ag,lg,qg⟩
          refine ⟨_,rfl,_,rfl,_,rfl,_,_,rfl,rfl,.inl ⟨by decide,by decide⟩,_,_,rfl,rfl,_,rfl,_,_,rfl,rfl,c,9*(0+(i:Int))+1+(0+(q:Int)),rfl,by omega,λmx=>?_⟩
          refine ⟨κ,mx,rfl,λH7 v x S7 nv qv=>⟨S6.trans S7,g++[x],(ag.mono λ_ _ n=>n.same S7).append (.one nv),by rw[Q7,lg]; rfl,λy hy=>?_⟩⟩
          rcases Qq.mp hy with z | z
          · exact qg y z
          · rw[Q3.mp z]; exact qv
        rintro ys H6 _ ⟨S6,g,ag,lg,qg⟩ ha nha
        have Sa:=Zag nha (.lst ys)
        have qa:=Zaf (H:=H6) (a:=ha) (o:=.lst ys)
        have ag7:=ag.mono λ_ _ n=>n.same Sa
        generalize upd H6 ha (.lst ys)=H7 at *
        refine ⟨_,rfl,(by show 1<=sizeLine; decide),λhb nhb=>?_⟩
        have Sb:=Zag nhb (.lst [v1])
        have qb:=Zaf (H:=H7) (a:=hb) (o:=.lst [v1])
        generalize upd H7 hb (.lst [v1])=H8 at *
        have ly:=ag.1
        refine ⟨ha,hb,ys,[v1],rfl,rfl,Sb _ _ qa,qb,Q0 (show ys.length+1<=1000 by omega) (by decide),λhc nhc=>?_⟩
        have Sc':=Zag nhc (.lst (ys++[v1]))
        have qh:=Zaf (H:=H8) (a:=hc) (o:=.lst (ys++[v1]))
        have S59:=S6.trans (Sa.trans (Sb.trans Sc'))
        have aG:AllG (NR κ (upd H8 hc (.lst (ys++[v1])))) (ys++[v1]) (g++[1]):=(ag7.mono λ_ _ n=>n.same (Sb.trans Sc')).append (.one (n1.same (S45.trans S59)))
        generalize upd H8 hc (.lst (ys++[v1]))=H9 at *
        have lG:(g++[1]).length=n+1:=by rw[Q7,lg]; rfl
        have qG:∀x∈g++[1],QN κ 12 108 x:=λx hx=>by
          rcases Qq.mp hx with z | z
          · exact qg x z
          · rw[Q3.mp z]; exact ZdX
        have mG:Mon (g++[1]):=⟨by omega,by
          rw[lG,Q4,W5 (by omega),lg]
          simp⟩
        obtain ⟨z1,z2,z3⟩:=ZhU (i:=i) (by omega)
        obtain ⟨y1,y2,y3⟩:=ZhU (i:=i+1) (by omega)
        have eD:(12:Int)^i*12=12^(i+1):=(Qy 12 i).symm
        have lM:G.length*((g++[1]).length*(2^(12*i)*108))<=2^(12*(i+1)):=ZmA lF (by omega)
        refine ⟨_,rfl,_,rfl,_,rfl,κ,fa,hc,xs,ys++[v1],G,g++[1],12^i,12,2^(12*i),108,rfl,S59 _ _ hF5,qh,aF5.mono (λ_ _ n=>n.same S59),aG,by omega,by omega,qF,qG,z1,by decide,⟨z2,Q6 (show (12:Int).natAbs<2^4 by decide) (Ql (by decide) (by decide)),z3,Q6 (show 108<2^7 by decide) (Ql (by decide) (by decide)),by rw[eD]; exact y2⟩,Q9 lM y3,λHa R zs r Sa' hR aR lr r0 r1 nR=>?_⟩
        obtain ⟨er,mR⟩:=ZhT mF mG lr r0 r1
        have qR:∀x∈(ZbZ G (g++[1]) G.length 0).take r,QN κ (12^(i+1)) (2^(12*(i+1))) x:=λx hx=>by
          have:=(ZfK (Qk z1 (by decide)) qF qG x (We hx)).mono lM
          rw[eD] at this; exact this
        have lR:((ZbZ G (g++[1]) G.length 0).take r).length=r:=by rw[Q8,ZaY]; omega
        generalize (ZbZ G (g++[1]) G.length 0).take r=R2 at *
        have lzs:=aR.1
        have S5a:=S59.trans Sa'
        have S1a:=S45.trans S5a
        have chA:=ch5.same S5a
        refine ⟨_,rfl,R,_,rfl,.inl (SqL.of hR),_,_,rfl,rfl,_,rfl,_,_,rfl,rfl,_,rfl,?_⟩
        refine Zbm (λz=>?_) (λz=>?_)
        · obtain ⟨as,fs,c1,c2,c3,cs,c4⟩:=chA
          exact kk _ Ha ⟨ca,_,_,_,_,_,rfl,S1a,left,l0,as,fs,c1,c2,by omega,cs,c4⟩
        · have z:¬(left<(zs.length:Int)-1):=z
          obtain ⟨as,fs,c1,c2,c3,cs,c4⟩:=chA
          have lx:=aF5.1
          have lfs:=c2.1
          refine ⟨_,rfl,(by show 1<=sizeLine; decide),λpa npa=>?_⟩
          have Sp:=Zag npa (.lst [.ref R])
          have qp:=Zaf (H:=Ha) (a:=pa) (o:=.lst [.ref R])
          generalize upd Ha pa (.lst [.ref R])=Hb at *
          refine ⟨_,rfl,pa,ca,[.ref R],as.map V.ref,rfl,rfl,qp,Sp _ _ c1,Q0 (show 1+(as.map V.ref).length<=1000 by rw[Q1]; omega) (by decide),λcb ncb=>?_⟩
          have Scb:=Zag ncb (.lst ([.ref R]++as.map V.ref))
          have qcb:=Zaf (H:=Hb) (a:=cb) (o:=.lst ([.ref R]++as.map V.ref))
          generalize upd Hb cb (.lst ([.ref R]++as.map V.ref))=Hc at *
          have Sac:=Sp.trans Scb
          refine ⟨_,rfl,_,rfl,R,_,rfl,.inl (SqL.of (Sac _ _ hR)),_,_,rfl,rfl,_,_,rfl,rfl,?_⟩
          refine ⟨cb,R,left-(zs.length:Int)+1,_,_,_,zs,R2,rfl,S1a.trans Sac,⟨by omega,R::as,R2::fs,qcb,(c2.same Sac).cons (Sac _ _ hR) (aR.mono λ_ _ n=>n.same Sac),by rw[Wl]; omega,?_,λf hf=>?_⟩,?_,Sac _ _ hR,aR.mono (λ_ _ n=>n.same Sac),mR,by omega,qR⟩
          · show ((R2.length-1+ZbP fs:Nat):Int)+_=most
            have:=mR.1
            omega
          · rcases Qh.mp hf with e | e
            · rw[e]
              exact ⟨mR,by have:=mF.1; omega,by omega,λx hx=>Zib (by omega) (qR x hx)⟩
            · exact c4 f e
          · have:=mR.1
            omega
  case rest =>
    rintro σ H4 ⟨ca,z5,z6,z7,z8,z9,rfl,S4,ch⟩
    obtain ⟨left,l0,as,fs,c1,c2,c3,cs,c4⟩:=ch
    refine ⟨_,rfl,(by show 0<=sizeLine; decide),λe0 ne0=>?_⟩
    have Se:=Zag ne0 (.lst [])
    have qe:=Zaf (H:=H4) (a:=e0) (o:=.lst [])
    generalize upd H4 e0 (.lst [])=H5 at *
    have S15:=S4.trans Se
    refine ⟨ca,e0,_,rfl,rfl,Se _ _ c1,qe,_,rfl,?_⟩
    refine Zbm (λz=>?_) (λz=>?_)
    · refine ⟨_,rfl,_,rfl,c,70,rfl,by decide,λmx=>?_⟩
      refine ⟨κ,mx,rfl,λH6 v x S6 nv qv=>?_⟩
      refine ⟨_,rfl,(by show 2<=sizeLine; decide),λra nra=>?_⟩
      have Sr:=Zag nra (.lst [v,v1])
      have qr:=Zaf (H:=H6) (a:=ra) (o:=.lst [v,v1])
      generalize upd H6 ra (.lst [v,v1])=H7 at *
      refine ⟨(by show 1<=sizeLine; decide),λcb ncb=>?_⟩
      have Scb:=Zag ncb (.lst [.ref ra])
      have qcb:=Zaf (H:=H7) (a:=cb) (o:=.lst [.ref ra])
      generalize upd H7 cb (.lst [.ref ra])=H8 at *
      have S68:=Sr.trans Scb
      have S18:=S15.trans (S6.trans S68)
      refine ⟨_,rfl,k H8 cb [ra] [[x,1]] (S1.trans S18) qcb (RowsX.cons .nil (Scb _ _ qr) (AllG.append (xs:=[v]) (.one (nv.same S68)) (.one (n1.same S18)))) ⟨Q2 1,(show 1<=7 by decide),by show ((2-1+0:Nat):Int)<=most; omega,λf hf=>?_⟩⟩
      rw[Q3.mp hf]
      refine ⟨⟨(show 1<=2 by decide),rfl⟩,Q2 2,(show 2<=8 by decide),λy hy=>?_⟩
      rcases Qh.mp hy with e | e
      · rw[e]; exact ZeB qv
      · rw[Q3.mp e]; exact ZeB ZdX
    · have lfs:=c2.1
      rw[Q1] at z
      exact ⟨_,rfl,k H5 ca as fs (S1.trans S15) (Se _ _ c1) (c2.same Se) ⟨by omega,c3,by omega,c4⟩⟩
end
end My
namespace My
open PySem L2 PyProof.Rows
section
variable{P:Program}{w:World}{K:PySem.W.Frag}{mg:Str->Option Value}{base:Heap}{CF CR CE cK cN cF cT cI cX cM cR:Addr}
theorem sc_l_rows_by:FnScope ["_law_prime_here", "_law_cells", "_law_at", "_law_rows", "_law_columns", "_law_told", "_law_i"] ["_law_prime_here", "_law_cells", "_law_at", "_law_rows", "_law_columns"] (Zah ZcW):=⟨rfl,rfl,rfl,by decide +kernel,rfl,by decide +kernel,by decide +kernel⟩
theorem ZgJ(h:Here K mg "_law_rows_by" ZcW) (T:Nm mg) (h_l_drawn:Has P w K mg base "_law_drawn" 3 ["_law_prime_here", "_law_number"] ZcZ) (h_l_cell_at:Has P w K mg base "_law_cell_at" 3 ["_law_cells", "_law_k"] (Zcw K)):Has P w K mg base "_law_rows_by" 4 ["_law_prime_here", "_law_cells", "_law_at", "_law_rows", "_law_columns"] ZdJ:=by
  refine h.has (λf fd F=>F.binds λ_ _ _ _ _ _ us hl=>by obtain ⟨_,_,_,_,_,rfl⟩:=Zpg hl; exact rfl) λf fd F=>F.ok sc_l_rows_by (λvs H Q E h=>?_) (λcdv A outer s H vs Q E hr h=>?_)
  · obtain ⟨_,_,_,_,_,_,rfl,_⟩:=h
    rfl
  obtain ⟨κ,ca,cs,a0,n,m,rfl,hC,a1,a2,n7,m7,k⟩:=h
  have nd:=sc_l_rows_by.nd
  refine ⟨_,(Zac (Zal (i:=5) nd rfl (Or.inl rfl) (ZaU Zab))
    (Zac (ZaQ PassesOwn.never rfl (ZaB (by rfl) T.range (Zaa (pv 3) Zab)) (Zap (i:=6) nd rfl (Or.inr rfl)) (Zae (ZaZ (Zd9 PySem.F.plainAttrs_list PySem.F.slot_list_append PySem.F.type_list_append Za5 (pv 5) (Zaa (Zbj ["_law_j"] [(0, "_law_prime_here"),(1, "_law_cells"),(2, "_law_at"),(4, "_law_columns"),(6, "_law_i")] rfl (ZaB (by rfl) T.range (Zaa (pv 4) Zab)) (by exact λ_ _ _ _=>(Zap (i:=0) (show (["_law_j", "_law_prime_here", "_law_cells", "_law_at", "_law_columns", "_law_i"]:List Str).Nodup by decide +kernel) rfl (Or.inl rfl))) (by exact λ_ _ _ _=>(Zak h_l_drawn hr (by rfl) (Zaa (pv 1) (Zaa (Zak h_l_cell_at hr (by rfl) (Zaa (pv 2) (Zaa (Zai ZaE (Zai ZaE (pv 3) (Zai Zay (pv 4) (pv 5))) (pv 0)) Zab))) Zab)))) ⟨⟨rfl,rfl,Or.inl rfl⟩,⟨⟨rfl,rfl,Or.inl rfl⟩,⟨⟨rfl,rfl,Or.inl rfl⟩,⟨⟨rfl,rfl,Or.inl rfl⟩,⟨⟨rfl,rfl,Or.inl rfl⟩,trivial⟩⟩⟩⟩⟩) Zab)))))
    (Zae (Zan (pv 5))))),?_⟩
  refine ⟨(by show 0<=sizeLine; decide),λtb ntb=>?_⟩
  have St:=Zag ntb (.lst [])
  have qt:=Zaf (H:=H) (a:=tb) (o:=.lst [])
  generalize upd H tb (.lst [])=H1 at *
  refine ⟨_,rfl,(n:Int),rfl,by omega,by omega,?_⟩
  rw[Qx]
  refine ZaT (lo:=0) (n:=n) (λi σ H3=>∃(z6:Option V) (rs:List Addr) (R:List (List κ.F)),σ=[some (.int κ.P),some (.ref ca),some (.int a0),some (.int (n:Int)),some (.int (m:Int)),some (.ref tb),z6]/\Same H H3/\H3 tb=some (.lst (rs.map V.ref))/\RowsX κ H3 rs R/\R.length=i/\Wid m R/\AllR (QN κ ((12:Nat):Int) 108) R/\tb∉rs/\rs.Nodup/\∀a∈rs,H a=none) ⟨_,[],[],rfl,St,qt,.nil,rfl,(λf h=>nomatch h),(λf h=>nomatch h),(λz=>nomatch z),List.nodup_nil,λa h=>nomatch h⟩ ?_ ?_
  · rintro i σ H3 hi ⟨z6,rs,R,rfl,S3,hT,rx,lR,wd,qR,nt,ndr,fr⟩
    have lr:=rx.1
    refine ⟨_,rfl,.inl ⟨rfl,_,SqL.of hT⟩,_,rfl,(m:Int),rfl,by omega,by omega,?_⟩
    rw[Qx]
    refine Zbp (lo:=0) (n:=m) (λq ys H4=>Same H3 H4/\∃g:List κ.F,AllG (NR κ H4) ys g/\g.length=q/\∀x∈g,QN κ 12 108 x) (by omega) ⟨Same.refl _,[],.nil,rfl,λx h=>nomatch h⟩ ?_ ?_
    · rintro q ys H4 hq _ ⟨S4,g,ag,lg,qg⟩
      refine ⟨_,rfl,_,rfl,_,rfl,_,rfl,_,rfl,_,_,rfl,rfl,ZaO (Q0 (show ((m:Int)).natAbs<=1000 by omega) (by decide)) (Q0 (show ((0+(i:Int))).natAbs<=1000 by omega) (by decide)),_,_,rfl,rfl,_,rfl,_,_,rfl,rfl,ca,cs,_,rfl,SqL.of ((S3.trans S4) _ _ hC),?_,λc=>?_⟩
      · have:0<=(m:Int)*(0+(i:Int)):=Up (by omega) (by omega)
        omega
      · refine ⟨κ,c,rfl,λH7 v x S7 nv qv=>⟨S4.trans S7,g++[x],(ag.mono λ_ _ n=>n.same S7).append (.one nv),by rw[Q7,lg]; rfl,λy hy=>?_⟩⟩
        rcases Qq.mp hy with z | z
        · exact qg y z
        · rw[Q3.mp z]; exact qv
    rintro ys H4 _ ⟨S4,g,ag,lg,qg⟩ rw_ nrw4
    have nrw:H3 rw_=none:=S4.free nrw4
    have nwr:=rx.notin nrw
    have nwt:rw_≠tb:=λz=>by rw[z,hT] at nrw; cases nrw
    have Sw:=Zag nrw4 (.lst ys)
    have qw:=Zaf (H:=H4) (a:=rw_) (o:=.lst ys)
    have S5:=S4.trans Sw
    have e5:=ag.mono λ_ _ n=>n.same Sw
    generalize upd H4 rw_ (.lst ys)=H5 at *
    have hT5:=S5 _ _ hT
    refine ⟨tb,_,_,rfl,rfl,hT5,Q6 (show (rs.map V.ref).length<1000 by rw[Q1]; omega) (by decide),?_⟩
    have O9:Off [tb] H5 (upd H5 tb (.lst (rs.map V.ref++[.ref rw_]))):=Za9 (Same.refl H5)
    refine ⟨_,rs++[rw_],R++[g],rfl,Off.same O9 (S3.trans S5) (λz hz=>by rw[Q3.mp hz]; exact ntb),by rw[Zaf,Qu]; rfl,((rx.same S5).off nt hT5 O9).snoc (O9 _ _ (λz=>nwt (Q3.mp z)) qw) (e5.mono λ_ _ n=>n.off hT5 O9),by rw[Q7,lR]; rfl,wd.snoc lg,qR.snoc qg,λz=>?_,Zdv ndr nwr,λz hz=>?_⟩
    · rcases Qq.mp z with q | q
      · exact nt q
      · exact nwt (Q3.mp q).symm
    · rcases Qq.mp hz with q | q
      · exact fr z q
      · rw[Q3.mp q]; exact S3.free nrw
  · rintro σ H3 ⟨z6,rs,R,rfl,S3,hT,rx,lR,wd,qR,nt,ndr,fr⟩
    exact ⟨_,rfl,k H3 tb rs R S3 hT rx lR wd qR fr ndr⟩
theorem sc_l_refused:FnScope ["_law_kind_here", "_law_table", "_law_got", "e"] ["_law_kind_here", "_law_table"] (Zah ZcX):=⟨rfl,rfl,rfl,by decide +kernel,rfl,by decide +kernel,by decide +kernel⟩
theorem ZeV(h:Here K mg "_law_refused" ZcX) (T:Nm mg) (R:Rf K mg CE cK cN cF cT cI cX cM cR) (Z:Rz K mg "NoFit" CE cF [cK,cN,cT,cI,cX,cM,cR]) (h_great:HasX P w K mg base "great" 7 ["kind", "A"] (ZfS CF CR cF)):Has P w K mg base "_law_refused" 8 ["_law_kind_here", "_law_table"] (ZcL CF CR):=by
  refine h.has (λf fd F=>F.binds λ_ _ _ _ _ _ us hl=>by obtain ⟨_,_,rfl⟩:=Zdm hl; exact rfl) λf fd F=>F.ok sc_l_refused (λvs H Q E h=>?_) (λcdv A outer s H vs Q E hr h=>?_)
  · obtain ⟨_,_,_,_,_,_,rfl,_⟩:=h
    rfl
  obtain ⟨κ,sk,ta,rs,Rr,m,rfl,hk,tb,ne,k⟩:=h
  have nd:=sc_l_refused.nd
  refine ⟨_,(Zac (Zal (i:=2) nd rfl (Or.inl rfl) Zhz)
    (Zac (Znz R.cat nd (i:=3) rfl rfl (by rfl) (by exact λE pn xe hp=>(Zae (ZaZ (Zfp h_great hp hr (by rfl) (Zaa (pv 0) (Zaa (pv 1) Zab)))))) (by exact λe=>(Zae (Zal (i:=2) nd rfl (Or.inl rfl) (pv 3)))))
    (Zac (ZaD (Zc1 (ZaL (Zaj Zas (by rfl) T.isinstance boot_isinstance (Zaa (pv 2) (Zaa (Zb0 (v:=.ref cK) (by rfl) R.k.m rfl) Zab)))) (Zc1 (ZaL (Zaj Zas (by rfl) T.isinstance boot_isinstance (Zaa (pv 2) (Zaa (Zb0 (v:=.ref cN) (by rfl) R.n.m rfl) Zab)))) (Zc1 (ZaL (Zaj Zas (by rfl) T.isinstance boot_isinstance (Zaa (pv 2) (Zaa (Zb0 (v:=.ref cT) (by rfl) R.t.m rfl) Zab)))) (Zc0 (ZaL (Zaj Zas (by rfl) T.isinstance boot_isinstance (Zaa (pv 2) (Zaa (Zb0 (v:=.ref cI) (by rfl) R.i.m rfl) Zab)))))))).pt (Zae (Zan Zdl)) Zar)
    (Zac (ZaD (Zc1 (ZaL (Zaj Zas (by rfl) T.isinstance boot_isinstance (Zaa (pv 2) (Zaa (Zb0 (v:=.ref cX) (by rfl) R.x.m rfl) Zab)))) (Zc1 (ZaL (Zaj Zas (by rfl) T.isinstance boot_isinstance (Zaa (pv 2) (Zaa (Zb0 (v:=.ref cM) (by rfl) R.m.m rfl) Zab)))) (Zc0 (ZaL (Zaj Zas (by rfl) T.isinstance boot_isinstance (Zaa (pv 2) (Zaa (Zb0 (v:=.ref cR) (by rfl) R.r.m rfl) Zab))))))).pt (Zae (Zan Zdl)) Zar)
    (Zae (Zan (Zd4 (Zaj Zas (by rfl) T.isinstance boot_isinstance (Zaa (pv 2) (Zaa (Zb0 (v:=.ref cF) (by rfl) R.f.m rfl) Zab))) (ZeY (Zaj Zas (by rfl) T.isinstance boot_isinstance (Zaa (pv 2) (Zaa (ZcH (by rfl) R.ve PyProof.Rows.Boot.«ValueError») Zab))))))))))),?_⟩
  obtain ⟨oK,oN,oT,oI,oX,oM,oR,_⟩:=Z.o
  intro pn xe
  refine ⟨_,rfl,_,rfl,κ,sk,ta,rs,Rr,m,rfl,hk,tb,(λ_=>?_),(λz=>absurd z ne)⟩
  refine ⟨cF,rfl,Z.e,λe he=>?_⟩
  refine ⟨_,rfl,?_⟩
  have he':=Zaf (H:=H) (a:=e) (o:=Zmf e cF none)
  have S1:=Zag he (Zmf e cF none)
  generalize upd H e (Zmf e cF none)=H1 at *
  have hx:TyX K H1 (.ref e) (.ref cF):=.exc he' Z.c.cls
  refine ⟨_,rfl,_,_,_,_,rfl,hx,.ref (R.k.no oK),_,rfl,ZdP ?_⟩
  refine ⟨_,rfl,_,_,_,_,rfl,hx,.ref (R.n.no oN),_,rfl,ZdP ?_⟩
  refine ⟨_,rfl,_,_,_,_,rfl,hx,.ref (R.t.no oT),_,rfl,ZdP ?_⟩
  refine ⟨_,rfl,_,_,_,_,rfl,hx,.ref (R.i.no oI),_,rfl,ZdP ?_⟩
  refine ⟨_,rfl,_,_,_,_,rfl,hx,.ref (R.x.no oX),_,rfl,ZdP ?_⟩
  refine ⟨_,rfl,_,_,_,_,rfl,hx,.ref (R.m.no oM),_,rfl,ZdP ?_⟩
  refine ⟨_,rfl,_,_,_,_,rfl,hx,.ref (R.r.no oR),_,rfl,ZdP ?_⟩
  refine ⟨_,rfl,_,_,_,_,rfl,hx,.ref ZkF,_,rfl,Ziv ?_⟩
  exact ⟨_,rfl,_,_,_,_,rfl,hx,.ty (ZoC K Z.v),k _ S1⟩
end
end My
namespace My
open PySem L2 PyProof.Rows
namespace Rg
section
variable{α:Type}[Lean.Grind.CommRing α]
theorem con_lin0(c:α):Ps.con c=lin c 0:=Ps.ext λn=>by
  show (if n=0 then c else 0)=(if n=0 then c else if n=1 then 0 else 0)
  split
  · rfl
  · split <;> rfl
theorem zero_lin:(0:Ps α)=lin 0 0:=con_lin0 0
theorem one_lin:(1:Ps α)=lin 1 0:=con_lin0 1
theorem lin_sub0(x y:α):0-lin x y=lin (0-x) (0-y):=Ps.ext λn=>by
  rw[Ps.c_sub,Ps.c_zero]
  show 0-(if n=0 then x else if n=1 then y else 0)=(if n=0 then 0-x else if n=1 then 0-y else 0)
  split
  · rfl
  · split
    · rfl
    · grind
end
end Rg
section
variable{κ:KX}
noncomputable def bkT:List (List κ.F)->Nat->Nat->κ.F
  | [],_,_=>0
  | f::fs,r,k=>if r<f.length-1 then (if k<f.length-1 then (if k+1=r then 1 else 0)+(if k+2=f.length then 0-f.getD r 0 else 0) else 0) else if k<f.length-1 then 0 else bkT fs (r-(f.length-1)) (k-(f.length-1))
theorem ZcF(f:List κ.F)(fs:List (List κ.F))(r k:Nat):bkT (f::fs) r k=if r<f.length-1 then (if k<f.length-1 then (if k+1=r then 1 else 0)+(if k+2=f.length then 0-f.getD r 0 else 0) else 0) else if k<f.length-1 then 0 else bkT fs (r-(f.length-1)) (k-(f.length-1)):=rfl
noncomputable def ZeW:List (List κ.F)->Sr κ
  | []=>1
  | f::fs=>sr f*ZeW fs
theorem Zkd(g:κ.F)(G:List κ.F):sr (g::G)=Rg.Ps.con g+Rg.lin 0 1*sr G:=Rg.Ps.ext λn=>by
  rw[Rg.Ps.c_add]
  have e:Rg.lin 0 1*sr G=sr G*Rg.lin 0 1:=by
    generalize (Rg.lin 0 1:Sr κ)=a
    grind
  rw[e,Rg.mul_lin]
  cases n with
  | zero =>
    show g=g+((sr G).c 0*0+0)
    grind
  | succ n =>
    show G.getD n 0=0+((sr G).c (n+1)*0+G.getD n 0*1)
    grind
theorem Zn5(v u:Sr κ):∀(gs:List κ.F) (v u:Sr κ),Rg.hn (Rg.lin 0 1) v u (gs.map Rg.Ps.con)=u+v*sr (gs++[1])
  | [],v,u=>by
    show v+u=u+v*sr [1]
    have:sr [(1:κ.F)]=1:=Zfg
    rw[this]; grind
  | g::gs,v,u=>by
    show Rg.hn (Rg.lin 0 1) (v*Rg.lin 0 1) (u+v*Rg.Ps.con g) (gs.map Rg.Ps.con)=u+v*sr (g::(gs++[1]))
    rw[Zn5 v u gs,Zkd]
    generalize (Rg.lin 0 1:Sr κ)=a
    generalize sr (gs++[1])=b
    generalize Rg.Ps.con g=c
    grind
theorem Zke{f:List κ.F}(m:Mon f)(l:2<=f.length):∃f0 mid,f=f0::(mid++[1]):=by
  match f,m,l with
  | f0::t,m,l =>
    have tn:t≠[]:=λz=>by rw[z] at l; exact absurd l (by show ¬2<=1; decide)
    refine ⟨f0,t.dropLast,?_⟩
    have e:=List.dropLast_concat_getLast tn
    have e2:t.getLast tn=1:=by
      have:=m.2
      rw[Wl,Nat.add_sub_cancel,Q4] at this
      have l0:0<t.length:=by cases t with
        | nil=>exact absurd rfl tn
        | cons=>exact Nat.succ_pos _
      rw[show t.length=(t.length-1)+1 by omega,List.getElem?_cons_succ,Q5 (by omega)] at this
      rw[List.getLast_eq_getElem]
      exact this
    rw[e2] at e
    rw[e]
theorem ZoT(f0:κ.F)(mid:List κ.F)(fs:List (List κ.F))(r k:Nat):Rg.xa (bkT ((f0::(mid++[1]))::fs)) r k=Rg.gb (Rg.lin 0 1) (Rg.lin 0 1) (Rg.Ps.con f0) (mid.map Rg.Ps.con) (Rg.xa (bkT fs)) r k:=by
  have l:(f0::(mid++[1])).length=mid.length+2:=by rw[Wl,Q7]; rfl
  unfold Rg.xa Rg.gb
  rw[Q1]
  show Rg.lin (0-bkT ((f0::(mid++[1]))::fs) r k) _=_
  rw[ZcF,l,show mid.length+2-1=mid.length+1 by omega]
  by_cases h1:r<mid.length+1
  · rw[if_pos h1,if_pos h1]
    by_cases h2:k<mid.length+1
    · rw[if_pos h2,if_pos h2]
      have e3:(k+2=mid.length+2)=(k=mid.length):=by simp
      simp only[e3]
      by_cases h0:r=0
      · subst h0
        rw[if_pos rfl,if_neg (show ¬k+1=0 by omega)]
        by_cases q0:k=0
        · rw[if_pos q0,if_pos q0.symm]
          by_cases q:k=mid.length
          · rw[if_pos q,if_pos q,Rg.con_lin0,Rg.lin_add]
            congr 1
            · show 0-(0+(0-f0))=0+f0; grind
            · grind
          · rw[if_neg q,if_neg q,Rg.zero_lin,Rg.lin_add]
            congr 1 <;> grind
        · rw[if_neg q0,if_neg (show ¬0=k from λz=>q0 z.symm)]
          by_cases q:k=mid.length
          · rw[if_pos q,if_pos q,Rg.con_lin0,Rg.zero_lin,Rg.lin_add]
            congr 1
            · show 0-(0+(0-f0))=0+f0; grind
            · grind
          · rw[if_neg q,if_neg q,Rg.zero_lin,Rg.lin_add]
            congr 1 <;> grind
      · rw[if_neg h0]
        have eg:(mid.map Rg.Ps.con).getD (r-1) 0=Rg.Ps.con ((f0::(mid++[1])).getD r 0):=by
          rw[Q4,Qc,Q4,show r=(r-1)+1 by omega,List.getElem?_cons_succ,show r-1+1-1=r-1 by omega,Qv (by omega),Q5 (show r-1<mid.length by omega)]
          rfl
        rw[eg]
        generalize (f0::(mid++[1])).getD r 0=y
        have sy:(r=k)=(k=r):=propext ⟨Eq.symm,Eq.symm⟩
        simp only[sy]
        rw[Rg.con_lin0]
        by_cases q1:k+1=r
        · rw[if_pos q1,if_neg (show ¬k=r by omega),if_pos q1,if_neg (show ¬k=r by omega)]
          by_cases q:k=mid.length
          · omega
          · rw[if_neg q,if_neg q,Rg.one_lin,Rg.lin_sub0,Rg.zero_lin,Rg.lin_add,Rg.lin_add]
            congr 1 <;> grind
        · rw[if_neg q1,if_neg q1]
          by_cases q2:k=r
          · rw[if_pos q2,if_pos q2]
            by_cases q:k=mid.length
            · rw[if_pos q,if_pos q,Rg.zero_lin,Rg.lin_add,Rg.lin_add]
              congr 1 <;> grind
            · rw[if_neg q,if_neg q,Rg.zero_lin,Rg.lin_add,Rg.lin_add]
              congr 1 <;> grind
          · rw[if_neg q2,if_neg q2]
            by_cases q:k=mid.length
            · rw[if_pos q,if_pos q,Rg.zero_lin,Rg.lin_add,Rg.lin_add]
              congr 1 <;> grind
            · rw[if_neg q,if_neg q,Rg.zero_lin,Rg.lin_add,Rg.lin_add]
              congr 1 <;> grind
    · rw[if_neg h2,if_neg h2,if_neg (show ¬r=k by omega),Rg.zero_lin]
      congr 1; grind
  · rw[if_neg h1,if_neg h1]
    by_cases h2:k<mid.length+1
    · rw[if_pos h2,if_pos h2,if_neg (show ¬r=k by omega),Rg.zero_lin]
      congr 1; grind
    · rw[if_neg h2,if_neg h2]
      congr 1
      by_cases q:r=k
      · rw[if_pos q,if_pos (by omega)]
      · rw[if_neg q,if_neg (by omega)]
theorem ZlF:∀(fs:List (List κ.F)),(∀f∈fs,PolM f)->Rg.chi (ZbP fs) (bkT fs)=ZeW fs
  | [],_=>rfl
  | f::fs,h=>by
    have hf:=h f (.head _)
    obtain ⟨f0,mid,rfl⟩:=Zke hf.m hf.l2
    have l:(f0::(mid++[1])).length=mid.length+2:=by rw[Wl,Q7]; rfl
    show Rg.det ((f0::(mid++[1])).length-1+ZbP fs) _=sr (f0::(mid++[1]))*ZeW fs
    rw[l,show mid.length+2-1=mid.length+1 by omega]
    have e:=Rg.det_gb (Rg.lin 0 1) (ZbP fs) (Rg.xa (bkT fs)) (mid.map Rg.Ps.con) (Rg.lin 0 1) (Rg.Ps.con f0)
    rw[Q1,Zn5 0 0,show Rg.det (ZbP fs) (Rg.xa (bkT fs))=ZeW fs from ZlF fs λf hf=>h f (.tail _ hf),<-Zkd] at e
    rw[<-e]
    exact Rg.det_congr λi j _ _=>ZoT f0 mid fs i j
end
end My
namespace My
open PySem L2 PyProof.Rows
section
variable{κ:KX}
noncomputable def tab(n:Nat)(a:Nat->Nat->κ.F):List (List κ.F):=(List.range n).map λi=>(List.range n).map (a i)
theorem Zax(n:Nat)(a:Nat->Nat->κ.F):(tab n a).length=n:=by unfold tab; rw[Q1,W3]
theorem Zbv{n i:Nat}(a:Nat->Nat->κ.F)(h:i<n):(tab n a)[i]?=some ((List.range n).map (a i)):=by
  unfold tab
  rw[Qc,W8 h]
  rfl
theorem ZmT(n:Nat)(a:Nat->Nat->κ.F):Wid n (tab n a):=λf hf=>by
  obtain ⟨i,_,rfl⟩:=W4.mp hf
  rw[Q1,W3]
theorem ZmU{n i j:Nat}(a:Nat->Nat->κ.F)(hi:i<n)(hj:j<n):ent (tab n a) i j=a i j:=by
  unfold ent
  rw[Q4,Q4 (l:=tab n a),Zbv a hi]
  show ((List.range n).map (a i))[j]?.getD 0=a i j
  rw[Qc,W8 hj]
  rfl
theorem Zkf{n:Nat}{a b:Nat->Nat->κ.F}(h:∀i j,i<n->j<n->a i j=b i j):tab n a=tab n b:=by
  unfold tab
  refine Uk λi hi=>Uk λj hj=>?_
  exact h i j (Wx.mp hi) (Wx.mp hj)
theorem Zn6{n:Nat}{R:List (List κ.F)}(l:R.length=n)(w:Wid n R):R=tab n (ent R):=by
  refine Ua λi=>?_
  by_cases h:i<n
  · rw[Zbv _ h,Q5 (by omega)]
    congr 1
    refine Ua λj=>?_
    have lw:R[i].length=n:=w _ (Wd _)
    by_cases g:j<n
    · rw[Qc,W8 g,Q5 (by omega)]
      show some _=some (ent R i j)
      unfold ent
      rw[Q4,Q4 (l:=R),Q5 (show i<R.length by omega)]
      show some R[i][j]=some (R[i][j]?.getD 0)
      rw[Q5 (by omega)]
      rfl
    · rw[Qp (by omega),Qp (by rw[Q1,W3]; omega)]
  · rw[Qp (by omega),Qp (by rw[Zax]; omega)]
theorem ZmV{n:Nat}{a:Nat->Nat->κ.F}{Pr:κ.F->Prop}(h:∀i j,i<n->j<n->Pr (a i j)):AllR Pr (tab n a):=λf hf x hx=>by
  obtain ⟨i,hi,rfl⟩:=W4.mp hf
  obtain ⟨j,hj,rfl⟩:=W4.mp hx
  exact h i j (Wx.mp hi) (Wx.mp hj)
theorem ZmW(n:Nat)(a:Nat->Nat->κ.F):Rg.chi n (ent (tab n a))=Rg.chi n a:=by
  unfold Rg.chi
  refine Rg.det_congr λi j hi hj=>?_
  unfold Rg.xa
  rw[ZmU a hi hj]
noncomputable def Zic(a:Nat->Nat->κ.F)(i j:Nat)(x:κ.F):Nat->Nat->κ.F:=λr k=>if r=i/\k=j then x else a r k
theorem ZmX{n i j:Nat}(a:Nat->Nat->κ.F)(x:κ.F)(hj:j<n):(tab n a).set i (((List.range n).map (a i)).set j x)=tab n (Zic a i j x):=by
  refine Ua λr=>?_
  rw[Wu]
  by_cases h:i=r
  · subst h
    rw[if_pos rfl,Zax]
    by_cases g:i<n
    · rw[if_pos g,Zbv _ g]
      congr 1
      refine Ua λk=>?_
      rw[Wu,Qc]
      by_cases q:j=k
      · subst q
        rw[if_pos rfl,if_pos (by rw[Q1,W3]; exact hj),Qc,W8 hj]
        show some x=some (Zic a i j x i j)
        unfold Zic
        rw[if_pos ⟨rfl,rfl⟩]
      · rw[if_neg q,Qc]
        by_cases q2:k<n
        · rw[W8 q2]
          show some (a i k)=some (Zic a i j x i k)
          unfold Zic
          rw[if_neg (λz=>q z.2.symm)]
        · rw[Qp (by rw[W3]; omega)]
          rfl
    · rw[if_neg g,Qp (by rw[Zax]; omega)]
  · rw[if_neg h]
    by_cases g:r<n
    · rw[Zbv _ g,Zbv _ g]
      congr 1
      refine Uk λk _=>?_
      unfold Zic
      rw[if_neg (λz=>h z.1.symm)]
    · rw[Qp (by rw[Zax]; omega),Qp (by rw[Zax]; omega)]
structure Mt (κ:KX) (H0 H:Hp) (D:Addr) (rs:List Addr) (n:Nat) (a:Nat->Nat->κ.F):Prop where
  S:Same H0 H
  l:H D=some (.lst (rs.map V.ref))
  r:RowsX κ H rs (tab n a)
  nd:rs.Nodup
  nD:D∉rs
  fr:∀r∈rs,H0 r=none
theorem Mt.len{H0 H:Hp}{D:Addr}{rs:List Addr}{n:Nat}{a:Nat->Nat->κ.F}(h:Mt κ H0 H D rs n a):rs.length=n:=by rw[h.r.1,Zax]
theorem Mt.same{H0 H H':Hp}{D:Addr}{rs:List Addr}{n:Nat}{a:Nat->Nat->κ.F}(h:Mt κ H0 H D rs n a)(S:Same H H'):Mt κ H0 H' D rs n a:=⟨h.S.trans S,S _ _ h.l,h.r.same S,h.nd,h.nD,h.fr⟩
theorem Mt.congr{H0 H:Hp}{D:Addr}{rs:List Addr}{n:Nat}{a b:Nat->Nat->κ.F}(h:Mt κ H0 H D rs n a)(e:∀i j,i<n->j<n->a i j=b i j):Mt κ H0 H D rs n b:=⟨h.S,h.l,by rw[<-Zkf e]; exact h.r,h.nd,h.nD,h.fr⟩
theorem Mt.tabL{H0 H:Hp}{D:Addr}{rs:List Addr}{n:Nat}{a:Nat->Nat->κ.F}(h:Mt κ H0 H D rs n a)(n1:1<=n)(n9:n<=100):TabL κ H D rs (tab n a) n:=⟨h.l,h.r,ZmT n a,by rw[Zax]; exact n1,by rw[Zax]; exact n9,n9⟩
theorem Mt.row{H0 H:Hp}{D:Addr}{rs:List Addr}{n i:Nat}{a:Nat->Nat->κ.F}(h:Mt κ H0 H D rs n a)(hi:i<n):∃r ys,rs[i]?=some r/\H r=some (.lst ys)/\ys.length=n/\AllG (NR κ H) ys ((List.range n).map (a i)):=by
  obtain ⟨r,ys,h1,h2,h3⟩:=h.r.get (i:=i) (by rw[Zax]; exact hi)
  have e:(tab n a)[i]'(by rw[Zax]; exact hi)=(List.range n).map (a i):=by
    have:=Zbv a hi
    rw[Q5 (by rw[Zax]; exact hi)] at this
    exact Option.some.inj this
  rw[e] at h3
  exact ⟨r,ys,h1,h2,by rw[h3.1,Q1,W3],h3⟩
theorem Zcx{H:Hp}{ys:List V}{n j:Nat}{g:Nat->κ.F}(h:AllG (NR κ H) ys ((List.range n).map g))(hj:j<n):∃v,ys[j]?=some v/\NR κ H v (g j):=by
  obtain ⟨v,h1,h2⟩:=Zbt h (i:=j) (by rw[Q1,W3]; exact hj)
  refine ⟨v,h1,?_⟩
  rw[Q4,Qc,W8 hj] at h2
  exact h2
theorem Mt.put{H0 H:Hp}{D r:Addr}{rs:List Addr}{n i j:Nat}{a:Nat->Nat->κ.F}{ys:List V}{v:V}{x:κ.F}(h:Mt κ H0 H D rs n a)(hi:i<n)(hj:j<n)(hr:rs[i]?=some r)(hy:H r=some (.lst ys))(al:AllG (NR κ H) ys ((List.range n).map (a i)))(nv:NR κ H v x):Mt κ H0 (upd H r (.lst (ys.set j v))) D rs n (Zic a i j x):=by
  have mr:=Qe hr
  have O:Off [r] H (upd H r (.lst (ys.set j v))):=Za9 (Same.refl H)
  refine ⟨Off.same O h.S (λz hz=>by rw[Q3.mp hz]; exact h.fr r mr),?_,?_,h.nd,h.nD,h.fr⟩
  · rw[Zau (λz=>h.nD (by rw[z]; exact mr))]
    exact h.l
  · rw[<-ZmX a x hj]
    have l:=h.r.1
    refine ⟨by rw[Wc,l],λk b f hb hf=>?_⟩
    rw[Wu] at hf
    by_cases e:i=k
    · subst e
      rw[if_pos rfl,if_pos (by rw[Zax]; exact hi)] at hf
      cases hf
      rw[hr] at hb
      cases hb
      exact ⟨_,Zaf,(al.mono λ_ _ n=>n.off hy O).set _ (nv.off hy O)⟩
    · rw[if_neg e] at hf
      obtain ⟨zs,hz,az⟩:=h.r.2 k b f hb hf
      have nb:b∉[r]:=λm=>e (Zgp h.nd hr (by rw[<-Q3.mp m]; exact hb))
      exact ⟨zs,O _ _ nb hz,az.mono λ_ _ n=>n.off hy O⟩
end
theorem Zdj{K:PySem.W.Frag}{κ:KX}{a:Addr}{rs:List Addr}{R:List (List κ.F)}{te:TE}{σ:L2.St}{H:Hp}{QL:List V->Hp->Prop}(hT:H a=some (.lst (rs.map V.ref)))(rx:RowsX κ H rs R)(hl:R.length<=100)(hte:∀x H Q,(∃p ys,x = .ref p/\SqL K H p ys/\∀l,H l=none->Q (.ref l) (upd H l (.lst ys)))->te [some x] H Q)(k:∀cs H1,Same H H1->RowsX κ H1 cs R->cs.Nodup->(∀c∈cs,H c=none)->QL (cs.map V.ref) H1):Ze4 1 [] (ZcO 0) te σ (Itl K a) H QL:=by
  have lr:=rx.1
  refine Za1 (K:=K) (a:=a) (xs:=rs.map V.ref) (λi ys H1=>∃cs:List Addr,ys=cs.map V.ref/\Same H H1/\RowsX κ H1 cs (R.take i)/\cs.Nodup/\∀c∈cs,H c=none) (by rw[Q1]; omega) ⟨[],rfl,Same.refl _,by rw[List.take_zero]; exact .nil,.nil,λc hc=>nomatch hc⟩ (λi ys H1 _ ⟨as,_,S,_⟩=>SqL.of (S _ _ hT)) ?_ ?_
  · rintro i x ys H1 hx hl' ⟨cs,rfl,S,ra,ndc,fr⟩
    obtain ⟨r,ha,rfl⟩:=Zaz hx
    obtain ⟨f,hf⟩:=ZaG ha lr
    obtain ⟨xs,hxs,fl⟩:=rx.2 i r f ha hf
    refine hte _ _ _ ⟨r,xs,rfl,SqL.of (S _ _ hxs),λl nl=>?_⟩
    have Sl:=Zag nl (.lst xs)
    refine ⟨cs++[l],by rw[Qu]; rfl,S.trans Sl,?_,Zdv ndc (ra.notin nl),λc hc=>?_⟩
    · rw[W9,hf]
      exact (ra.same Sl).snoc Zaf (fl.mono λ_ _ n=>n.same (S.trans Sl))
    · rcases Qq.mp hc with q | q
      · exact fr c q
      · rw[Q3.mp q]; exact S.free nl
  · rintro ys H1 hl' ⟨cs,rfl,S,ra,ndc,fr⟩
    rw[Q1,lr,Wa] at ra
    exact k cs H1 S ra ndc fr
end My
namespace My
open PySem L2 PyProof.Rows
structure Tf (κ:KX) (H:Hp) (D:Addr) (rs:List Addr) (n:Nat) (a:Nat->Nat->κ.F):Prop where
  l:H D=some (.lst (rs.map V.ref))
  r:RowsX κ H rs (tab n a)
theorem Tf.same{κ:KX}{H H':Hp}{D:Addr}{rs:List Addr}{n:Nat}{a:Nat->Nat->κ.F}(h:Tf κ H D rs n a)(S:Same H H'):Tf κ H' D rs n a:=⟨S _ _ h.l,h.r.same S⟩
theorem Mt.tf{κ:KX}{H0 H:Hp}{D:Addr}{rs:List Addr}{n:Nat}{a:Nat->Nat->κ.F}(h:Mt κ H0 H D rs n a):Tf κ H D rs n a:=⟨h.l,h.r⟩
structure SzT (κ:KX) (n:Nat) (a:Nat->Nat->κ.F) (D M:Nat):Prop where
  d:0<D
  dl:D<=10^42
  ml:M<=10^45
  q:∀i j,i<n->j<n->QN κ (D:Int) M (a i j)
theorem b1N{κ:KX}{D M:Nat}{x:κ.F}(h:QN κ (D:Int) M x)(d:0<D)(dl:D<=10^60)(ml:M<=10^60):B1 κ x:=h.b1 (by omega) (by rw[Qo]; exact Q9 dl (by decide)) (Q9 ml (by decide))
theorem SzT.b1{κ:KX}{n:Nat}{a:Nat->Nat->κ.F}{D M:Nat}(h:SzT κ n a D M){i j:Nat}(hi:i<n)(hj:j<n):B1 κ (a i j):=b1N (h.q i j hi hj) h.d (Q0 h.dl (by decide)) (Q0 h.ml (by decide))
structure Fac (κ:KX) (c d:κ.F):Prop where
  e:c*d=1
  qc:QN κ ((6:Nat):Int) 18 c
  qd:QN κ ((6:Nat):Int) 18 d
theorem Fac.b1{κ:KX}{c d:κ.F}(h:Fac κ c d):B1 κ c/\B1 κ d:=⟨b1N h.qc (by decide) (by decide) (by decide),b1N h.qd (by decide) (by decide) (by decide)⟩
theorem ZlG{κ:KX}{D M:Nat}{x c:κ.F}(h:QN κ (D:Int) M x)(g:QN κ ((6:Nat):Int) 18 c)(d:0<D)(dl:D<=10^50)(ml:M<=10^50):B1 κ (c*x):=b1N (g.mulN h) (by omega) (Q0 (Wp 6 dl) (by decide)) (Q0 (Wp 18 ml) (by decide))
theorem Zn7{κ:KX}{D M:Nat}{x y c:κ.F}(hx:QN κ (D:Int) M x)(hy:QN κ (D:Int) M y)(g:QN κ ((6:Nat):Int) 18 c)(d:0<D):QN κ ((6*D:Nat):Int) (24*M) (x+c*y):=by
  have u:=hx.upN d (show 0<6 by decide)
  rw[Wq D 6] at u
  exact (u.add (by omega) (g.mulN hy)).mono (by omega)
theorem Zid{κ:KX}{a:Nat->Nat->κ.F}{g:Nat->κ.F}{i q:Nat}(r t:Nat):Zic (λr t=>if r=i/\t<q then g t else a r t) i q (g q) r t=if r=i/\t<q+1 then g t else a r t:=by
  show (if r=i/\t=q then g q else if r=i/\t<q then g t else a r t)=_
  by_cases e1:r=i
  · by_cases e2:t=q
    · rw[if_pos ⟨e1,e2⟩,if_pos ⟨e1,by omega⟩,e2]
    · rw[if_neg (λz=>e2 z.2)]
      by_cases e3:t<q
      · rw[if_pos ⟨e1,e3⟩,if_pos ⟨e1,by omega⟩]
      · rw[if_neg (λz=>e3 z.2),if_neg (λz=>absurd z.2 (by omega))]
  · rw[if_neg (λz=>e1 z.1),if_neg (λz=>e1 z.1),if_neg (λz=>e1 z.1)]
theorem Zie{κ:KX}{a:Nat->Nat->κ.F}{g:Nat->κ.F}{i n:Nat}(r t:Nat)(_:r<n)(ht:t<n):(if r=i/\t<n then g t else a r t)=if r=i then g t else a r t:=by
  by_cases e1:r=i
  · rw[if_pos ⟨e1,ht⟩,if_pos e1]
  · rw[if_neg (λz=>e1 z.1),if_neg e1]
theorem Zif{κ:KX}{b o:Nat->Nat->κ.F}{q j:Nat}{y:κ.F}(h:∀t,o q t=if t=j then y else b q t)(r t:Nat):Zic (λr t=>if r<q then o r t else b r t) q j y r t=if r<q+1 then o r t else b r t:=by
  show (if r=q/\t=j then y else if r<q then o r t else b r t)=_
  by_cases e1:r=q
  · rw[if_pos (show r<q+1 by omega),e1,h]
    by_cases e2:t=j
    · rw[if_pos ⟨rfl,e2⟩,if_pos e2]
    · rw[if_neg (λz=>e2 z.2),if_neg e2,if_neg (Qg q)]
  · rw[if_neg (λz=>e1 z.1)]
    by_cases e3:r<q
    · rw[if_pos e3,if_pos (by omega)]
    · rw[if_neg e3,if_neg (by omega)]
def ZeD:Sp:=λvs H Q _=>∃(κ:KX) (ta tp:Addr) (rs:List Addr) (n i D M:Nat) (a:Nat->Nat->κ.F) (u v:V) (c d:κ.F),vs=[.int κ.P,.ref ta,.int (i:Int),.ref tp]/\Tf κ H ta rs n a/\n<=7/\i<n/\SzT κ n a D M/\H tp=some (.tup [u,v])/\NR κ H u c/\NR κ H v d/\Fac κ c d/\∀H' D' rs',Same H H'->Tf κ H' D' rs' n (Rg.opS c d i a)->Q (.ref D') H'
def Zfh:Sp:=λvs H Q _=>∃(κ:KX) (ta:Addr) (rs:List Addr) (n i j D M:Nat) (a:Nat->Nat->κ.F) (u:V) (c d:κ.F),vs=[.int κ.P,.ref ta,.int (i:Int),.int (j:Int),u]/\Tf κ H ta rs n a/\n<=7/\i<n/\j<n/\i≠j/\SzT κ n a D M/\NR κ H u c/\Fac κ c d/\∀H' D' rs',Same H H'->Tf κ H' D' rs' n (Rg.opA c i j a)->Q (.ref D') H'
def ZdK:Sp:=λvs H Q _=>∃(κ:KX) (ta:Addr) (rs:List Addr) (n i j:Nat) (a:Nat->Nat->κ.F),vs=[.ref ta,.int (i:Int),.int (j:Int)]/\Tf κ H ta rs n a/\n<=7/\i<n/\j<n/\i≠j/\∀H' D' rs',Same H H'->Tf κ H' D' rs' n (Rg.opW i j a)->Q (.ref D') H'
end My
namespace My
open PySem L2 PyProof.Rows
section
variable{P:Program}{w:World}{K:PySem.W.Frag}{mg:Str->Option Value}{base:Heap}
theorem sc_l_scaled:FnScope ["_law_prime_here", "_law_table", "_law_i", "_law_pair_here", "_law_told", "_law_k", "_law_row"] ["_law_prime_here", "_law_table", "_law_i", "_law_pair_here"] (Zah Zdq):=⟨rfl,rfl,rfl,by decide +kernel,rfl,by decide +kernel,by decide +kernel⟩
theorem ZfY(h:Here K mg "_law_scaled" Zdq) (T:Nm mg) (h_l_times:Has P w K mg base "_law_times" 4 ["_law_prime_here", "_law_one", "_law_other"] (ZaX λ_ x y=>x*y)):Has P w K mg base "_law_scaled" 5 ["_law_prime_here", "_law_table", "_law_i", "_law_pair_here"] ZeD:=by
  refine h.has (λf fd F=>F.binds λ_ _ _ _ _ _ us hl=>by obtain ⟨_,_,_,_,rfl⟩:=ZoD hl; exact rfl) λf fd F=>F.ok sc_l_scaled (λvs H Q E h=>?_) (λcdv A outer s H vs Q E hr h=>?_)
  · obtain ⟨_,_,_,_,_,_,_,_,_,_,_,_,_,rfl,_⟩:=h
    rfl
  obtain ⟨κ,ta,tp,rs,n,i,D,M,a,u,v,c,d,rfl,tf,n7,hi,sz,htp,nu,nv,fc,k⟩:=h
  have nd:=sc_l_scaled.nd
  refine ⟨_,(Zac (Zbc (i:=4) ["_law_row"] [] nd rfl rfl rfl (ZaC (pv 1)) (by exact λ_ _ _ _=>(Zap (i:=0) (show (["_law_row"]:List Str).Nodup by decide +kernel) rfl (Or.inl rfl))) (by exact λ_ _ _ _=>(ZbU (Za2 K rfl) (by rfl) T.list boot_list (Zaa (pv 0) Zab))) trivial)
    (Zac (ZaQ PassesOwn.never rfl (ZaB (by rfl) T.range (Zaa (Zaj Zam (by rfl) T.len boot_len (Zaa (pv 4) Zab)) Zab)) (Zap (i:=5) nd rfl (Or.inl rfl)) (Zae (Zcg (Zak h_l_times hr (by rfl) (Zaa (pv 0) (Zaa (Zao Zat (pv 3) Zad (λ_ _=>rfl)) (Zaa (Zao Zav (Zao Zav (pv 4) (pv 2) (λ_ _=>rfl)) (pv 5) (λ_ _=>rfl)) Zab)))) (Zcf (Zao Zav (pv 4) (pv 2) (λ_ _=>rfl)) (pv 5) Za8))))
    (Zac (ZaQ PassesOwn.never rfl (ZaC (pv 4)) (Zap (i:=6) nd rfl (Or.inl rfl)) (Zae (Zcg (Zak h_l_times hr (by rfl) (Zaa (pv 0) (Zaa (Zao Zav (pv 6) (pv 2) (λ_ _=>rfl)) (Zaa (Zao Zat (pv 3) Zad (λ_ _=>rfl)) Zab)))) (Zcf (pv 6) (pv 2) Za8))))
    (Zae (Zan (pv 4)))))),?_⟩
  have lr:=tf.r.1
  rw[Zax] at lr
  refine ⟨_,rfl,ta,rfl,⟨_,SqL.of tf.l⟩,?_⟩
  refine Zdj tf.l tf.r (by rw[Zax]; omega) (λx H Q ⟨p,ys,e,sq,k⟩=>⟨_,rfl,p,ys,by rw[e],.inl sq,k⟩) λcs H1 S1 rx ndc fr=>?_
  intro tb ntb
  have Sb:=Zag ntb (.lst (cs.map V.ref))
  have qb:=Zaf (H:=H1) (a:=tb) (o:=.lst (cs.map V.ref))
  generalize upd H1 tb (.lst (cs.map V.ref))=H2 at *
  have mt:Mt κ H H2 tb cs n a:=⟨S1.trans Sb,qb,rx.same Sb,ndc,rx.notin ntb,fr⟩
  have lc:=mt.len
  refine ⟨_,rfl,tb,_,rfl,.inl (SqL.of qb),(n:Int),(by rw[Q1,lc]),by omega,by omega,?_⟩
  rw[Qx]
  refine ZaT (lo:=0) (n:=n) (λq σ H3=>∃z5 z6:Option V,σ=[some (.int κ.P),some (.ref ta),some (.int (i:Int)),some (.ref tp),some (.ref tb),z5,z6]/\Mt κ H H3 tb cs n (λr k=>if r=i/\k<q then c*a i k else a r k)) ⟨_,_,rfl,mt.congr λr k _ _=>by rw[if_neg (λz=>absurd z.2 (U2 _))]⟩ ?_ ?_
  · rintro q σ H3 hq ⟨z5,z6,rfl,m3⟩
    obtain ⟨ra,ys,hra,hys,ly,ay⟩:=m3.row hi
    obtain ⟨vy,hvy,nvy⟩:=Zcx ay hq
    rw[if_neg (λz=>absurd z.2 (Qg _))] at nvy
    have bq:=sz.b1 hi hq
    refine ⟨_,rfl,_,rfl,tp,_,0,_,rfl,rfl,SqT.of (m3.S _ _ htp),rfl,_,rfl,_,rfl,tb,_,_,_,rfl,rfl,SqL.of m3.l,ZbG hra,_,rfl,ra,_,_,_,rfl,rfl,SqL.of hys,(by rw[Qm]; exact ZaF hvy),κ,u,vy,c,_,rfl,nu.same m3.S,nvy,fc.b1.1,bq,λH4 w S4 nw=>?_⟩
    have m4:=m3.same S4
    refine ⟨_,rfl,_,rfl,tb,_,_,_,rfl,rfl,SqL.of m4.l,ZbG hra,_,rfl,ra,ys,_,q,rfl,rfl,S4 _ _ hys,(by rw[Qm]; exact ZbF (Wb _) (by omega)),?_⟩
    exact ⟨_,_,rfl,(m4.put hi hq hra (S4 _ _ hys) (ay.mono λ_ _ n=>n.same S4) nw).congr λr t _ _=>Zid (g:=λt=>c*a i t) r t⟩
  · rintro σ H3 ⟨z5,z6,rfl,m3⟩
    have m3:=m3.congr (b:=λr t=>if r=i then c*a i t else a r t) (Zie (g:=λt=>c*a i t))
    have qb:∀r k,r<n->k<n->QN κ ((6*D:Nat):Int) (18*M) (if r=i then c*a i k else a r k):=λr k hr hk=>by
      by_cases e1:r=i
      · rw[if_pos e1]; exact fc.qc.mulN (sz.q i k hi hk)
      · rw[if_neg e1]
        have:=(sz.q r k hr hk).upN sz.d (show 0<6 by decide)
        rw[Wq D 6] at this
        exact this.mono (by omega)
    generalize hbe:(λr k=>if r=i then c*a i k else a r k:Nat->Nat->κ.F)=b at *
    have eb:∀r k,b r k=if r=i then c*a i k else a r k:=λr k=>by rw[<-hbe]
    refine ⟨_,rfl,tb,rfl,⟨_,SqL.of m3.l⟩,?_⟩
    refine Zbf (K:=K) (a:=tb) (xs:=cs.map V.ref) (λq σ H4=>∃z6:Option V,σ=[some (.int κ.P),some (.ref ta),some (.int (i:Int)),some (.ref tp),some (.ref tb),z5,z6]/\Mt κ H H4 tb cs n (λr k=>if r<q then Rg.opS c d i a r k else b r k)) ⟨_,rfl,m3.congr λr k _ _=>by rw[if_neg (U2 _)]⟩ ?_ ?_ ?_
    · rintro q σ H4-⟨z6,rfl,m4⟩
      exact SqL.of m4.l
    · rintro q x σ H4 hx ⟨z6,rfl,m4⟩
      obtain ⟨ra,hra,rfl⟩:=Zaz hx
      have hq:q<n:=by have:=(Qi.mp hra).1; omega
      obtain ⟨ra',ys,hra',hys,ly,ay⟩:=m4.row hq
      rw[hra] at hra'
      obtain rfl:=Option.some.inj hra'
      obtain ⟨vy,hvy,nvy⟩:=Zcx ay hi
      rw[if_neg (Qg q)] at nvy
      have bq:B1 κ (b q i):=by
        rw[eb]
        exact b1N (qb q i hq hi) (by have:=sz.d; omega) (Q0 (Wp 6 sz.dl) (by decide)) (Q0 (Wp 18 sz.ml) (by decide))
      refine ⟨_,rfl,_,rfl,_,rfl,ra,_,_,_,rfl,rfl,SqL.of hys,ZaF hvy,_,rfl,tp,_,1,_,rfl,rfl,SqT.of (m4.S _ _ htp),rfl,κ,vy,v,_,d,rfl,nvy,nv.same m4.S,bq,fc.b1.2,λH5 w S5 nw=>?_⟩
      have m5:=m4.same S5
      refine ⟨_,rfl,_,rfl,ra,ys,_,i,rfl,rfl,S5 _ _ hys,ZbF (Wb _) (by omega),?_⟩
      refine ⟨_,rfl,(m5.put hq hi hra (S5 _ _ hys) (ay.mono λ_ _ n=>n.same S5) nw).congr λr t _ _=>Zif (λt=>?_) r t⟩
      show (if t=i then d*(if q=i then c*a i i else a q i) else (if q=i then c*a i t else a q t))=if t=i then b q i*d else b q t
      rw[<-eb,<-eb]
      generalize b q i=y
      split
      · grind
      · rfl
    · rintro σ H4 ⟨z6,rfl,m4⟩
      refine ⟨_,rfl,k H4 tb cs m4.S (m4.congr λr t hr _=>by rw[Q1,lc,if_pos hr]).tf⟩
end
end My
namespace My
open PySem L2 PyProof.Rows
section
variable{P:Program}{w:World}{K:PySem.W.Frag}{mg:Str->Option Value}{base:Heap}
theorem sc_l_added:FnScope ["_law_prime_here", "_law_table", "_law_i", "_law_j", "_law_c", "_law_told", "_law_k", "_law_row"] ["_law_prime_here", "_law_table", "_law_i", "_law_j", "_law_c"] (Zah Zem):=⟨rfl,rfl,rfl,by decide +kernel,rfl,by decide +kernel,by decide +kernel⟩
theorem ZgK(h:Here K mg "_law_added" Zem) (T:Nm mg) (h_l_plus:Has P w K mg base "_law_plus" 4 ["_law_prime_here", "_law_one", "_law_other"] (ZaX λ_ x y=>x+y)) (h_l_minus:Has P w K mg base "_law_minus" 4 ["_law_prime_here", "_law_one", "_law_other"] (ZaX λ_ x y=>x-y)) (h_l_times:Has P w K mg base "_law_times" 4 ["_law_prime_here", "_law_one", "_law_other"] (ZaX λ_ x y=>x*y)):Has P w K mg base "_law_added" 5 ["_law_prime_here", "_law_table", "_law_i", "_law_j", "_law_c"] Zfh:=by
  refine h.has (λf fd F=>F.binds λ_ _ _ _ _ _ us hl=>by obtain ⟨_,_,_,_,_,rfl⟩:=Zpg hl; exact rfl) λf fd F=>F.ok sc_l_added (λvs H Q E h=>?_) (λcdv A outer s H vs Q E hr h=>?_)
  · obtain ⟨_,_,_,_,_,_,_,_,_,_,_,_,rfl,_⟩:=h
    rfl
  obtain ⟨κ,ta,rs,n,i,j,D,M,a,u,c,d,rfl,tf,n7,hi,hj,ne,sz,nu,fc,k⟩:=h
  have nd:=sc_l_added.nd
  refine ⟨_,(Zac (Zbc (i:=5) ["_law_row"] [] nd rfl rfl rfl (ZaC (pv 1)) (by exact λ_ _ _ _=>(Zap (i:=0) (show (["_law_row"]:List Str).Nodup by decide +kernel) rfl (Or.inl rfl))) (by exact λ_ _ _ _=>(ZbU (Za2 K rfl) (by rfl) T.list boot_list (Zaa (pv 0) Zab))) trivial)
    (Zac (ZaQ PassesOwn.never rfl (ZaB (by rfl) T.range (Zaa (Zaj Zam (by rfl) T.len boot_len (Zaa (pv 5) Zab)) Zab)) (Zap (i:=6) nd rfl (Or.inl rfl)) (Zae (Zcg (Zak h_l_plus hr (by rfl) (Zaa (pv 0) (Zaa (Zao Zav (Zao Zav (pv 5) (pv 2) (λ_ _=>rfl)) (pv 6) (λ_ _=>rfl)) (Zaa (Zak h_l_times hr (by rfl) (Zaa (pv 0) (Zaa (pv 4) (Zaa (Zao Zav (Zao Zav (pv 5) (pv 3) (λ_ _=>rfl)) (pv 6) (λ_ _=>rfl)) Zab)))) Zab)))) (Zcf (Zao Zav (pv 5) (pv 2) (λ_ _=>rfl)) (pv 6) Za8))))
    (Zac (ZaQ PassesOwn.never rfl (ZaC (pv 5)) (Zap (i:=7) nd rfl (Or.inl rfl)) (Zae (Zcg (Zak h_l_minus hr (by rfl) (Zaa (pv 0) (Zaa (Zao Zav (pv 7) (pv 3) (λ_ _=>rfl)) (Zaa (Zak h_l_times hr (by rfl) (Zaa (pv 0) (Zaa (pv 4) (Zaa (Zao Zav (pv 7) (pv 2) (λ_ _=>rfl)) Zab)))) Zab)))) (Zcf (pv 7) (pv 3) Za8))))
    (Zae (Zan (pv 5)))))),?_⟩
  refine ⟨_,rfl,ta,rfl,⟨_,SqL.of tf.l⟩,?_⟩
  refine Zdj tf.l tf.r (by rw[Zax]; omega) (λx H Q ⟨p,ys,e,sq,k⟩=>⟨_,rfl,p,ys,by rw[e],.inl sq,k⟩) λcs H1 S1 rx ndc fr=>?_
  intro tb ntb
  have Sb:=Zag ntb (.lst (cs.map V.ref))
  have qb:=Zaf (H:=H1) (a:=tb) (o:=.lst (cs.map V.ref))
  generalize upd H1 tb (.lst (cs.map V.ref))=H2 at *
  have mt:Mt κ H H2 tb cs n a:=⟨S1.trans Sb,qb,rx.same Sb,ndc,rx.notin ntb,fr⟩
  have lc:=mt.len
  refine ⟨_,rfl,tb,_,rfl,.inl (SqL.of qb),(n:Int),(by rw[Q1,lc]),by omega,by omega,?_⟩
  rw[Qx]
  refine ZaT (lo:=0) (n:=n) (λq σ H3=>∃z6 z7:Option V,σ=[some (.int κ.P),some (.ref ta),some (.int (i:Int)),some (.int (j:Int)),some u,some (.ref tb),z6,z7]/\Mt κ H H3 tb cs n (λr t=>if r=i/\t<q then a i t+c*a j t else a r t)) ⟨_,_,rfl,mt.congr λr t _ _=>by rw[if_neg (λz=>absurd z.2 (U2 _))]⟩ ?_ ?_
  · rintro q σ H3 hq ⟨z6,z7,rfl,m3⟩
    obtain ⟨ra,ys,hra,hys,ly,ay⟩:=m3.row hi
    obtain ⟨vy,hvy,nvy⟩:=Zcx ay hq
    rw[if_neg (λz=>absurd z.2 (Qg _))] at nvy
    obtain ⟨rj,zs,hrj,hzs,lz,az⟩:=m3.row hj
    obtain ⟨vz,hvz,nvz⟩:=Zcx az hq
    rw[if_neg (λz=>ne z.1.symm)] at nvz
    have d50:D<=10^50:=Q0 sz.dl (by decide)
    have m50:M<=10^50:=Q0 sz.ml (by decide)
    refine ⟨_,rfl,_,rfl,_,rfl,tb,_,_,_,rfl,rfl,SqL.of m3.l,ZbG hra,_,rfl,ra,_,_,_,rfl,rfl,SqL.of hys,(by rw[Qm]; exact ZaF hvy),_,rfl,_,rfl,_,rfl,_,rfl,tb,_,_,_,rfl,rfl,SqL.of m3.l,ZbG hrj,_,rfl,rj,_,_,_,rfl,rfl,SqL.of hzs,(by rw[Qm]; exact ZaF hvz),κ,u,vz,c,_,rfl,nu.same m3.S,nvz,fc.b1.1,sz.b1 hj hq,λH4 w S4 nw=>?_⟩
    refine ⟨κ,vy,w,_,_,rfl,nvy.same S4,nw,sz.b1 hi hq,ZlG (sz.q j q hj hq) fc.qc sz.d d50 m50,λH5 x S5 nx=>?_⟩
    have S45:=S4.trans S5
    have m5:=m3.same S45
    refine ⟨_,rfl,_,rfl,tb,_,_,_,rfl,rfl,SqL.of m5.l,ZbG hra,_,rfl,ra,ys,_,q,rfl,rfl,S45 _ _ hys,(by rw[Qm]; exact ZbF (Wb _) (by omega)),?_⟩
    exact ⟨_,_,rfl,(m5.put hi hq hra (S45 _ _ hys) (ay.mono λ_ _ n=>n.same S45) nx).congr λr t _ _=>Zid (g:=λt=>a i t+c*a j t) r t⟩
  · rintro σ H3 ⟨z6,z7,rfl,m3⟩
    have m3:=m3.congr (b:=λr t=>if r=i then a i t+c*a j t else a r t) (Zie (g:=λt=>a i t+c*a j t))
    have qb:∀r t,r<n->t<n->QN κ ((6*D:Nat):Int) (24*M) (if r=i then a i t+c*a j t else a r t):=λr t hr ht=>by
      by_cases e1:r=i
      · rw[if_pos e1]; exact Zn7 (sz.q i t hi ht) (sz.q j t hj ht) fc.qc sz.d
      · rw[if_neg e1]
        have:=(sz.q r t hr ht).upN sz.d (show 0<6 by decide)
        rw[Wq D 6] at this
        exact this.mono (by omega)
    have d60:6*D<=10^50:=Q0 (Wp 6 sz.dl) (by decide)
    have m60:24*M<=10^50:=Q0 (Wp 24 sz.ml) (by decide)
    have dp:0<6*D:=by have:=sz.d; omega
    generalize hbe:(λr t=>if r=i then a i t+c*a j t else a r t:Nat->Nat->κ.F)=b at *
    have eb:∀r t,b r t=if r=i then a i t+c*a j t else a r t:=λr t=>by rw[<-hbe]
    refine ⟨_,rfl,tb,rfl,⟨_,SqL.of m3.l⟩,?_⟩
    refine Zbf (K:=K) (a:=tb) (xs:=cs.map V.ref) (λq σ H4=>∃z7:Option V,σ=[some (.int κ.P),some (.ref ta),some (.int (i:Int)),some (.int (j:Int)),some u,some (.ref tb),z6,z7]/\Mt κ H H4 tb cs n (λr t=>if r<q then Rg.opA c i j a r t else b r t)) ⟨_,rfl,m3.congr λr t _ _=>by rw[if_neg (U2 _)]⟩ ?_ ?_ ?_
    · rintro q σ H4-⟨z7,rfl,m4⟩
      exact SqL.of m4.l
    · rintro q x σ H4 hx ⟨z7,rfl,m4⟩
      obtain ⟨ra,hra,rfl⟩:=Zaz hx
      have hq:q<n:=by have:=(Qi.mp hra).1; omega
      obtain ⟨ra',ys,hra',hys,ly,ay⟩:=m4.row hq
      rw[hra] at hra'
      obtain rfl:=Option.some.inj hra'
      obtain ⟨vy,hvy,nvy⟩:=Zcx ay hj
      rw[if_neg (Qg q)] at nvy
      obtain ⟨vz,hvz,nvz⟩:=Zcx ay hi
      rw[if_neg (Qg q)] at nvz
      have qi:=qb q i hq hi
      have qj:=qb q j hq hj
      rw[<-eb] at qi qj
      refine ⟨_,rfl,_,rfl,_,rfl,ra,_,_,_,rfl,rfl,SqL.of hys,ZaF hvy,_,rfl,_,rfl,_,rfl,_,rfl,ra,_,_,_,rfl,rfl,SqL.of hys,ZaF hvz,κ,u,vz,c,_,rfl,nu.same m4.S,nvz,fc.b1.1,b1N qi dp (Q0 d60 (by decide)) (Q0 m60 (by decide)),λH5 w S5 nw=>?_⟩
      refine ⟨κ,vy,w,_,_,rfl,nvy.same S5,nw,b1N qj dp (Q0 d60 (by decide)) (Q0 m60 (by decide)),ZlG qi fc.qc dp d60 m60,λH6 x S6 nx=>?_⟩
      have S56:=S5.trans S6
      have m6:=m4.same S56
      refine ⟨_,rfl,_,rfl,ra,ys,_,j,rfl,rfl,S56 _ _ hys,ZbF (Wb _) (by omega),?_⟩
      refine ⟨_,rfl,(m6.put hq hj hra (S56 _ _ hys) (ay.mono λ_ _ n=>n.same S56) nx).congr λr t _ _=>Zif (λt=>?_) r t⟩
      show (if t=j then (if q=i then a i j+c*a j j else a q j)+(0-c)*(if q=i then a i i+c*a j i else a q i) else (if q=i then a i t+c*a j t else a q t))=if t=j then b q j-c*b q i else b q t
      rw[<-eb,<-eb,<-eb]
      generalize b q i=y
      generalize b q j=z
      split
      · grind
      · rfl
    · rintro σ H4 ⟨z7,rfl,m4⟩
      refine ⟨_,rfl,k H4 tb cs m4.S (m4.congr λr t hr _=>by rw[Q1,lc,if_pos hr]).tf⟩
end
end My
namespace My
open PySem L2 PyProof.Rows
theorem Mt.sub{κ:KX}{H0 H:Hp}{D p:Addr}{rs:List Addr}{n i:Nat}{a:Nat->Nat->κ.F}{g:Nat->κ.F}{xs:List V}(h:Mt κ H0 H D rs n a)(fD:H0 D=none)(hp:H p=none)(al:AllG (NR κ H) xs ((List.range n).map g)):Mt κ H0 (upd (upd H p (.lst xs)) D (.lst ((rs.map V.ref).set i (.ref p)))) D (rs.set i p) n (λr t=>if r=i then g t else a r t):=by
  have S1:=Zag hp (.lst xs)
  have qp:=Zaf (H:=H) (a:=p) (o:=.lst xs)
  have al1:=al.mono λ_ _ n=>n.same S1
  have h1:=h.same S1
  have nD:D≠p:=λz=>by rw[<-z,h.l] at hp; cases hp
  have nr:p∉rs:=h.r.notin hp
  have f0:H0 p=none:=h.S.free hp
  generalize upd H p (.lst xs)=H1 at *
  have O:Off [D] H1 (upd H1 D (.lst ((rs.map V.ref).set i (.ref p)))):=Za9 (Same.refl H1)
  have r2:=(h1.r.off h.nD h1.l O).set i (O _ _ (λz=>nD (Q3.mp z).symm) qp) (al1.mono λ_ _ n=>n.off h1.l O)
  refine ⟨Off.same O h1.S (λz hz=>by rw[Q3.mp hz]; exact fD),by rw[Zaf,List.map_set],?_,ZjG h.nd nr,λz=>?_,λr hr=>?_⟩
  · have e:(tab n a).set i ((List.range n).map g)=tab n (λr t=>if r=i then g t else a r t):=by
      refine Ua λr=>?_
      rw[Wu,Zax]
      by_cases e1:i=r
      · rw[if_pos e1]
        by_cases e2:i<n
        · rw[if_pos e2,Zbv _ (show r<n by omega)]
          congr 1
          exact Uk λt _=>by rw[if_pos e1.symm]
        · rw[if_neg e2,Qp (by rw[Zax]; omega)]
      · rw[if_neg e1]
        by_cases e2:r<n
        · rw[Zbv _ e2,Zbv _ e2]
          congr 1
          exact Uk λt _=>by rw[if_neg (λz=>e1 z.symm)]
        · rw[Qp (by rw[Zax]; omega),Qp (by rw[Zax]; omega)]
    rw[<-e]
    exact r2
  · rcases Uu z with q | q
    · exact h.nD q
    · exact nD q
  · rcases Uu hr with q | q
    · exact h.fr r q
    · rw[q]; exact f0
theorem Zkg{κ:KX}{H:Hp}{n i:Nat}{a:Nat->Nat->κ.F}{xs:List V}(hi:i<(tab n a).length)(h:AllG (NR κ H) xs (tab n a)[i]):AllG (NR κ H) xs ((List.range n).map (a i)):=by
  have e:(tab n a)[i]=(List.range n).map (a i):=by
    have:=Zbv a (show i<n by rw[Zax] at hi; exact hi)
    rw[Q5 hi] at this
    exact Option.some.inj this
  rw[<-e]; exact h
theorem ZmY{κ:KX}{b o:Nat->Nat->κ.F}{q i j:Nat}(ne:i≠j)(h:∀t,o q t=b q (Rg.sw i j t))(r t:Nat):Zic (Zic (λr t=>if r<q then o r t else b r t) q i (b q j)) q j (b q i) r t=if r<q+1 then o r t else b r t:=by
  show (if r=q/\t=j then b q i else if r=q/\t=i then b q j else if r<q then o r t else b r t)=_
  by_cases e1:r=q
  · rw[if_pos (show r<q+1 by omega),e1,h]
    unfold Rg.sw
    by_cases e2:t=j
    · rw[if_pos ⟨rfl,e2⟩,if_pos e2]
    · rw[if_neg (λz=>e2 z.2),if_neg e2]
      by_cases e3:t=i
      · rw[if_pos ⟨rfl,e3⟩,if_pos e3]
      · rw[if_neg (λz=>e3 z.2),if_neg e3,if_neg (Qg q)]
  · rw[if_neg (λz=>e1 z.1),if_neg (λz=>e1 z.1)]
    by_cases e3:r<q
    · rw[if_pos e3,if_pos (by omega)]
    · rw[if_neg e3,if_neg (by omega)]
end My
namespace My
open PySem L2 PyProof.Rows
section
variable{P:Program}{w:World}{K:PySem.W.Frag}{mg:Str->Option Value}{base:Heap}
theorem sc_l_swapped:FnScope ["_law_table", "_law_i", "_law_j", "_law_told", "_law_row", "_law_kept"] ["_law_table", "_law_i", "_law_j"] (Zah ZcU):=⟨rfl,rfl,rfl,by decide +kernel,rfl,by decide +kernel,by decide +kernel⟩
theorem ZeX(h:Here K mg "_law_swapped" ZcU) (T:Nm mg):Has P w K mg base "_law_swapped" 1 ["_law_table", "_law_i", "_law_j"] ZdK:=by
  refine h.has (λf fd F=>F.binds λ_ _ _ _ _ _ us hl=>by obtain ⟨_,_,_,rfl⟩:=Zed hl; exact rfl) λf fd F=>F.ok sc_l_swapped (λvs H Q E h=>?_) (λcdv A outer s H vs Q E hr h=>?_)
  · obtain ⟨_,_,_,_,_,_,_,rfl,_⟩:=h
    rfl
  obtain ⟨κ,ta,rs,n,i,j,a,rfl,tf,n7,hi,hj,ne,k⟩:=h
  have nd:=sc_l_swapped.nd
  refine ⟨_,(Zac (Zbc (i:=3) ["_law_row"] [] nd rfl rfl rfl (ZaC (pv 0)) (by exact λ_ _ _ _=>(Zap (i:=0) (show (["_law_row"]:List Str).Nodup by decide +kernel) rfl (Or.inl rfl))) (by exact λ_ _ _ _=>(ZbU (Za2 K rfl) (by rfl) T.list boot_list (Zaa (pv 0) Zab))) trivial)
    (Zac (Zcg (ZbU (Za2 K rfl) (by rfl) T.list boot_list (Zaa (Zao Zav (pv 0) (pv 2) (λ_ _=>rfl)) Zab)) (Zcf (pv 3) (pv 1) Za8))
    (Zac (Zcg (ZbU (Za2 K rfl) (by rfl) T.list boot_list (Zaa (Zao Zav (pv 0) (pv 1) (λ_ _=>rfl)) Zab)) (Zcf (pv 3) (pv 2) Za8))
    (Zac (ZaQ PassesOwn.never rfl (ZaC (pv 3)) (Zap (i:=4) nd rfl (Or.inl rfl)) (Zac (Zal (i:=5) nd rfl (Or.inl rfl) (Zao Zav (pv 4) (pv 1) (λ_ _=>rfl)))
      (Zac (Zcg (Zao Zav (pv 4) (pv 2) (λ_ _=>rfl)) (Zcf (pv 4) (pv 1) Za8))
      (Zae (Zcg (pv 5) (Zcf (pv 4) (pv 2) Za8))))))
    (Zae (Zan (pv 3))))))),?_⟩
  refine ⟨_,rfl,ta,rfl,⟨_,SqL.of tf.l⟩,?_⟩
  refine Zdj tf.l tf.r (by rw[Zax]; omega) (λx H Q ⟨p,ys,e,sq,k⟩=>⟨_,rfl,p,ys,by rw[e],.inl sq,k⟩) λcs H1 S1 rx ndc fr=>?_
  intro tb ntb
  have Sb:=Zag ntb (.lst (cs.map V.ref))
  have qb:=Zaf (H:=H1) (a:=tb) (o:=.lst (cs.map V.ref))
  generalize upd H1 tb (.lst (cs.map V.ref))=H2 at *
  have mt:Mt κ H H2 tb cs n a:=⟨S1.trans Sb,qb,rx.same Sb,ndc,rx.notin ntb,fr⟩
  have lc:=mt.len
  obtain ⟨rj,xj,hrj,hxj,axj⟩:=tf.r.get (i:=j) (by rw[Zax]; exact hj)
  obtain ⟨ri,xi,hri,hxi,axi⟩:=tf.r.get (i:=i) (by rw[Zax]; exact hi)
  have ftb:H tb=none:=S1.free ntb
  refine ⟨_,rfl,_,rfl,ta,_,_,_,rfl,rfl,SqL.of (mt.S _ _ tf.l),ZbG hrj,rj,xj,rfl,.inl (SqL.of (mt.S _ _ hxj)),λp np=>?_⟩
  refine ⟨_,rfl,_,rfl,tb,_,_,i,rfl,rfl,by rw[Zau (ZaA mt.l np)]; exact mt.l,ZbF (Wb _) (by rw[Q1,lc]; omega),?_⟩
  have m3:=mt.sub (i:=i) (g:=a j) ftb np (Zkg (by rw[Zax]; exact hj) (axj.mono λ_ _ n=>n.same mt.S))
  generalize upd (upd H2 p (.lst xj)) tb (.lst ((cs.map V.ref).set i (.ref p)))=H3 at *
  have l3:=m3.len
  refine ⟨_,rfl,_,rfl,ta,_,_,_,rfl,rfl,SqL.of (m3.S _ _ tf.l),ZbG hri,ri,xi,rfl,.inl (SqL.of (m3.S _ _ hxi)),λp2 np2=>?_⟩
  refine ⟨_,rfl,_,rfl,tb,_,_,j,rfl,rfl,by rw[Zau (ZaA m3.l np2)]; exact m3.l,ZbF (Wb _) (by rw[Q1,l3]; omega),?_⟩
  have m4:=m3.sub (i:=j) (g:=a i) ftb np2 (Zkg (by rw[Zax]; exact hi) (axi.mono λ_ _ n=>n.same m3.S))
  generalize upd (upd H3 p2 (.lst xi)) tb (.lst (((cs.set i p).map V.ref).set j (.ref p2)))=H4 at *
  generalize (cs.set i p).set j p2=ds at *
  have m4:=m4.congr (b:=λr t=>a (Rg.sw i j r) t) λr t _ _=>by
    unfold Rg.sw
    by_cases e1:r=j
    · rw[if_pos e1,if_pos e1]
    · rw[if_neg e1,if_neg e1]
      by_cases e2:r=i
      · rw[if_pos e2,if_pos e2]
      · rw[if_neg e2,if_neg e2]
  have ld:=m4.len
  refine ⟨_,rfl,tb,rfl,⟨_,SqL.of m4.l⟩,?_⟩
  refine Zbf (K:=K) (a:=tb) (xs:=ds.map V.ref) (λq σ H5=>∃z4 z5:Option V,σ=[some (.ref ta),some (.int (i:Int)),some (.int (j:Int)),some (.ref tb),z4,z5]/\Mt κ H H5 tb ds n (λr t=>if r<q then Rg.opW i j a r t else a (Rg.sw i j r) t)) ⟨_,_,rfl,m4.congr λr t _ _=>by rw[if_neg (U2 _)]⟩ ?_ ?_ ?_
  · rintro q σ H5-⟨z4,z5,rfl,m5⟩
    exact SqL.of m5.l
  · rintro q x σ H5 hx ⟨z4,z5,rfl,m5⟩
    obtain ⟨ra,hra,rfl⟩:=Zaz hx
    have hq:q<n:=by have:=(Qi.mp hra).1; omega
    obtain ⟨ra',ys,hra',hys,ly,ay⟩:=m5.row hq
    rw[hra] at hra'
    obtain rfl:=Option.some.inj hra'
    obtain ⟨vi,hvi,nvi⟩:=Zcx ay hi
    rw[if_neg (Qg q)] at nvi
    obtain ⟨vj,hvj,nvj⟩:=Zcx ay hj
    rw[if_neg (Qg q)] at nvj
    refine ⟨_,rfl,_,rfl,ra,_,_,_,rfl,rfl,SqL.of hys,ZaF hvi,?_⟩
    refine ⟨_,rfl,_,rfl,ra,_,_,_,rfl,rfl,SqL.of hys,ZaF hvj,?_⟩
    refine ⟨_,rfl,_,rfl,ra,ys,_,i,rfl,rfl,hys,ZbF (Wb _) (by omega),?_⟩
    have m6:=m5.put hq hi hra hys ay nvj
    have O6:Off [ra] H5 (upd H5 ra (.lst (ys.set i vj))):=Za9 (Same.refl H5)
    have nvi6:=nvi.off hys O6
    have hy6:=Zaf (H:=H5) (a:=ra) (o:=.lst (ys.set i vj))
    generalize upd H5 ra (.lst (ys.set i vj))=H6 at *
    obtain ⟨ra',ys6,hra',hys6,ly6,ay6⟩:=m6.row hq
    rw[hra] at hra'
    obtain rfl:=Option.some.inj hra'
    refine ⟨_,rfl,_,rfl,_,rfl,ra,ys6,_,j,rfl,rfl,hys6,ZbF (Wb _) (by omega),?_⟩
    exact ⟨_,_,rfl,(m6.put hq hj hra hys6 ay6 nvi6).congr λr t _ _=>ZmY (b:=λr t=>a (Rg.sw i j r) t) ne (λt=>rfl) r t⟩
  · rintro σ H5 ⟨z4,z5,rfl,m5⟩
    refine ⟨_,rfl,k H5 tb ds m5.S (m5.congr λr t hr _=>by rw[Q1,ld,if_pos hr]).tf⟩
end
end My
namespace My
open PySem L2 PyProof.Rows
def bin:Nat->Nat->Int
  | _,0=>1
  | 0,_+1=>0
  | n+1,k+1=>bin n k+bin n (k+1)
theorem Zn8(n:Nat):bin n 0=1:=by cases n <;> rfl
theorem Zna(n k:Nat):bin (n+1) (k+1)=bin n k+bin n (k+1):=rfl
theorem ZdB:∀ {n k:Nat},n<k->bin n k=0
  | 0,k+1,_=>rfl
  | n+1,k+1,h=>by rw[Zna,ZdB (show n<k by omega),ZdB (show n<k+1 by omega)]; rfl
theorem Zig:∀n:Nat,bin n n=1
  | 0=>rfl
  | n+1=>by rw[Zna,Zig n,ZdB (U7 n)]; rfl
theorem ZfZ:∀n k:Nat,((k:Int)+1)*bin (n+1) (k+1)=((n:Int)+1)*bin n k
  | 0,k=>by
    cases k with
    | zero=>rfl
    | succ k=>rw[ZdB (show 0+1<k+1+1 by omega),ZdB (show 0<k+1 by omega),Int.mul_zero,Int.mul_zero]
  | n+1,0=>by
    have ih:=ZfZ n 0
    rw[Zna,Zn8]
    rw[Zn8] at ih
    generalize bin (n+1) (0+1)=b at *
    simp at *
    omega
  | n+1,k+1=>by
    have i1:=ZfZ n k
    have i2:=ZfZ n (k+1)
    have e:=Zna n k
    rw[Zna]
    generalize bin (n+1) (k+1+1)=x at *
    generalize bin (n+1) (k+1)=y at *
    generalize bin n k=u at *
    generalize bin n (k+1)=v at *
    push_cast at *
    grind
theorem Zn9(x:Int):∀n:Nat,(1+x)^n=Rg.Sg (λk=>bin n k*x^k) (n+1)
  | 0=>by
    rw[Wf]
    show (1:Int)=0+bin 0 0*x^0
    rw[Wf]; rfl
  | n+1=>by
    rw[Qy,Zn9 x n,Rg.Sg_shift (λk=>bin (n+1) k*x^k) (n+1)]
    have e1:Rg.Sg (λk=>bin (n+1) (k+1)*x^(k+1)) (n+1)=x*Rg.Sg (λk=>bin n k*x^k) (n+1)+Rg.Sg (λk=>bin n (k+1)*x^(k+1)) (n+1):=by
      rw[Rg.Sg_mul,Rg.Sg_add]
      refine Rg.Sg_congr λk _=>?_
      rw[Zna,Qy]
      generalize bin n k=u
      generalize bin n (k+1)=v
      generalize x^k=w
      grind
    have e2:Rg.Sg (λk=>bin n k*x^k) (n+1+1)=bin n 0*x^0+Rg.Sg (λk=>bin n (k+1)*x^(k+1)) (n+1):=Rg.Sg_shift _ _
    have e3:Rg.Sg (λk=>bin n k*x^k) (n+1+1)=Rg.Sg (λk=>bin n k*x^k) (n+1)+bin n (n+1)*x^(n+1):=rfl
    rw[ZdB (U7 n)] at e3
    rw[e1,Zn8]
    rw[Zn8] at e2
    generalize Rg.Sg (λk=>bin n (k+1)*x^(k+1)) (n+1)=u at *
    generalize Rg.Sg (λk=>bin n k*x^k) (n+1+1)=v at *
    generalize Rg.Sg (λk=>bin n k*x^k) (n+1)=w at *
    rw[Wf] at *
    grind
theorem ZlH{d:Int}{h:Nat->Int}:∀n,(∀i,i<n->d ∣ h i)->d ∣ Rg.Sg h n
  | 0,_=>⟨0,by show (0:Int)=d*0; omega⟩
  | n+1,e=>Int.dvd_add (ZlH n λi hi=>e i (by omega)) (e n (by omega))
theorem Zpl{p a b:Int}(g:Int.gcd a p=1)(h:p ∣ a*b):p ∣ b:=by
  have h1:p.natAbs ∣ a.natAbs*b.natAbs:=by rw[<-Qf]; exact Wk.mpr h
  have h2:Nat.Coprime p.natAbs a.natAbs:=by
    rw[Nat.coprime_iff_gcd_eq_one,Nat.gcd_comm]
    exact g
  exact Wk.mp (h2.dvd_of_dvd_mul_left h1)
theorem ZlI{p:Nat}(h:PrN p):∀m:Nat,(p:Int) ∣ (m:Int)^p-m
  | 0=>by
    have:=h.two
    rw[show p=(p-1)+1 by omega,Qy]
    exact ⟨0,by simp⟩
  | m+1=>by
    have h2:=h.two
    have ih:=ZlI h m
    have e:=Zn9 (m:Int) p
    have e1:Rg.Sg (λk=>bin p k*(m:Int)^k) (p+1)=1+(Rg.Sg (λk=>bin p (k+1)*(m:Int)^(k+1)) (p-1)+(m:Int)^p):=by
      rw[Rg.Sg_shift,Zn8,Wf]
      congr 1
      have:Rg.Sg (λk=>bin p (k+1)*(m:Int)^(k+1)) (p-1+1)=Rg.Sg (λk=>bin p (k+1)*(m:Int)^(k+1)) (p-1)+bin p (p-1+1)*(m:Int)^(p-1+1):=rfl
      rw[show p-1+1=p by omega,Zig,U9] at this
      exact this
    have d:(p:Int) ∣ Rg.Sg (λk=>bin p (k+1)*(m:Int)^(k+1)) (p-1):=ZlH _ λk hk=>by
      refine Ue ?_ (Int.dvd_mul_right _ _)
      have b:=ZfZ (p-1) k
      rw[show p-1+1=p by omega,show ((p-1:Nat):Int)+1=p by omega] at b
      have nd:¬(p:Int) ∣ ((k:Int)+1):=λz=>by
        have:=Int.le_of_dvd (by omega) z
        omega
      have g:=M2.prm_gcd h.pr nd
      have q:(p:Int) ∣ ((k:Int)+1)*bin p (k+1):=⟨_,b⟩
      exact Zpl g q
    have t:((m+1:Nat):Int)^p-((m+1:Nat):Int)=Rg.Sg (λk=>bin p (k+1)*(m:Int)^(k+1)) (p-1)+((m:Int)^p-m):=by
      rw[show ((m+1:Nat):Int)=1+m by omega,e,e1]
      omega
    rw[t]
    exact Int.dvd_add d ih
theorem ZmZ{p v:Nat}(h:PrN p)(v0:0<v)(vp:v<p):(p:Int) ∣ (v:Int)^(p-2)*v-1:=by
  have h2:=h.two
  have f:=ZlI h v
  have nd:¬(p:Int) ∣ (v:Int):=λz=>by
    have:=Int.le_of_dvd (by omega) z
    omega
  have g:=M2.prm_gcd h.pr nd
  have e:(v:Int)^p-v=v*((v:Int)^(p-2)*v-1):=by
    have:(v:Int)^p=(v:Int)^(p-2)*v*v:=by
      rw[<-Qy,<-Qy,show (p-2).succ.succ=p by omega]
    rw[this]
    generalize (v:Int)^(p-2)=y
    grind
  rw[e] at f
  exact Zpl g f
end My
namespace My
open PySem L2 PyProof.Rows
def Sm(κ:KX)(x:κ.F):Prop:=match κ with
  | .q=>(Rat.num x).natAbs<=100/\Rat.den x<=100
  | .r _ _=>True
def ZgL:Sp:=λvs H Q _=>∃(κ:KX) (v:V) (x:κ.F),vs=[.int κ.P,v]/\NR κ H v x/\x≠0/\Sm κ x/\∀H' t (d:κ.F),Same H H'->NR κ H' t d->x*d=1->Q t H'
def Cg(p a b:Int):Prop:=p ∣ a-b
theorem Cg.refl{p:Int}(a:Int):Cg p a a:=⟨0,by omega⟩
theorem Cg.trans{p a b c:Int}(h:Cg p a b)(g:Cg p b c):Cg p a c:=by
  obtain ⟨u,hu⟩:=h
  obtain ⟨v,hv⟩:=g
  exact ⟨u+v,by rw[Int.mul_add]; omega⟩
theorem Cg.mul{p a b c d:Int}(h:Cg p a b)(g:Cg p c d):Cg p (a*c) (b*d):=by
  obtain ⟨u,hu⟩:=h
  obtain ⟨v,hv⟩:=g
  refine ⟨u*c+b*v,?_⟩
  have e1:a=b+p*u:=by omega
  have e2:c=d+p*v:=by omega
  rw[e1,e2]; grind
theorem Cg.pow{p a b:Int}(h:Cg p a b):∀n:Nat,Cg p (a^n) (b^n)
  | 0=>by rw[Wf,Wf]; exact Cg.refl 1
  | n+1=>by rw[Qy,Qy]; exact (Cg.pow h n).mul h
theorem Cg.mod{p a:Int}:Cg p (a%p) a:=⟨-(a/p),by
  have:=Int.mul_ediv_add_emod a p
  rw[Wo]; omega⟩
theorem Zkh(y:Int):∀n:Nat,(y*y)^n=y^(2*n)
  | 0=>by rw[Nat.mul_zero,Wf,Wf]
  | n+1=>by
    rw[Qy,Zkh y n,show 2*(n+1)=2*n+1+1 by omega,Qy,Qy]
    grind
theorem Zk4{t y p:Int}{l:Nat}(h:l%2=1):Cg p ((t*y)%p*((y*y)%p)^(l/2)) (t*y^l):=by
  have e:t*y^l=(t*y)*(y*y)^(l/2):=by
    rw[Zkh]
    have:y^l=y^(2*(l/2))*y:=by rw[<-Qy,show (2*(l/2)).succ=l by omega]
    rw[this]
    generalize y^(2*(l/2))=z
    grind
  rw[e]
  exact Cg.mul Cg.mod (Cg.pow Cg.mod _)
theorem Zki{t y p:Int}{l:Nat}(h:l%2=0):Cg p (t*((y*y)%p)^(l/2)) (t*y^l):=by
  have e:y^l=(y*y)^(l/2):=by rw[Zkh,show 2*(l/2)=l by omega]
  rw[e]
  exact Cg.mul (Cg.refl t) (Cg.pow Cg.mod _)
theorem Zm0{p:Nat}(hp:PrN p){x:Fin p}{t:Int}(x0:x.val≠0)(t0:0<=t)(tp:t<p)(h:Cg (p:Int) t ((x.val:Int)^(p-2))):∃d:Fin p,(d.val:Int)=t/\(KX.r p hp).mulF x d=K1 (.r p hp):=by
  have h2:=hp.two
  refine ⟨(⟨t.toNat,by omega⟩:Fin p),by show ((t.toNat:Nat):Int)=t; omega,?_⟩
  have f:=ZmZ hp (v:=x.val) (by omega) x.isLt
  have c:Cg (p:Int) (t*(x.val:Int)) 1:=(h.mul (Cg.refl _)).trans f
  refine Fin.ext ?_
  show (x.val*t.toNat)%p=Fin.val (K1 (.r p hp))
  rw[ZfH]
  obtain ⟨q,hq⟩:=c
  have e:((x.val*t.toNat:Nat):Int)=1+p*q:=by
    rw[U0,show ((t.toNat:Nat):Int)=t by omega,Qj]
    omega
  have e2:(((x.val*t.toNat)%p:Nat):Int)=1:=by
    rw[Wr,e,Int.add_mul_emod_self_left]
    exact Ww (by omega) (by omega)
  omega
end My
namespace My
open PySem L2 PyProof.Rows
section
variable{P:Program}{w:World}{K:PySem.W.Frag}{mg:Str->Option Value}{base:Heap}
theorem sc_l_back:FnScope ["_law_prime_here", "_law_number", "_law_told", "_law_left"] ["_law_prime_here", "_law_number"] (Zah Zfw):=⟨rfl,rfl,rfl,by decide +kernel,rfl,by decide +kernel,by decide +kernel⟩
theorem Zhr(h:Here K mg "_law_back" Zfw) (h_l_fraction:Has P w K mg base "_law_fraction" 3 ["_law_top", "_law_bottom"] Zeq):Has P w K mg base "_law_back" 4 ["_law_prime_here", "_law_number"] ZgL:=by
  refine h.has (λf fd F=>F.binds λ_ _ _ _ _ _ us hl=>by obtain ⟨_,_,rfl⟩:=Zdm hl; exact rfl) λf fd F=>F.ok sc_l_back (λvs H Q E h=>?_) (λcdv A outer s H vs Q E hr h=>?_)
  · obtain ⟨_,_,_,rfl,_⟩:=h
    rfl
  obtain ⟨κ,v,x,rfl,nx,x0,sm,k⟩:=h
  have nd:=sc_l_back.nd
  refine ⟨_,(Zac (ZaD (Zaq Zbz (pv 0) Zad (Zaw _)) (Zae (Zan (Zak h_l_fraction hr (by rfl) (Zaa (Zai Zay (Zao Zat (pv 1) Zad (λ_ _=>rfl)) (Zao Zat (pv 1) Zad (λ_ _=>rfl))) (Zaa (Zai Zay (Zao Zat (pv 1) Zad (λ_ _=>rfl)) (Zao Zat (pv 1) Zad (λ_ _=>rfl))) Zab))))) Zar)
    (Zac (Zal (i:=2) nd rfl (Or.inl rfl) Zad)
    (Zac (Zal (i:=3) nd rfl (Or.inl rfl) (Zai Zbb (pv 0) Zad))
    (Zac (ZbM PassesOwn.never (Zaq ZdM (pv 3) Zad (Zaw _)) (Zac (ZaD (Zaq Zbz (Zai Za0 (pv 3) Zad) Zad (Zaw _)) (Zae (Zal (i:=2) nd rfl (Or.inl rfl) (Zai ZaN (Zai Zay (pv 2) (pv 1)) (pv 0)))) Zar)
      (Zac (Zal (i:=1) nd rfl (Or.inl rfl) (Zai ZaN (Zai Zay (pv 1) (pv 1)) (pv 0)))
      (Zae (Zal (i:=3) nd rfl (Or.inl rfl) (Zai Zbg (pv 3) Zad))))))
    (Zae (Zan (pv 2))))))),?_⟩
  refine ⟨_,rfl,rfl,_,rfl,?_⟩
  cases κ with
  | q =>
    obtain ⟨a,rfl,ha⟩:=nx
    refine Zer (show KX.q.P=0 from rfl) ?_
    have px:=(Zbd x).pos
    have n0:Rat.num x≠0:=λz=>x0 (Rat.num_eq_zero.mp z)
    have s1:(Rat.num x).natAbs<=10^150:=Q0 sm.1 (by decide)
    have s2:((Rat.den x:Nat):Int).natAbs<=10^150:=by rw[Qo]; exact Q0 sm.2 (by decide)
    have pb:0<Rat.num x*Rat.num x:=by
      rcases Um n0 with z | z
      · exact Int.mul_pos_of_neg_of_neg z z
      · exact Qk z z
    refine ⟨_,rfl,a,_,1,_,rfl,rfl,SqT.of ha,rfl,_,rfl,a,_,0,_,rfl,rfl,SqT.of ha,rfl,_,_,rfl,rfl,ZaO s2 s1,_,rfl,a,_,0,_,rfl,rfl,SqT.of ha,rfl,_,rfl,a,_,0,_,rfl,rfl,SqT.of ha,rfl,_,_,rfl,rfl,ZaO s1 s1,_,_,rfl,pb,?_,λr hr'=>?_⟩
    · refine Bits.of (Q9 (show (Rat.num x*Rat.num x).natAbs<=10000 by rw[Qf]; exact W1 sm.1 sm.1) (by decide))
    · refine k _ _ (Rat.divInt ((Rat.den x:Int)*Rat.num x) (Rat.num x*Rat.num x)) (Zag hr' _) ⟨r,rfl,by rw[Zaf]⟩ ?_
      show x*Rat.divInt ((Rat.den x:Int)*Rat.num x) (Rat.num x*Rat.num x)=(1:Rat)
      have e:x*Rat.divInt ((Rat.den x:Int)*Rat.num x) (Rat.num x*Rat.num x)=Rat.divInt (Rat.num x*((Rat.den x:Int)*Rat.num x)) ((Rat.den x:Int)*(Rat.num x*Rat.num x)):=by
        rw[<-Wj (Rat.num x) ((Rat.den x:Int)*Rat.num x),Qs]
      rw[e,show (1:Rat)=Rat.divInt 1 1 by decide +kernel,Qt (Wy (Qk px pb)) (by decide)]
      generalize Rat.num x=u
      generalize ((Rat.den x:Nat):Int)=z
      grind
  | r p hp =>
    have nx:v = .int (Fin.val x):=nx
    subst nx
    have h2:=hp.two
    have xv:Fin.val x≠0:=λz=>x0 (Fin.ext (by rw[z]; exact (Zc9 hp).symm))
    have xl:=Fin.isLt x
    refine Zgu (show (KX.r p hp).P≠0 by have:0<(KX.r p hp).P:=Zgt; omega) ?_
    refine ⟨_,rfl,_,_,rfl,rfl,?_⟩
    refine ⟨λm σ H'=>∃(t y:Int) (l:Nat),m=l/\σ=[some (.int (p:Int)),some (.int y),some (.int t),some (.int (l:Int))]/\H'=H/\0<=t/\t<p/\0<=y/\y<p/\Cg (p:Int) (t*y^l) ((Fin.val x:Int)^(p-2)),⟨p-2,1,(Fin.val x:Int),p-2,rfl,?_,rfl,by omega,by omega,by omega,by omega,?_⟩,?_⟩
    · show _=[some (V.int (p:Int)),some (V.int (Fin.val x:Int)),some (V.int 1),some (V.int ((p-2:Nat):Int))]
      rw[show ((p-2:Nat):Int)=(KX.r p hp).P-2 by show _=(p:Int)-2; omega]
      rfl
    · rw[U9]; exact Cg.refl _
    rintro l σ H' ⟨t,y,_,rfl,rfl,rfl,t0,t1,y0,y1,cg⟩
    have pl:=hp.lt
    have ts:t.natAbs<=10^150:=Q0 (show t.natAbs<=1000000 by omega) (by decide)
    have ys:y.natAbs<=10^150:=Q0 (show y.natAbs<=1000000 by omega) (by decide)
    have p0:(p:Int)≠0:=by omega
    have fm:∀a:Int,a.fmod p=a%p:=λa=>Qz a (by omega)
    have mb:∀a:Int,0<=a%p/\a%p<p:=λa=>⟨Wv a p0,Wz a (by omega)⟩
    refine ⟨_,rfl,_,_,rfl,rfl,_,rfl,?_⟩
    refine Zbm (λhl=>⟨_,λ_ _ h=>h,?_⟩) (λhl=>?_)
    · have hl:0<l:=by have:(0:Int)<(l:Int):=hl; omega
      have l2:(l:Int)/2=((l/2:Nat):Int):=by omega
      refine ⟨_,rfl,_,_,rfl,rfl,(by show (0:Int)<_; decide),rfl,_,rfl,?_⟩
      refine Zbn (λz=>?_) (λz=>?_)
      · have z:l%2=1:=by have:(l:Int)%2=1:=z; omega
        refine ⟨_,rfl,_,rfl,_,_,rfl,rfl,ZaO ts ys,_,rfl,_,_,rfl,rfl,p0,?_⟩
        refine ⟨_,rfl,_,rfl,_,_,rfl,rfl,ZaO ys ys,_,rfl,_,_,rfl,rfl,p0,?_⟩
        refine ⟨_,rfl,_,_,rfl,rfl,(by first | decide | exact ⟨by decide,by decide⟩ | exact .inl (by decide)),?_⟩
        have:=Zk4 (t:=t) (y:=y) (p:=(p:Int)) z
        refine ⟨l/2,by omega,(t*y)%p,(y*y)%p,l/2,rfl,?_,rfl,(mb _).1,(mb _).2,(mb _).1,(mb _).2,this.trans cg⟩
        rw[<-fm,<-fm,<-l2]
        rfl
      · have z:l%2=0:=by have:¬(l:Int)%2=1:=z; omega
        refine ⟨_,rfl,_,rfl,_,_,rfl,rfl,ZaO ys ys,_,rfl,_,_,rfl,rfl,p0,?_⟩
        refine ⟨_,rfl,_,_,rfl,rfl,(by first | decide | exact ⟨by decide,by decide⟩ | exact .inl (by decide)),?_⟩
        have:=Zki (t:=t) (y:=y) (p:=(p:Int)) z
        refine ⟨l/2,by omega,t,(y*y)%p,l/2,rfl,?_,rfl,t0,t1,(mb _).1,(mb _).2,this.trans cg⟩
        rw[<-fm,<-l2]
        rfl
    · have l0:l=0:=by have:¬(0:Int)<(l:Int):=hl; omega
      subst l0
      rw[Wf,U3] at cg
      obtain ⟨d,hd,e⟩:=Zm0 hp xv t0 t1 cg
      exact ⟨_,rfl,k _ _ d (Same.refl _) (by show V.int t=V.int (Fin.val d:Int); rw[hd]) e⟩
end
end My
namespace My
open PySem L2 PyProof.Rows
def ZeE:Sp:=λvs H Q _=>∃(κ:KX) (c:Int),vs=[.int κ.P,.int c]/\∀(H':Hp) (tp:Addr) (u v:V) (x d:κ.F),Same H H'->H' tp=some (.tup [u,v])->NR κ H' u x->NR κ H' v d->Fac κ x d->Q (.ref tp) H'
structure P1 (κ:KX) (H:Hp) (u:V) (x:κ.F):Prop where
  n:NR κ H u x
  ne:x≠0
  sm:Sm κ x
  f:∀d,x*d=1->Fac κ x d
theorem ZoU{x d0:Rat}{a b:Int}(ex:x=Rat.divInt a 6)(ha:a.natAbs<=18)(ed:d0=Rat.divInt b 6)(hb:b.natAbs<=18)(m:x*d0=1)(d:Rat)(h:x*d=1):Fac .q x d:=by
  have e:d=d0:=by grind
  subst e
  exact ⟨h,⟨a,ex,ha⟩,⟨b,ed,hb⟩⟩
theorem Zoa{H:Hp}{a:Addr}{x d0:Rat}{i j:Int}(ha:H a=some (.tup [.int x.num,.int (x.den:Int)]))(ex:x=Rat.divInt i 6)(hi:i.natAbs<=18)(ed:d0=Rat.divInt j 6)(hj:j.natAbs<=18)(m:x*d0=1)(s:x.num.natAbs<=100/\x.den<=100):P1 .q H (.ref a) x :=
  ⟨⟨a,rfl,ha⟩,λz=>by
    have z:x=(0:Rat):=z
    rw[z,Rat.zero_mul] at m
    exact absurd m (by decide +kernel),s,ZoU ex hi ed hj m⟩
theorem ZpU{p:Nat}{hp:PrN p}{H:Hp}(c:Int):∃x,P1 (.r p hp) H (.int (1+c.fmod ((p:Int)-1))) x:=by
  have h2:=hp.two
  have e0:=Wv c (show (p:Int)-1≠0 by omega)
  have e1:=Wz c (show 0<(p:Int)-1 by omega)
  rw[Qz c (by omega)]
  generalize c%((p:Int)-1)=e at *
  refine ⟨(⟨(1+e).toNat,by omega⟩:Fin p),?_,λz=>?_,trivial,λd m=>⟨m,trivial,trivial⟩⟩
  · show V.int (1+e)=V.int (((1+e).toNat:Nat):Int)
    rw[show (((1+e).toNat:Nat):Int)=1+e by omega]
  · have:=congrArg Fin.val z
    have z2:(1+e).toNat=Fin.val (K0 (.r p hp)):=this
    rw[Zc9] at z2
    omega
end My
namespace My
open PySem L2 PyProof.Rows
section
variable{P:Program}{w:World}{K:PySem.W.Frag}{mg:Str->Option Value}{base:Heap}
theorem sc_l_pair:FnScope ["_law_prime_here", "_law_cell", "_law_number"] ["_law_prime_here", "_law_cell"] (Zah Zfx):=⟨rfl,rfl,rfl,by decide +kernel,rfl,by decide +kernel,by decide +kernel⟩
theorem Zhs(h:Here K mg "_law_pair" Zfx) (h_l_back:Has P w K mg base "_law_back" 4 ["_law_prime_here", "_law_number"] ZgL):Has P w K mg base "_law_pair" 5 ["_law_prime_here", "_law_cell"] ZeE:=by
  refine h.has (λf fd F=>F.binds λ_ _ _ _ _ _ us hl=>by obtain ⟨_,_,rfl⟩:=Zdm hl; exact rfl) λf fd F=>F.ok sc_l_pair (λvs H Q E h=>?_) (λcdv A outer s H vs Q E hr h=>?_)
  · obtain ⟨_,_,rfl,_⟩:=h
    rfl
  obtain ⟨κ,c,rfl,k⟩:=h
  have nd:=sc_l_pair.nd
  refine ⟨_,(Zac (ZaD (Zaq Zbz (pv 0) Zad (Zaw _)) (Zae (Zal (i:=2) nd rfl (Or.inl rfl) (Zao Zav (ZaU (Zaa (Zbh (Zaa Zad (Zaa Zad Zab))) (Zaa (Zbh (Zaa (ZeJ ZcI Zad) (Zaa Zad Zab))) (Zaa (Zbh (Zaa Zad (Zaa Zad Zab))) (Zaa (Zbh (Zaa Zad (Zaa Zad Zab))) (Zaa (Zbh (Zaa (ZeJ ZcI Zad) (Zaa Zad Zab))) Zab)))))) (Zai Za0 (pv 1) Zad) (λ_ _=>rfl)))) (Zae (Zal (i:=2) nd rfl (Or.inl rfl) (Zai ZaE Zad (Zai ZaN (pv 1) (Zai Zbb (pv 0) Zad))))))
    (Zae (Zan (Zbh (Zaa (pv 2) (Zaa (Zak h_l_back hr (by rfl) (Zaa (pv 0) (Zaa (pv 2) Zab))) Zab)))))),?_⟩
  refine ⟨_,rfl,rfl,_,rfl,?_⟩
  cases κ with
  | r p hp =>
    have h2:=hp.two
    refine Zgu (show (KX.r p hp).P≠0 by have:0<(KX.r p hp).P:=Zgt; omega) ?_
    obtain ⟨x,px⟩:=ZpU (hp:=hp) (H:=H) c
    refine ⟨_,rfl,_,rfl,_,_,rfl,rfl,_,_,rfl,rfl,(show (p:Int)-1≠0 by omega),_,_,rfl,rfl,?_⟩
    refine ⟨_,rfl,_,rfl,_,rfl,.r p hp,_,x,rfl,px.n,px.ne,px.sm,λH2 v d S2 nv e=>?_⟩
    refine ⟨(by show 2<=sizeLine; decide),λtp ntp=>?_⟩
    have St:=Zag ntp (.tup [.int (1+c.fmod ((p:Int)-1)),v])
    exact k _ tp _ _ x d (S2.trans St) Zaf ((px.n.same S2).same St) (nv.same St) (px.f d e)
  | q =>
    refine Zer (show KX.q.P=0 from rfl) ?_
    have tail:∀H1 u (x:Rat),Same H H1->P1 .q H1 u x->∀H2 v (d:Rat),Same H1 H2->NR .q H2 v d->x*d=1->∀tp,H2 tp=none->Q (.ref tp) (upd H2 tp (.tup [u,v])):=λH1 u x S1 px H2 v d S2 nv e tp ntp =>
      k _ tp u v x d (S1.trans (S2.trans (Zag ntp _))) Zaf ((px.n.same S2).same (Zag ntp _)) (nv.same (Zag ntp _)) (px.f d e)
    refine ⟨(by show 2<=sizeLine; decide),λp1 n1=>?_⟩
    have S1:=Zag n1 (.tup [.int 1,.int 1])
    have q1:=Zaf (H:=H) (a:=p1) (o:=.tup [.int 1,.int 1])
    generalize upd H p1 (.tup [.int 1,.int 1])=H1 at *
    refine ⟨_,rfl,(by show 2<=sizeLine; decide),λp2 n2=>?_⟩
    have S2:=Zag n2 (.tup [.int (-1),.int 1])
    have q2:=Zaf (H:=H1) (a:=p2) (o:=.tup [.int (-1),.int 1])
    generalize upd H1 p2 (.tup [.int (-1),.int 1])=H2 at *
    refine ⟨(by show 2<=sizeLine; decide),λp3 n3=>?_⟩
    have S3:=Zag n3 (.tup [.int 2,.int 1])
    have q3:=Zaf (H:=H2) (a:=p3) (o:=.tup [.int 2,.int 1])
    generalize upd H2 p3 (.tup [.int 2,.int 1])=H3 at *
    refine ⟨(by show 2<=sizeLine; decide),λp4 n4=>?_⟩
    have S4:=Zag n4 (.tup [.int 1,.int 2])
    have q4:=Zaf (H:=H3) (a:=p4) (o:=.tup [.int 1,.int 2])
    generalize upd H3 p4 (.tup [.int 1,.int 2])=H4 at *
    refine ⟨_,rfl,(by show 2<=sizeLine; decide),λp5 n5=>?_⟩
    have S5:=Zag n5 (.tup [.int (-3),.int 1])
    have q5:=Zaf (H:=H4) (a:=p5) (o:=.tup [.int (-3),.int 1])
    generalize upd H4 p5 (.tup [.int (-3),.int 1])=H5 at *
    refine ⟨(by show 5<=sizeLine; decide),λl nl=>?_⟩
    have S6:=Zag nl (.lst [.ref p1,.ref p2,.ref p3,.ref p4,.ref p5])
    have q6:=Zaf (H:=H5) (a:=l) (o:=.lst [.ref p1,.ref p2,.ref p3,.ref p4,.ref p5])
    generalize upd H5 l (.lst [.ref p1,.ref p2,.ref p3,.ref p4,.ref p5])=H6 at *
    have S26:=S3.trans (S4.trans (S5.trans S6))
    have S06:=S1.trans (S2.trans S26)
    have pick:∃u x,atI [V.ref p1,.ref p2,.ref p3,.ref p4,.ref p5] (c%5)=some u/\P1 .q H6 u x:=by
      rcases (by omega:c%5=0\/c%5=1\/c%5=2\/c%5=3\/c%5=4) with e | e | e | e | e <;> rw[e]
      · exact ⟨_,(1:Rat),rfl,Zoa (d0:=1) (i:=6) (j:=6) (S26 _ _ (S2 _ _ q1)) (by decide +kernel) (by decide) (by decide +kernel) (by decide) (by decide +kernel) ⟨by decide,by decide⟩⟩
      · exact ⟨_,(-1:Rat),rfl,Zoa (d0:=-1) (i:=-6) (j:=-6) (S26 _ _ q2) (by decide +kernel) (by decide) (by decide +kernel) (by decide) (by decide +kernel) ⟨by decide,by decide⟩⟩
      · exact ⟨_,(2:Rat),rfl,Zoa (d0:=1/2) (i:=12) (j:=3) ((S4.trans (S5.trans S6)) _ _ q3) (by decide +kernel) (by decide) (by decide +kernel) (by decide) (by decide +kernel) ⟨by decide,by decide⟩⟩
      · exact ⟨_,(⟨1,2,by decide,by decide⟩:Rat),rfl,Zoa (d0:=2) (i:=3) (j:=12) ((S5.trans S6) _ _ q4) (by decide +kernel) (by decide) (by decide +kernel) (by decide) (by decide +kernel) ⟨by decide,by decide⟩⟩
      · exact ⟨_,(-3:Rat),rfl,Zoa (d0:=-1/3) (i:=-18) (j:=-2) (S6 _ _ q5) (by decide +kernel) (by decide) (by decide +kernel) (by decide) (by decide +kernel) ⟨by decide,by decide⟩⟩
    obtain ⟨u,x,hu,px⟩:=pick
    refine ⟨_,rfl,_,_,rfl,rfl,(by show (0:Int)<_; decide),l,_,_,u,rfl,rfl,SqL.of q6,hu,?_⟩
    refine ⟨_,rfl,_,rfl,_,rfl,.q,u,x,rfl,px.n,px.ne,px.sm,λH7 v d S7 nv e=>?_⟩
    exact ⟨(by show 2<=sizeLine; decide),tail H6 u x S06 px H7 v d S7 nv e⟩
end
end My
namespace L2
open PySem PySem.Spec PyProof.Rows
section
variable{X:Cx}
theorem ZgM(K:PySem.W.Frag)(h:X.K=K)(hc:X.calm=true):CallR X (.builtin "max") (λxs H Q=>∃(p:Addr) (ns:List Int),xs=[.ref p]/\SqL K H p (ns.map V.int)/\ns≠[]/\∀b,b∈ns->(∀i∈ns,i<=b)->Q (.int b) H):=by
  subst h
  intro pins s σ H xs us Q I r h
  obtain ⟨p,ns,rfl,hq,nn,q⟩:=h
  obtain ⟨u,rfl,rx⟩:=Zip r
  cases rx
  obtain ⟨its,r',pl,hz⟩:=I.list hq
  have ia:=Zcl r'
  obtain ⟨ys,e⟩:=ia.allInts.items
  have en:(numsOf its)=ns:=ia.numsOf
  have e2:its=(intItems ys).toList:=by rw[<-e]
  rw[e2,nums_intItems] at en
  have ly:ns.length=ys.size:=by rw[<-en]; simp
  have l0:ns.length≠0:=λz=>nn (List.length_eq_zero_iff.mp z)
  have gt:=argBest_gt (numAt ys) (ys.size-1)
  refine max_intList (xs:=ys) (I.ok.hd hc) (by rw[<-e]; exact pl.isList) (by omega) λv g tk hv hk=>?_
  obtain ⟨t,rfl⟩:=intItems_at hv
  refine ⟨.int _,H,I.kept hk,⟨t,rfl⟩,q _ ?_ λi hi=>?_⟩
  · rw[numAt_eq,en]
    exact getD_mem (by omega)
  · rw[<-en] at hi
    obtain ⟨j,hj,rfl⟩:=PySem.mem_getD hi
    rw[<-numAt_eq]
    exact gt.2 j (by rw[en] at hj; omega)
end
end L2
namespace My
open PySem L2 PyProof.Rows
def Sm9(κ:KX)(x:κ.F):Prop:=match κ with
  | .q=>(Rat.num x).natAbs+Rat.den x<=99
  | .r _ _=>True
abbrev L98:Nat:=69720375229712477164533808935312303556800
theorem ZoV:∀n:Nat,n<99->0<n->n ∣ L98:=by decide +kernel
theorem Sm9.qn{κ:KX}{x:κ.F}(h:Sm9 κ x):QN κ (L98:Int) (99*L98) x:=by
  cases κ with
  | r p hp=>exact trivial
  | q =>
    have h:(Rat.num x).natAbs+Rat.den x<=99:=h
    have d0:0<Rat.den x:=Rat.den_pos x
    have d99:Rat.den x<99:=by
      by_cases z:Rat.den x=99
      · have e0:Rat.num x=0:=by omega
        have r:=x.reduced
        rw[e0,z] at r
        exact absurd r (by decide)
      · omega
    obtain ⟨c,hc⟩:=ZoV (Rat.den x) d99 d0
    refine ⟨Rat.num x*c,?_,?_⟩
    · have e:x=Rat.divInt (Rat.num x) (Rat.den x):=(Qs x).symm
      have e2:Rat.divInt (Rat.num x) (Rat.den x)=Rat.divInt (Rat.num x*c) (L98:Int):=by
        rw[Qt (by omega) (by decide),hc]
        generalize Rat.num x=u
        rw[U0]
        generalize ((Rat.den x:Nat):Int)=v
        grind
      exact e.trans e2
    · rw[Qf,Qo]
      refine W1 (by omega) ?_
      rw[hc]
      exact Uo c d0
theorem Zkj{κ:KX}{n:Nat}{a:Nat->Nat->κ.F}(h:∀i j,i<n->j<n->Sm9 κ (a i j)):SzT κ n a L98 (99*L98):=⟨by decide,by decide,by decide,λi j hi hj=>(h i j hi hj).qn⟩
theorem ZlJ{κ:KX}{n D M:Nat}{a:Nat->Nat->κ.F}(h:SzT κ n a D M):GrS κ (tab n a):=⟨D,M,h.d,h.dl,h.ml,ZmV h.q⟩
def ZdL:Sp:=λvs H Q _=>∃(κ:KX) (ta:Addr) (rs:List Addr) (n:Nat) (a:Nat->Nat->κ.F),vs=[.int κ.P,.ref ta]/\Tf κ H ta rs n a/\1<=n/\n<=7/\∀H' b,Same H H'->(b=false->∀i j,i<n->j<n->Sm9 κ (a i j))->Q (.bl b) H'
end My
namespace My
open PySem L2 PyProof.Rows
section
variable{P:Program}{w:World}{K:PySem.W.Frag}{mg:Str->Option Value}{base:Heap}
theorem ZiU:FnScope ["_law_prime_here", "_law_table"] ["_law_prime_here", "_law_table"] (Zah Zen):=⟨rfl,rfl,rfl,by decide +kernel,rfl,by decide +kernel,by decide +kernel⟩
theorem ZgN(h:Here K mg "_law_large" Zen) (T:Nm mg) (Tm:mg "max" = none):Has P w K mg base "_law_large" 1 ["_law_prime_here", "_law_table"] ZdL:=by
  refine h.has (λf fd F=>F.binds λ_ _ _ _ _ _ us hl=>by obtain ⟨_,_,rfl⟩:=Zdm hl; exact rfl) λf fd F=>F.ok ZiU (λvs H Q E h=>?_) (λcdv A outer s H vs Q E hr h=>?_)
  · obtain ⟨_,_,_,_,_,rfl,_⟩:=h
    rfl
  obtain ⟨κ,ta,rs,n,a,rfl,tf,n1,n7,k⟩:=h
  refine ⟨_,(Zac (ZaD (Zaq ZdM (pv 0) Zad (Zaw _)) (Zae (Zan Zdl)) Zar)
    (Zae (Zan (Zcj ZdM (Zaj (ZgM K rfl rfl) (by rfl) Tm PyProof.Rows.Boot.max (Zaa (Zbj ["_law_row"] [] rfl (ZaC (pv 1)) (by exact λ_ _ _ _=>(Zap (i:=0) (show (["_law_row"]:List Str).Nodup by decide +kernel) rfl (Or.inl rfl))) (by exact λ_ _ _ _=>(Zaj (ZgM K rfl rfl) (by rfl) Tm PyProof.Rows.Boot.max (Zaa (Zbj ["_law_one"] [] rfl (ZkH K rfl (pv 0)) (by exact λ_ _ _ _=>(Zap (i:=0) (show (["_law_one"]:List Str).Nodup by decide +kernel) rfl (Or.inl rfl))) (by exact λ_ _ _ _=>(Zai ZaE (Zaj Zfj (by rfl) T.abs boot_abs (Zaa (Zao (Zjw K rfl) (pv 0) Zad (λ_ _=>rfl)) Zab)) (Zao (Zjw K rfl) (pv 0) Zad (λ_ _=>rfl)))) trivial) Zab))) trivial) Zab)) Zad (Zaw _))))),?_⟩
  refine ⟨_,rfl,_,_,rfl,rfl,_,rfl,?_⟩
  cases κ with
  | r p hp =>
    have h2:=hp.two
    refine Zbm (λ_=>k H false (Same.refl _) λ_ i j _ _=>trivial) (λz=>absurd (show (0:Int)<(KX.r p hp).P from Zgt) z)
  | q =>
    refine Zbm (λz=>absurd (show (0:Int)<0 from z) (by decide)) (λ_=>?_)
    have lr:=tf.r.1
    rw[Zax] at lr
    refine ⟨_,rfl,ta,rfl,⟨_,SqL.of tf.l⟩,?_⟩
    refine Za1 (K:=K) (a:=ta) (xs:=rs.map V.ref) (λq ys H1=>Same H H1/\∃ms:List Int,ys=ms.map V.int/\ms.length=q/\∀r,r<q->∀t,t<n->((Rat.num (a r t)).natAbs:Int)+(Rat.den (a r t):Int)<=ms.getD r 0) (by rw[Q1]; omega) ⟨Same.refl _,[],rfl,rfl,λr hr=>absurd hr (U2 _)⟩ (λq ys H1 _ ⟨S,_⟩=>SqL.of (S _ _ tf.l)) ?_ ?_
    · rintro q x ys H1 hx _ ⟨S1,ms,rfl,lm,hm⟩
      obtain ⟨ra,hra,rfl⟩:=Zaz hx
      have hq:q<n:=by have:=(Qi.mp hra).1; omega
      obtain ⟨zs,hzs,az⟩:=tf.r.2 q ra _ hra (Zbv a hq)
      have lz:zs.length=n:=by rw[az.1,Q1,W3]
      refine ⟨_,rfl,ra,rfl,⟨_,SqL.of (S1 _ _ hzs)⟩,?_⟩
      refine Za1 (K:=K) (a:=ra) (xs:=zs) (λt ys H2=>Same H1 H2/\ys=((List.range t).map λt=>((Rat.num (a q t)).natAbs:Int)+(Rat.den (a q t):Int)).map V.int) (by omega) ⟨Same.refl _,rfl⟩ (λt ys H2 _ ⟨S,_⟩=>SqL.of ((S1.trans S) _ _ hzs)) ?_ ?_
      · rintro t x ys H2 hx _ ⟨S2,rfl⟩
        have ht:t<n:=by have:=(Qi.mp hx).1; omega
        obtain ⟨v,hv,nv⟩:=Zcx az ht
        rw[hx] at hv
        obtain rfl:=Option.some.inj hv
        obtain ⟨b,rfl,hb⟩:=(nv.same S1).same S2
        refine ⟨_,rfl,b,_,0,_,rfl,rfl,SqT.of hb,rfl,_,rfl,_,rfl,b,_,1,_,rfl,rfl,SqT.of hb,rfl,_,_,rfl,rfl,S2,?_⟩
        rw[List.range_succ,Qu,Qu]
        congr 1
        show [V.int _]=[V.int _]
        congr 2
        congr 1
        split <;> omega
      · rintro ys H2 _ ⟨S2,rfl⟩ l nl
        have Sl:=Zag nl (.lst (((List.range zs.length).map λt=>((Rat.num (a q t)).natAbs:Int)+(Rat.den (a q t):Int)).map V.int))
        refine ⟨l,_,rfl,SqL.of Zaf,λz=>?_,λb hb hall=>⟨S1.trans (S2.trans Sl),ms++[b],by rw[Qu]; rfl,by rw[Q7,lm]; rfl,λr hr t ht=>?_⟩⟩
        · have:=congrArg List.length z
          rw[Q1,W3,lz] at this
          exact absurd this (by show ¬n=0; omega)
        · by_cases e:r=q
          · subst e
            have:(ms++[b]).getD r 0=b:=by rw[Q4,W5 (by omega),lm,Ux]; rfl
            rw[this]
            exact hall _ (W4.mpr ⟨t,Wx.mpr (by omega),rfl⟩)
          · have:(ms++[b]).getD r 0=ms.getD r 0:=by rw[Q4,Qv (by omega),<-Q4]
            rw[this]
            exact hm r (by omega) t ht
    · rintro ys H1 _ ⟨S1,ms,rfl,lm,hm⟩ l nl
      rw[Q1,lr] at lm hm
      have Sl:=Zag nl (.lst (ms.map V.int))
      refine ⟨l,ms,rfl,SqL.of Zaf,λz=>?_,λb hb hall=>⟨_,_,rfl,rfl,k _ _ (S1.trans Sl) λz i j hi hj=>?_⟩⟩
      · have:=congrArg List.length z
        exact absurd (this.symm.trans lm) (by show ¬0=n; omega)
      · have z:¬(99:Int)<b:=of_decide_eq_false z
        have h1:=hm i hi j hj
        have h2:=hall (ms.getD i 0) (by rw[Q4,Q5 (by omega)]; exact Wd _)
        show (Rat.num (a i j)).natAbs+Rat.den (a i j)<=99
        omega
end
end My
namespace My
open PySem L2 PyProof.Rows
theorem Zf0{i:Nat}{x:V}{σ:L2.St}{H:Hp}{t u:TS}{D:Ends}{rt:VK}{bk ct:L2.St->Hp->Prop}(h:Zoh t u D (σ.set i (some x)) H):ZcO i x σ H (Ends.nx ⟨Zoh t u D,rt,bk,ct⟩):=h
theorem ZeF{t u:TS}{D:Ends}{σ:L2.St}{H:Hp}(N:L2.St->Hp->Prop)(h1:∀N':L2.St->Hp->Prop,(∀σ H,N σ H->N' σ H)->t { D with nx:=N' } σ H)(h2:∀σ H,N σ H->u D σ H):Zoh t u D σ H:=h1 _ h2
def ZeG:Sp:=λvs H Q _=>∃(κ:KX) (ta:Addr) (rs:List Addr) (n D M:Nat) (a:Nat->Nat->κ.F) (c:Int),vs=[.int κ.P,.ref ta,.int c]/\Tf κ H ta rs n a/\1<=n/\n<=7/\SzT κ n a D M/\∀H' tb rs' (b:Nat->Nat->κ.F) D' M',Same H H'->Tf κ H' tb rs' n b->SzT κ n b D' M'->Rg.chi n b=Rg.chi n a->Q (.ref tb) H'
theorem Zm1{n i:Nat}(hn:2<=n)(hi:i<n)(e:Int):∃j:Nat,((i:Int)+1+e.fmod ((n:Int)-1)).fmod (n:Int)=(j:Int)/\j<n/\i≠j:=by
  have m0:=Wv e (show (n:Int)-1≠0 by omega)
  have m1:=Wz e (show 0<(n:Int)-1 by omega)
  rw[Qz e (by omega),Qz _ (by omega)]
  generalize e%((n:Int)-1)=d at *
  by_cases h:(i:Int)+1+d<n
  · refine ⟨((i:Int)+1+d).toNat,?_,by omega,by omega⟩
    rw[Ww (by omega) h]; omega
  · refine ⟨((i:Int)+1+d-n).toNat,?_,by omega,by omega⟩
    have:(i:Int)+1+d=((i:Int)+1+d-n)+n*1:=by omega
    rw[this,Int.add_mul_emod_self_left,Ww (by omega) (by omega)]; omega
theorem Zk5{n:Nat}(hn:1<=n)(e:Int):∃i:Nat,e.fmod (n:Int)=(i:Int)/\i<n:=by
  have m0:=Wv e (show (n:Int)≠0 by omega)
  have m1:=Wz e (show 0<(n:Int) by omega)
  rw[Qz e (by omega)]
  exact ⟨(e%n).toNat,by omega,by omega⟩
end My
namespace My
open PySem L2 PyProof.Rows
section
variable{P:Program}{w:World}{K:PySem.W.Frag}{mg:Str->Option Value}{base:Heap}
theorem sc_l_like:FnScope ["_law_prime_here", "_law_table", "_law_cell", "_law_size", "_law_i", "_law_j", "_law_told"] ["_law_prime_here", "_law_table", "_law_cell"] (Zah Zfy):=⟨rfl,rfl,rfl,by decide +kernel,rfl,by decide +kernel,by decide +kernel⟩
theorem Zht(h:Here K mg "_law_like" Zfy) (T:Nm mg) (h_l_swapped:Has P w K mg base "_law_swapped" 5 ["_law_table", "_law_i", "_law_j"] ZdK) (h_l_scaled:Has P w K mg base "_law_scaled" 5 ["_law_prime_here", "_law_table", "_law_i", "_law_pair_here"] ZeD) (h_l_pair:Has P w K mg base "_law_pair" 5 ["_law_prime_here", "_law_cell"] ZeE) (h_l_added:Has P w K mg base "_law_added" 5 ["_law_prime_here", "_law_table", "_law_i", "_law_j", "_law_c"] Zfh) (h_l_large:Has P w K mg base "_law_large" 5 ["_law_prime_here", "_law_table"] ZdL):Has P w K mg base "_law_like" 6 ["_law_prime_here", "_law_table", "_law_cell"] ZeG:=by
  refine h.has (λf fd F=>F.binds λ_ _ _ _ _ _ us hl=>by obtain ⟨_,_,_,rfl⟩:=Zed hl; exact rfl) λf fd F=>F.ok sc_l_like (λvs H Q E h=>?_) (λcdv A outer s H vs Q E hr h=>?_)
  · obtain ⟨_,_,_,_,_,_,_,_,rfl,_⟩:=h
    rfl
  obtain ⟨κ,ta,rs,n,D,M,a,c,rfl,tf,n1,n7,sz,k⟩:=h
  have nd:=sc_l_like.nd
  refine ⟨_,(Zac (Zal (i:=3) nd rfl (Or.inl rfl) (Zaj Zam (by rfl) T.len boot_len (Zaa (pv 1) Zab)))
    (Zac (Zal (i:=4) nd rfl (Or.inl rfl) (Zai ZaN (pv 2) (pv 3)))
    (Zac (ZaD (Zaq Zbz (pv 3) Zad (Zaw _)) (Zae (Zan (pv 1))) Zar)
    (Zac (Zal (i:=5) nd rfl (Or.inl rfl) (Zai ZaN (Zai ZaE (Zai ZaE (pv 4) Zad) (Zai ZaN (Zai Zbg (pv 2) Zad) (Zai Zbb (pv 3) Zad))) (pv 3)))
    (Zac (ZaD (Zaq Zbz (Zai Za0 (Zai Zbg (pv 2) Zad) Zad) Zad (Zaw _)) (Zae (Zal (i:=6) nd rfl (Or.inl rfl) (Zak h_l_swapped hr (by rfl) (Zaa (pv 1) (Zaa (pv 4) (Zaa (pv 5) Zab)))))) (Zae (ZaD (Zaq Zbz (Zai Za0 (Zai Zbg (pv 2) Zad) Zad) Zad (Zaw _)) (Zae (Zal (i:=6) nd rfl (Or.inl rfl) (Zak h_l_scaled hr (by rfl) (Zaa (pv 0) (Zaa (pv 1) (Zaa (pv 4) (Zaa (Zak h_l_pair hr (by rfl) (Zaa (pv 0) (Zaa (Zai Zbg (pv 2) Zad) Zab))) Zab))))))) (Zae (Zal (i:=6) nd rfl (Or.inl rfl) (Zak h_l_added hr (by rfl) (Zaa (pv 0) (Zaa (pv 1) (Zaa (pv 4) (Zaa (pv 5) (Zaa (Zao Zat (Zak h_l_pair hr (by rfl) (Zaa (pv 0) (Zaa (Zai Zbg (pv 2) Zad) Zab))) Zad (λ_ _=>rfl)) Zab)))))))))))
    (Zac (ZaD (ZaL (Zak h_l_large hr (by rfl) (Zaa (pv 0) (Zaa (pv 6) Zab)))) (Zae (Zan (pv 1))) Zar)
    (Zae (Zan (pv 6))))))))),?_⟩
  have lr:=tf.r.1
  rw[Zax] at lr
  refine ⟨_,rfl,ta,_,rfl,.inl (SqL.of tf.l),?_⟩
  rw[Q1,lr]
  refine ⟨_,rfl,_,rfl,_,_,rfl,rfl,(show (n:Int)≠0 by omega),?_⟩
  obtain ⟨i,ei,hi⟩:=Zk5 n1 c
  show ZcO 4 (V.int (c.fmod (n:Int))) _ H _
  rw[ei]
  refine ⟨_,rfl,rfl,_,rfl,?_⟩
  refine Zbn (λz=>⟨_,rfl,k H ta rs a D M (Same.refl _) tf sz rfl⟩) (λz=>?_)
  have n2:2<=n:=by omega
  obtain ⟨j,ej,hj,ne⟩:=Zm1 n2 hi (c/7)
  refine ⟨_,rfl,_,_,rfl,rfl,_,rfl,_,_,rfl,rfl,⟨by decide,by decide⟩,_,rfl,_,_,rfl,rfl,_,_,rfl,rfl,(show (n:Int)-1≠0 by omega),_,_,rfl,rfl,_,rfl,_,_,rfl,rfl,(show (n:Int)≠0 by omega),?_⟩
  show ZcO 5 (V.int (((i:Int)+1+(c/7).fmod ((n:Int)-1)).fmod (n:Int))) _ H _
  rw[ej]
  refine Zf0 (ZeF (λσ H1=>∃(tb:Addr) (rs':List Addr) (b:Nat->Nat->κ.F),σ=[some (.int κ.P),some (.ref ta),some (.int c),some (.int (n:Int)),some (.int (i:Int)),some (.int (j:Int)),some (.ref tb)]/\Same H H1/\Tf κ H1 tb rs' n b/\Rg.chi n b=Rg.chi n a) (λN' kk=>?_) ?_)
  · refine ⟨_,rfl,_,_,rfl,rfl,⟨by decide,by decide⟩,_,_,rfl,rfl,(by show (0:Int)<_; decide),rfl,_,rfl,?_⟩
    refine Zbn (λ_=>?_) (λ_=>?_)
    · exact ⟨_,rfl,_,rfl,_,rfl,κ,ta,rs,n,i,j,a,rfl,tf,n7,hi,hj,ne,λH1 tb rs' S1 t1=>kk _ _ ⟨tb,rs',_,rfl,S1,t1,Rg.chi_opW hi hj ne a⟩⟩
    refine ⟨_,rfl,_,_,rfl,rfl,⟨by decide,by decide⟩,_,_,rfl,rfl,(by show (0:Int)<_; decide),rfl,_,rfl,?_⟩
    refine Zbn (λ_=>?_) (λ_=>?_)
    · exact ⟨_,rfl,_,rfl,_,rfl,_,rfl,_,rfl,_,_,rfl,rfl,⟨by decide,by decide⟩,κ,_,rfl,λH1 tp u v x d S1 htp nu nv fc=>⟨κ,ta,tp,rs,n,i,D,M,a,u,v,x,d,rfl,tf.same S1,n7,hi,sz,htp,nu,nv,fc,λH2 tb rs' S2 t2=>kk _ _ ⟨tb,rs',_,rfl,S1.trans S2,t2,Rg.chi_opS hi fc.e a⟩⟩⟩
    · exact ⟨_,rfl,_,rfl,_,rfl,_,rfl,_,rfl,_,rfl,_,_,rfl,rfl,⟨by decide,by decide⟩,κ,_,rfl,λH1 tp u v x d S1 htp nu nv fc=>⟨tp,_,0,_,rfl,rfl,SqT.of htp,rfl,κ,ta,rs,n,i,j,D,M,a,u,x,d,rfl,tf.same S1,n7,hi,hj,ne,sz,nu,fc,λH2 tb rs' S2 t2=>kk _ _ ⟨tb,rs',_,rfl,S1.trans S2,t2,Rg.chi_opA hi hj ne a⟩⟩⟩
  · rintro σ H1 ⟨tb,rs',b,rfl,S1,t1,e⟩
    refine ⟨_,rfl,_,rfl,κ,tb,rs',n,b,rfl,t1,n1,n7,λH2 bb S2 sm=>⟨_,rfl,?_⟩⟩
    cases bb with
    | true=>exact ⟨_,rfl,k H2 ta rs a D M (S1.trans S2) (tf.same (S1.trans S2)) sz rfl⟩
    | false=>exact ⟨_,rfl,k H2 tb rs' b L98 _ (S1.trans S2) (t1.same S2) (Zkj (sm rfl)) e⟩
end
end My
namespace My
open PySem L2 PyProof.Rows
section
variable{κ:KX}
theorem Zby(f:List κ.F)(fs:List (List κ.F)):ZbP (f::fs)=f.length-1+ZbP fs:=rfl
theorem Zd3(f:List κ.F):∀(fs:List (List κ.F)),ZbP (fs++[f])=ZbP fs+(f.length-1)
  | []=>by show f.length-1+0=0+(f.length-1); omega
  | g::fs=>by
    show ZbP (g::(fs++[f]))=_
    rw[Zby,Zby,Zd3 f fs]; omega
theorem ZgO(fs:List (List κ.F))(i:Nat):ZbP (fs.take i)<=ZbP fs:=by
  induction fs generalizing i with
  | nil=>rw[List.take_nil]; exact Q2 _
  | cons f fs ih =>
    cases i with
    | zero=>exact Qb _
    | succ i =>
      rw[List.take_succ_cons,Zby,Zby]
      have:=ih i
      omega
theorem Zob:∀ {fs:List (List κ.F)},(∀f∈fs,1<=f.length)->(fs.map λf=>(f.length:Int)-1).sum=(ZbP fs:Int)
  | [],_=>rfl
  | f::fs,h=>by
    have h1:=h f (.head _)
    rw[U4,List.sum_cons,Zob (λg hg=>h g (.tail _ hg)),Zby]
    omega
theorem Zkk:∀(fs:List (List κ.F)) (r k:Nat),ZbP fs<=r\/ZbP fs<=k->bkT fs r k=0
  | [],_,_,_=>rfl
  | f::fs,r,k,h=>by
    rw[ZcF]
    rw[Zby] at h
    by_cases h1:r<f.length-1
    · rw[if_pos h1,if_neg (by omega)]
    · rw[if_neg h1]
      by_cases h2:k<f.length-1
      · rw[if_pos h2]
      · rw[if_neg h2]; exact Zkk fs _ _ (by omega)
theorem ZlK(f:List κ.F):∀(fs:List (List κ.F)) (r k:Nat),bkT (fs++[f]) r k=if ZbP fs<=r/\r<ZbP fs+(f.length-1)/\ZbP fs<=k then bkT [f] (r-ZbP fs) (k-ZbP fs) else bkT fs r k
  | [],r,k=>by
    show bkT [f] r k=if 0<=r/\r<0+(f.length-1)/\0<=k then bkT [f] r k else 0
    by_cases h:r<f.length-1
    · rw[if_pos ⟨Qb _,by omega,Qb _⟩]
    · rw[if_neg (λz=>h (by omega))]
      exact Zkk [f] r k (.inl (by show f.length-1+0<=r; omega))
  | g::fs,r,k=>by
    show bkT (g::(fs++[f])) r k=_
    rw[ZcF,ZcF g fs,Zby]
    by_cases h1:r<g.length-1
    · rw[if_pos h1,if_neg (c:=_/\_) (λz=>by omega),if_pos h1]
    · rw[if_neg h1]
      by_cases h2:k<g.length-1
      · rw[if_pos h2,if_neg (c:=_/\_) (λz=>by omega),if_neg h1,if_pos h2]
      · rw[if_neg h2,ZlK f fs]
        by_cases c:ZbP fs<=r-(g.length-1)/\r-(g.length-1)<ZbP fs+(f.length-1)/\ZbP fs<=k-(g.length-1)
        · rw[if_pos c,if_pos ⟨by omega,by omega,by omega⟩,show r-(g.length-1)-ZbP fs=r-(g.length-1+ZbP fs) by omega,show k-(g.length-1)-ZbP fs=k-(g.length-1+ZbP fs) by omega]
        · rw[if_neg c,if_neg (c:=_/\_) (λz=>c ⟨by omega,by omega,by omega⟩),if_neg h1,if_neg h2]
noncomputable def bkG(s:Nat)(f:List κ.F)(b:Nat->Nat->κ.F)(q r t:Nat):κ.F:=if s<=r/\r<s+q/\s<=t then bkT [f] (r-s) (t-s) else b r t
noncomputable def bkM(s:Nat)(f:List κ.F)(b:Nat->Nat->κ.F)(q:Nat):Nat->Nat->κ.F:=if 0<q then Zic (bkG s f b q) (s+q) (s+q-1) 1 else bkG s f b q
theorem Zk6(s:Nat)(f:List κ.F)(b:Nat->Nat->κ.F)(r t:Nat):bkG s f b 0 r t=b r t:=by
  unfold bkG
  rw[if_neg (λz=>by omega)]
theorem Zhu{s q:Nat}{f:List κ.F}{b:Nat->Nat->κ.F}(h:0<q):bkM s f b q=Zic (bkG s f b q) (s+q) (s+q-1) 1:=if_pos h
theorem Zkl{s q:Nat}{f:List κ.F}{b:Nat->Nat->κ.F}(h:¬0<q):bkM s f b q=bkG s f b q:=if_neg h
theorem Zk7(f:List κ.F)(fs:List (List κ.F))(r t:Nat):bkG (ZbP fs) f (bkT fs) (f.length-1) r t=bkT (fs++[f]) r t:=(ZlK f fs r t).symm
theorem Zm2{s q:Nat}{f:List κ.F}{b:Nat->Nat->κ.F}(hq:q+1<f.length)(b0:∀r t,s<=r->b r t=0)(r t:Nat):Zic (bkM s f b q) (s+q) (s+(f.length-1)-1) (0-f.getD q 0) r t=bkG s f b (q+1) r t:=by
  show (if r=s+q/\t=s+(f.length-1)-1 then 0-f.getD q 0 else bkM s f b q r t)=_
  by_cases er:r=s+q
  · subst er
    have e1:bkG s f b (q+1) (s+q) t=if s<=t then bkT [f] q (t-s) else 0:=by
      unfold bkG
      by_cases z:s<=t
      · rw[if_pos ⟨by omega,by omega,z⟩,if_pos z,show s+q-s=q by omega]
      · rw[if_neg (λy=>z y.2.2),if_neg z,b0 _ _ (by omega)]
    have e2:bkG s f b q (s+q) t=0:=by
      unfold bkG; rw[if_neg (λy=>by omega),b0 _ _ (by omega)]
    have e3:bkM s f b q (s+q) t=if 0<q/\t=s+q-1 then 1 else 0:=by
      by_cases z:0<q
      · rw[Zhu z]
        show (if s+q=s+q/\t=s+q-1 then 1 else bkG s f b q (s+q) t)=_
        by_cases y:t=s+q-1
        · rw[if_pos ⟨rfl,y⟩,if_pos ⟨z,y⟩]
        · rw[if_neg (λx=>y x.2),if_neg (λx=>y x.2),e2]
      · rw[Zkl z,if_neg (λx=>z x.1),e2]
    rw[e1,e3,ZcF,if_pos (show q<f.length-1 by omega)]
    by_cases h1:s<=t
    · rw[if_pos h1]
      by_cases h2:t=s+(f.length-1)-1
      · rw[if_pos ⟨rfl,h2⟩,if_pos (show t-s<f.length-1 by omega),if_neg (show ¬t-s+1=q by omega),if_pos (show t-s+2=f.length by omega)]
        generalize f.getD q 0=y
        grind
      · rw[if_neg (c:=_/\t=s+(f.length-1)-1) (λx=>h2 x.2)]
        by_cases h3:t-s<f.length-1
        · rw[if_pos h3,if_neg (show ¬t-s+2=f.length by omega)]
          by_cases h4:t-s+1=q
          · rw[if_pos h4,if_pos ⟨by omega,by omega⟩]; grind
          · rw[if_neg h4,if_neg (c:=0<q/\_) (λx=>h4 (by omega))]; grind
        · rw[if_neg h3,if_neg (c:=0<q/\_) (λx=>by omega)]
    · rw[if_neg h1,if_neg (c:=_/\t=s+(f.length-1)-1) (λx=>h1 (by omega)),if_neg (c:=0<q/\_) (λx=>h1 (by omega))]
  · rw[if_neg (λx=>er x.1)]
    have e4:bkM s f b q r t=bkG s f b q r t:=by
      by_cases z:0<q
      · rw[Zhu z]
        exact if_neg (λx=>er x.1)
      · rw[Zkl z]
    rw[e4]
    unfold bkG
    by_cases c:s<=r/\r<s+q/\s<=t
    · rw[if_pos c,if_pos ⟨by omega,by omega,by omega⟩]
    · rw[if_neg c,if_neg (λx=>c ⟨by omega,by omega,by omega⟩)]
theorem Zoc:∀ {fs:List (List κ.F)},(∀f∈fs,PolM f)->∀r k,QN κ (12^7) (2^84) (bkT fs r k)
  | [],_,_,_=>QN.zero
  | f::fs,h,r,k=>by
    rw[ZcF]
    have q1:QN κ (12^7) (2^84) (1:κ.F):=ZeB ZdX
    have hf:=h f (.head _)
    by_cases h1:r<f.length-1
    · rw[if_pos h1]
      by_cases h2:k<f.length-1
      · rw[if_pos h2]
        by_cases h3:k+1=r
        · rw[if_pos h3,if_neg (show ¬k+2=f.length by omega),show (1:κ.F)+0=1 by grind]
          exact q1
        · rw[if_neg h3]
          by_cases h4:k+2=f.length
          · rw[if_pos h4]
            have:=(Zia hf.q r).neg
            generalize 0-f.getD r 0=y at *
            rw[show (0:κ.F)+y=y by grind]
            exact this
          · rw[if_neg h4,show (0:κ.F)+0=0 by grind]
            exact QN.zero
      · rw[if_neg h2]; exact QN.zero
    · rw[if_neg h1]
      by_cases h2:k<f.length-1
      · rw[if_pos h2]; exact QN.zero
      · rw[if_neg h2]; exact Zoc (λg hg=>h g (.tail _ hg)) _ _
theorem Zod{fs:List (List κ.F)}(h:∀f∈fs,PolM f)(n:Nat):SzT κ n (bkT fs) (12^7) (2^84):=⟨by decide,by decide,by decide,λi j _ _=>Zoc h i j⟩
theorem Zm3{f:List κ.F}(h:PolM f)(k:Nat):B1 κ (f.getD k 0):=(Zia h.q k).b1 (by decide) (by decide) (by decide)
theorem Zf1{n i:Nat}(a:Nat->Nat->κ.F)(h:i<n):(tab n a).take (i+1)=(tab n a).take i++[(List.range n).map (a i)]:=by
  rw[W9,Zbv a h]; rfl
end
def Zdk:Sp:=λvs H Q _=>∃(κ:KX) (ca:Addr) (as:List Addr) (fs:List (List κ.F)),vs=[.int κ.P,.ref ca]/\H ca=some (.lst (as.map V.ref))/\RowsX κ H as fs/\fs.length<=7/\ZbP fs<=7/\(∀f∈fs,PolM f)/\∀H' D rs,Same H H'->Tf κ H' D rs (ZbP fs) (bkT fs)->Q (.ref D) H'
end My
namespace My
open PySem L2 PyProof.Rows
section
variable{P:Program}{w:World}{K:PySem.W.Frag}{mg:Str->Option Value}{base:Heap}
theorem sc_l_blocks:FnScope ["_law_prime_here", "_law_chain_here", "_law_size", "_law_told", "_law_at", "_law_f", "_law_many", "_law_k"] ["_law_prime_here", "_law_chain_here"] (Zah Zdp):=⟨rfl,rfl,rfl,by decide +kernel,rfl,by decide +kernel,by decide +kernel⟩
theorem Zf2(h:Here K mg "_law_blocks" Zdp) (T:Nm mg) (Ts:mg "sum" = none) (h_l_make:Has P w K mg base "_law_make" 4 ["_law_prime_here", "_law_number"] Za3) (h_l_times:Has P w K mg base "_law_times" 4 ["_law_prime_here", "_law_one", "_law_other"] (ZaX λ_ x y=>x*y)):Has P w K mg base "_law_blocks" 5 ["_law_prime_here", "_law_chain_here"] Zdk:=by
  refine h.has (λf fd F=>F.binds λ_ _ _ _ _ _ us hl=>by obtain ⟨_,_,rfl⟩:=Zdm hl; exact rfl) λf fd F=>F.ok sc_l_blocks (λvs H Q E h=>?_) (λcdv A outer s H vs Q E hr h=>?_)
  · obtain ⟨_,_,_,_,rfl,_⟩:=h
    rfl
  obtain ⟨κ,ca,as,fs,rfl,hC,rC,l7,s7,fo,k⟩:=h
  have nd:=sc_l_blocks.nd
  refine ⟨_,(Zac (Zal (i:=2) nd rfl (Or.inr rfl) (Zaj (ZhM rfl) (by rfl) Ts boot_sum (Zaa (Zbj ["_law_f"] [] rfl (ZaC (pv 1)) (by exact λ_ _ _ _=>(Zap (i:=0) (show (["_law_f"]:List Str).Nodup by decide +kernel) rfl (Or.inl rfl))) (by exact λ_ _ _ _=>(Zai Zbb (Zaj (Zfq K rfl) (by rfl) T.len boot_len (Zaa (pv 0) Zab)) Zad)) trivial) Zab)))
    (Zac (Zbc (i:=3) ["_law_i"] [(2, "_law_size"),(0, "_law_prime_here")] nd rfl rfl rfl (ZaB (by rfl) T.range (Zaa (pv 2) Zab)) (by exact λ_ _ _ _=>(Zap (i:=0) (show (["_law_i", "_law_size", "_law_prime_here"]:List Str).Nodup by decide +kernel) rfl (Or.inl rfl))) (by exact λ_ _ _ _=>(Zbj ["_law_j"] [(2, "_law_prime_here")] rfl (ZaB (by rfl) T.range (Zaa (pv 1) Zab)) (by exact λ_ _ _ _=>(Zap (i:=0) (show (["_law_j", "_law_prime_here"]:List Str).Nodup by decide +kernel) rfl (Or.inl rfl))) (by exact λ_ _ _ _=>(Zak h_l_make hr (by rfl) (Zaa (pv 1) (Zaa Zad Zab)))) ⟨⟨rfl,rfl,Or.inl rfl⟩,trivial⟩)) ⟨⟨rfl,rfl,Or.inl rfl⟩,⟨⟨rfl,rfl,Or.inl rfl⟩,trivial⟩⟩)
    (Zac (Zal (i:=4) nd rfl (Or.inl rfl) Zad)
    (Zac (ZaQ PassesOwn.never rfl (ZaC (pv 1)) (Zap (i:=5) nd rfl (Or.inl rfl)) (Zac (Zal (i:=6) nd rfl (Or.inl rfl) (Zai Zbb (Zaj Zam (by rfl) T.len boot_len (Zaa (pv 5) Zab)) Zad))
      (Zac (ZaQ PassesOwn.never rfl (ZaB (by rfl) T.range (Zaa (pv 6) Zab)) (Zap (i:=7) nd rfl (Or.inl rfl)) (Zac (ZaD (Zaq ZdM (pv 7) Zad (Zaw _)) (Zae (Zcg (Zak h_l_make hr (by rfl) (Zaa (pv 0) (Zaa Zad Zab))) (Zcf (Zao Zav (pv 3) (Zai ZaE (pv 4) (pv 7)) (λ_ _=>rfl)) (Zai Zbb (Zai ZaE (pv 4) (pv 7)) Zad) Za8))) Zar)
        (Zae (Zcg (Zak h_l_times hr (by rfl) (Zaa (pv 0) (Zaa (Zak h_l_make hr (by rfl) (Zaa (pv 0) (Zaa (ZeJ ZcI Zad) Zab))) (Zaa (Zao Zav (pv 5) (pv 7) (λ_ _=>rfl)) Zab)))) (Zcf (Zao Zav (pv 3) (Zai ZaE (pv 4) (pv 7)) (λ_ _=>rfl)) (Zai Zbb (Zai ZaE (pv 4) (pv 6)) Zad) Za8)))))
      (Zae (Zal (i:=4) nd rfl (Or.inl rfl) (Zai ZaE (pv 4) (pv 6)))))))
    (Zae (Zan (pv 3))))))),?_⟩
  have lC:=rC.1
  refine ⟨_,rfl,ca,rfl,⟨_,SqL.of hC⟩,?_⟩
  refine Za1 (K:=K) (a:=ca) (xs:=as.map V.ref) (λi ys H2=>H2=H/\ys=((fs.take i).map λf=>(f.length:Int)-1).map V.int) (by rw[Q1]; omega) ⟨rfl,rfl⟩ (λi ys H2 _ q=>by rw[q.1]; exact SqL.of hC) ?_ ?_
  · rintro i x ys H2 hx hl ⟨rfl,rfl⟩
    obtain ⟨a,ha,rfl⟩:=Zaz hx
    obtain ⟨f,hf⟩:=ZaG ha lC
    obtain ⟨xs,h1,h2⟩:=rC.2 i a f ha hf
    refine ⟨_,rfl,a,_,rfl,.inl (SqL.of h1),_,_,rfl,rfl,rfl,?_⟩
    rw[W9,hf]
    have e:(xs.length:Int)=(f.length:Int):=by rw[h2.1]
    show List.map V.int _++[V.int ((xs.length:Int)-1)]=_
    rw[e]
    simp
  rintro ys H2 hl ⟨rfl,rfl⟩ zl nzl
  rw[Q1,lC,Wa]
  have Sz1:=Zag nzl (.lst ((fs.map λf=>(f.length:Int)-1).map V.int))
  have qz:=Zaf (H:=H2) (a:=zl) (o:=.lst ((fs.map λf=>(f.length:Int)-1).map V.int))
  generalize upd H2 zl (.lst ((fs.map λf=>(f.length:Int)-1).map V.int))=H3 at *
  refine ⟨zl,_,rfl,SqL.of qz,?_⟩
  rw[Zob (λf hf=>by have:=(fo f hf).l2; omega)]
  obtain ⟨n,hn⟩:∃n,n=ZbP fs:=⟨_,rfl⟩
  rw[<-hn] at k s7 ⊢
  refine ⟨_,rfl,(n:Int),rfl,by omega,by omega,?_⟩
  rw[Qx]
  refine Zbp (lo:=0) (n:=n) (λi ys H4=>Same H3 H4/\∃rs:List Addr,ys=rs.map V.ref/\RowsX κ H4 rs ((tab n (λ_ _=>(0:κ.F))).take i)/\rs.Nodup/\∀r∈rs,H3 r=none) (by omega) ⟨Same.refl _,[],rfl,.nil,.nil,λr hr=>nomatch hr⟩ ?_ ?_
  · rintro i ys H4 hi _ ⟨S4,rs,rfl,rr,ndr,fr⟩
    refine ⟨_,rfl,(n:Int),rfl,by omega,by omega,?_⟩
    rw[Qx]
    refine Zbp (lo:=0) (n:=n) (λj ys H5=>Same H4 H5/\AllG (NR κ H5) ys ((List.range j).map λ_=>(0:κ.F))) (by omega) ⟨Same.refl _,.nil⟩ ?_ ?_
    · rintro j ys H5 hj _ ⟨S5,ay⟩
      refine ⟨_,rfl,κ,0,0,rfl,ZjI,λH6 v S6 nv=>⟨S5.trans S6,?_⟩⟩
      rw[List.range_succ,Qu]
      exact (ay.mono λ_ _ n=>n.same S6).append (.one nv)
    · rintro ys H5 _ ⟨S5,ay⟩ l nl
      have Sl:=Zag nl (.lst ys)
      have S45:=S5.trans Sl
      refine ⟨S4.trans S45,rs++[l],by rw[Qu]; rfl,?_,Zdv ndr (rr.notin (S5.free nl)),λr hr=>?_⟩
      · rw[Zf1 _ hi]
        exact (rr.same S45).snoc Zaf (ay.mono λ_ _ n=>n.same Sl)
      · rcases Qq.mp hr with q | q
        · exact fr r q
        · rw[Q3.mp q]; exact (S4.trans S5).free nl
  rintro ys H4 _ ⟨S4,cs,rfl,rr,ndc,fr⟩ tb ntb
  have Sb:=Zag ntb (.lst (cs.map V.ref))
  have qb:=Zaf (H:=H4) (a:=tb) (o:=.lst (cs.map V.ref))
  generalize upd H4 tb (.lst (cs.map V.ref))=H5 at *
  rw[Us (by rw[Zax]; exact Q2 n)] at rr
  have mt:Mt κ H2 H5 tb cs n (bkT (fs.take 0)):=Mt.congr (a:=λ_ _=>0) ⟨Sz1.trans (S4.trans Sb),qb,rr.same Sb,ndc,rr.notin ntb,λr hr=>Sz1.free (fr r hr)⟩ λ_ _ _ _=>rfl
  have lc:=mt.len
  refine ⟨_,rfl,ca,rfl,⟨_,SqL.of (mt.S _ _ hC)⟩,?_⟩
  refine Zbf (K:=K) (a:=ca) (xs:=as.map V.ref) (λq σ H6=>∃z5 z6 z7:Option V,σ=[some (.int κ.P),some (.ref ca),some (.int (n:Int)),some (.ref tb),some (.int (ZbP (fs.take q):Int)),z5,z6,z7]/\Mt κ H2 H6 tb cs n (bkT (fs.take q))) ⟨_,_,_,rfl,mt⟩ ?_ ?_ ?_
  · rintro q σ H6-⟨z5,z6,z7,rfl,m6⟩
    exact SqL.of (m6.S _ _ hC)
  · rintro q x σ H6 hx ⟨z5,z6,z7,rfl,m6⟩
    obtain ⟨ra,hra,rfl⟩:=Zaz hx
    obtain ⟨f,hf⟩:=ZaG hra lC
    obtain ⟨xs,hxs,ax⟩:=rC.2 q ra f hra hf
    have pf:=fo f (Qe hf)
    have f2:=pf.l2
    have et:fs.take (q+1)=fs.take q++[f]:=by rw[W9,hf]; rfl
    have sle:=ZgO fs (q+1)
    rw[et,Zd3,<-hn] at sle
    have b0:∀r t,ZbP (fs.take q)<=r->bkT (fs.take q) r t=0:=λr t hr=>Zkk _ r t (.inl hr)
    have dn:∀r t,bkG (ZbP (fs.take q)) f (bkT (fs.take q)) (f.length-1) r t=bkT (fs.take (q+1)) r t:=λr t=>by rw[et]; exact Zk7 f _ r t
    have es:ZbP (fs.take (q+1))=ZbP (fs.take q)+(f.length-1):=by rw[et,Zd3]
    generalize ZbP (fs.take q)=s at *
    generalize bkT (fs.take q)=b at *
    obtain ⟨m,hm⟩:∃m,m=f.length-1:=⟨_,rfl⟩
    rw[<-hm] at dn es sle
    have lx:=ax.1
    refine ⟨_,rfl,ra,_,rfl,.inl (SqL.of (m6.S _ _ hxs)),_,_,rfl,rfl,?_⟩
    show ZcO 6 (V.int ((xs.length:Int)-1)) _ H6 _
    rw[show (xs.length:Int)-1=(m:Int) by omega]
    refine ⟨_,rfl,(m:Int),rfl,by omega,by omega,?_⟩
    rw[Qx]
    refine ZaT (lo:=0) (n:=m) (λt σ H7=>∃z7:Option V,σ=[some (.int κ.P),some (.ref ca),some (.int (n:Int)),some (.ref tb),some (.int (s:Int)),some (.ref ra),some (.int (m:Int)),z7]/\Mt κ H2 H7 tb cs n (bkG s f b t)) ⟨_,rfl,m6.congr λr t _ _=>(Zk6 s f b r t).symm⟩ ?_ ?_
    · rintro t σ H7 ht ⟨z7,rfl,m7⟩
      refine ZeF (λσ H8=>σ=[some (.int κ.P),some (.ref ca),some (.int (n:Int)),some (.ref tb),some (.int (s:Int)),some (.ref ra),some (.int (m:Int)),some (.int (0+(t:Int)))]/\Mt κ H2 H8 tb cs n (bkM s f b t)) (λN' kk=>?_) ?_
      · refine ⟨_,rfl,_,_,rfl,rfl,_,rfl,?_⟩
        refine Zbm (λz=>?_) (λz=>?_)
        · have z:0<t:=by have:(0:Int)<0+(t:Int):=z; omega
          refine ⟨_,rfl,κ,1,1,rfl,Zdb,λH8 v S8 nv=>?_⟩
          have m8:=m7.same S8
          obtain ⟨rb,ys,hrb,hys,ly,ay⟩:=m8.row (i:=s+t) (by omega)
          refine ⟨_,rfl,_,rfl,_,rfl,_,_,rfl,rfl,tb,_,_,_,rfl,rfl,SqL.of m8.l,(by rw[show (s:Int)+(0+(t:Int))=((s+t:Nat):Int) by omega]; exact ZbG hrb),_,rfl,_,rfl,_,_,rfl,rfl,_,_,rfl,rfl,rb,ys,_,s+t-1,rfl,rfl,hys,(by rw[show (s:Int)+(0+(t:Int))-1=((s+t-1:Nat):Int) by omega]; exact ZbF (Wb _) (by omega)),?_⟩
          exact kk _ _ ⟨rfl,by rw[Zhu z]; exact m8.put (by omega) (by omega) hrb hys ay nv⟩
        · have z:¬0<t:=by have:¬(0:Int)<0+(t:Int):=z; omega
          exact kk _ _ ⟨rfl,by rw[Zkl z]; exact m7⟩
      · rintro σ H8 ⟨rfl,m8⟩
        refine ⟨_,rfl,_,rfl,_,rfl,κ,-1,Km1 κ,rfl,Zgw,λH9 vm S9 nm=>?_⟩
        have m9:=m8.same S9
        obtain ⟨vf,hvf,nf⟩:=Zbt ax (i:=t) (by omega)
        refine ⟨_,rfl,_,rfl,ra,_,_,_,rfl,rfl,SqL.of (m9.S _ _ hxs),(by rw[Qm]; exact ZaF hvf),κ,vm,vf,_,_,rfl,nm,nf.same m9.S,ZkO,Zm3 pf t,λHa v Sa nv=>?_⟩
        have nv:NR κ Ha v (Km1 κ*f.getD t 0):=nv
        rw[Zde] at nv
        have ma:=m9.same Sa
        obtain ⟨rb,ys,hrb,hys,ly,ay⟩:=ma.row (i:=s+t) (by omega)
        refine ⟨_,rfl,_,rfl,_,rfl,_,_,rfl,rfl,tb,_,_,_,rfl,rfl,SqL.of ma.l,(by rw[show (s:Int)+(0+(t:Int))=((s+t:Nat):Int) by omega]; exact ZbG hrb),_,rfl,_,rfl,_,_,rfl,rfl,_,_,rfl,rfl,rb,ys,_,s+m-1,rfl,rfl,hys,(by rw[show (s:Int)+(m:Int)-1=((s+m-1:Nat):Int) by omega]; exact ZbF (Wb _) (by omega)),?_⟩
        refine ⟨_,rfl,(ma.put (by omega) (by omega) hrb hys ay nv).congr λr t' _ _=>?_⟩
        rw[hm]
        exact Zm2 (by omega) b0 r t'
    · rintro σ H7 ⟨z7,rfl,m7⟩
      refine ⟨_,rfl,_,rfl,_,_,rfl,rfl,?_⟩
      refine ⟨some (.ref ra),some (.int (m:Int)),z7,?_,m7.congr λr t _ _=>dn r t⟩
      rw[es,show ((s+m:Nat):Int)=(s:Int)+(m:Int) by omega]
      rfl
  · rintro σ H6 ⟨z5,z6,z7,rfl,m6⟩
    rw[Q1,lC,Wa] at m6
    exact ⟨_,rfl,k H6 tb cs m6.S m6.tf⟩
end
end My
namespace My
open PySem L2 PyProof.Rows
section
variable{κ:KX}
structure PTr (κ:KX) (H:Hp) (ra:Addr) (n:Nat) (p:Nat->List κ.F) (pas:List Addr):Prop where
  l:H ra=some (.lst (pas.map V.ref))
  n:pas.length=n
  p:∀(j:Nat) pa,pas[j]?=some pa->∃xs,PolL κ H pa xs (p j)
theorem PTr.same{H H':Hp}{ra:Addr}{n:Nat}{p:Nat->List κ.F}{pas:List Addr}(h:PTr κ H ra n p pas)(S:Same H H'):PTr κ H' ra n p pas:=⟨S _ _ h.l,h.n,λj pa hj=>by obtain ⟨xs,q⟩:=h.p j pa hj; exact ⟨xs,q.same S⟩⟩
structure PTs (κ:KX) (H:Hp) (ras:List Addr) (n:Nat) (p:Nat->Nat->List κ.F):Prop where
  r:∀(i:Nat) ra,ras[i]?=some ra->∃pas,PTr κ H ra n (p i) pas
theorem PTs.same{H H':Hp}{ras:List Addr}{n:Nat}{p:Nat->Nat->List κ.F}(h:PTs κ H ras n p)(S:Same H H'):PTs κ H' ras n p:=⟨λi ra hi=>by obtain ⟨pas,q⟩:=h.r i ra hi; exact ⟨pas,q.same S⟩⟩
theorem PTs.notin{H:Hp}{ras:List Addr}{n:Nat}{p:Nat->Nat->List κ.F}(h:PTs κ H ras n p){a:Addr}(ha:H a=none):a∉ras:=λz=>by
  obtain ⟨i,hi⟩:=List.getElem?_of_mem z
  obtain ⟨pas,q⟩:=h.r i a hi
  rw[q.l] at ha; cases ha
theorem PTs.snoc{H:Hp}{ras:List Addr}{n:Nat}{p:Nat->Nat->List κ.F}(h:PTs κ H ras n p){ra:Addr}{pas:List Addr}(q:PTr κ H ra n (p ras.length) pas):PTs κ H (ras++[ra]) n p:=⟨λi a hi=>by
  rcases Nat.lt_trichotomy i ras.length with z | z | z
  · rw[Qv z] at hi; exact h.r i a hi
  · subst z
    rw[W5 (Q2 _),Ux] at hi
    cases hi
    exact ⟨pas,q⟩
  · rw[Qp (by rw[Q7]; show ras.length+1<=i; omega)] at hi
    cases hi⟩
theorem Zm4{H:Hp}{n:Nat}{p:Nat->Nat->List κ.F}:PTs κ H [] n p:=⟨λi ra h=>by cases h⟩
theorem Zk8{pas:List Addr}{j k:Nat}{a:Addr}(h:(pas.take j++pas.drop (j+1))[k]?=some a)(hj:j<pas.length):pas[Rg.skip j k]?=some a:=by
  unfold Rg.skip
  by_cases z:k<j
  · rw[if_pos z]
    rw[Qv (by rw[Q8]; omega),W7,if_pos z] at h
    exact h
  · rw[if_neg z]
    rw[W5 (by rw[Q8]; omega),Q8,Uf] at h
    rw[<-h]
    congr 1
    omega
theorem PTr.cut{H:Hp}{ra rb:Addr}{n j:Nat}{p:Nat->List κ.F}{pas:List Addr}(h:PTr κ H ra (n+1) p pas)(hj:j<n+1)(hb:H rb=some (.lst ((pas.take j++pas.drop (j+1)).map V.ref))):PTr κ H rb n (λk=>p (Rg.skip j k)) (pas.take j++pas.drop (j+1)):=by
  have l:=h.n
  refine ⟨hb,by rw[Q7,Q8,W0]; omega,λk pa hk=>?_⟩
  exact h.p _ pa (Zk8 hk (by omega))
structure PolQ (F:List κ.F) (D:Int) (M L:Nat):Prop where
  t:Trm F
  l:F.length<=L
  q:∀x∈F,QN κ D M x
theorem PolQ.mono{F:List κ.F}{D:Int}{M N L K:Nat}(h:PolQ F D M L)(m:M<=N)(k:L<=K):PolQ F D N K:=⟨h.t,Q0 h.l k,λx hx=>(h.q x hx).mono m⟩
theorem PolQ.b1{F:List κ.F}{D:Int}{M L:Nat}(h:PolQ F D M L)(d:0<D)(dl:D.natAbs<2^3000)(ml:M<2^3000):∀x∈F,B1 κ x:=λx hx=>(h.q x hx).b1 d dl ml
theorem Zf3{X:List κ.F}{r:Nat}(h:∀j,r<=j->X.getD j 0=0):sr (X.take r)=sr X:=Zn0 λk=>by
  by_cases q:k<r
  · rw[Q4,W7,if_pos q,Q4]
  · rw[h k (by omega)]
    exact ZaP (by rw[Q8]; omega)
theorem Zih(F G:List κ.F):sr (ZbZ F G F.length 0)=sr F*sr G:=Rg.Ps.ext λk=>by
  rw[Zn2,Zm9]
  by_cases h:k<F.length+G.length
  · rw[ZdY h]
    show pO F G F.length k+0=_
    generalize pO F G F.length k=z
    grind
  · rw[ZaP (by rw[ZaY]; omega),ZjL (by omega)]
theorem Zk9(F G:List κ.F):sr (ZfT F G)=sr F+sr G:=Rg.Ps.ext λk=>by rw[Rg.Ps.c_add,Zm9,Zm9,Zm9,ZfU]
theorem Zfi{F G:List κ.F}{D E:Int}{M N r A B:Nat}(hF:∀x∈F,QN κ D M x)(hG:∀x∈G,QN κ E N x)(hDE:0<D*E)(lF:F.length<=A)(lG:G.length<=B)(lr:r<=F.length+G.length)(r0:∀j,r<=j->(ZbZ F G F.length 0).getD j 0=0)(r1:r=0\/(ZbZ F G F.length 0).getD (r-1) 0≠0):PolQ ((ZbZ F G F.length 0).take r) (D*E) (A*(B*(M*N))) (A+B)/\sr ((ZbZ F G F.length 0).take r)=sr F*sr G:=by
  refine ⟨⟨Zh7 (by rw[ZaY]; exact lr) r1,by rw[Q8,ZaY]; omega,λx hx=>?_⟩,by rw[Zf3 r0,Zih]⟩
  exact (ZfK hDE hF hG x (We hx)).mono (W1 lF (Qw _ lG))
theorem Zkm{F G:List κ.F}{D:Int}{M N r A:Nat}(hF:PolQ F D M A)(hG:PolQ G D N A)(hD:0<D)(lr:r<=(ZfT F G).length)(r0:∀j,r<=j->(ZfT F G).getD j 0=0)(r1:r=0\/(ZfT F G).getD (r-1) 0≠0):PolQ ((ZfT F G).take r) D (M+N) A/\sr ((ZfT F G).take r)=sr F+sr G:=by
  have a:=hF.l
  have b:=hG.l
  refine ⟨⟨Zh7 lr r1,by rw[Q8,Zd2]; omega,λx hx=>?_⟩,by rw[Zf3 r0,Zk9]⟩
  obtain ⟨k,_,e⟩:=mem_getD (We hx)
  rw[e,ZfU]
  exact (Zia hF.q k).add hD (Zia hG.q k)
theorem Zhv{α:Type}[Lean.Grind.CommRing α]:∀j:Nat,Rg.sgn α j=if j%2=0 then 1 else 0-1
  | 0=>rfl
  | j+1=>by
    show 0-Rg.sgn α j=_
    rw[Zhv j]
    by_cases h:j%2=0
    · rw[if_pos h,if_neg (by omega)]
    · rw[if_neg h,if_pos (by omega)]; grind
theorem ZlL:Km1 κ=0-1:=by
  have:=Zde (κ:=κ) (x:=1)
  grind
theorem ZoW:cn (Km1 κ)=0-1:=by
  rw[ZlL,<-Zfg]
  refine Rg.Ps.ext λk=>?_
  rw[Rg.Ps.c_sub,Rg.Ps.c_zero,Zok,Zok]
  split
  · rfl
  · grind
theorem qn_one1:QN κ 1 1 (1:κ.F):=Zgv
theorem ZoX:QN κ 1 1 (Km1 κ):=by rw[ZlL]; exact qn_one1.neg
theorem Zm5(j:Nat):∃x:κ.F,NumV κ (1-2*((0+(j:Int))%2)) x/\cn x=Rg.sgn (Sr κ) j/\QN κ 1 1 x:=by
  by_cases h:j%2=0
  · refine ⟨1,?_,?_,qn_one1⟩
    · rw[show (1:Int)-2*((0+(j:Int))%2)=1 by omega]; exact Zdb
    · rw[Zhv,if_pos h,Zfg]
  · refine ⟨Km1 κ,?_,?_,ZoX⟩
    · rw[show (1:Int)-2*((0+(j:Int))%2) = -1 by omega]; exact Zgw
    · rw[Zhv,if_neg h,ZoW]
theorem Zkn{x:κ.F}(h:x≠0):Trm [x]:=.inr h
theorem Zii{D:Int}{M L:Nat}:PolQ ([]:List κ.F) D M L:=⟨.inl rfl,Qb _,λx hx=>nomatch hx⟩
theorem p12(n:Nat):(0:Int)<12^n:=Uh (by decide)
theorem Zpm{n:Nat}(h:n<=4):((12:Int)^n).natAbs<2^3000:=by
  rw[Uv]
  exact Q9 (Ql (by decide) h) (by decide)
theorem p6l{n c:Nat}(h:n<=4)(hc:c<=10^10):c*10^(6*n)<2^3000:=Q9 (W1 hc (Ql (by decide) (show 6*n<=24 by omega))) (by decide)
end
def ZoY(n:Nat):Sp:=λvs H Q _=>∃(κ:KX) (ta:Addr) (ras:List Addr) (p:Nat->Nat->List κ.F),vs=[.int κ.P,.ref ta]/\H ta=some (.lst (ras.map V.ref))/\ras.length=n/\PTs κ H ras n p/\(∀i j,i<n->j<n->PolQ (p i j) 12 108 2) ∧
  ∀(H':Hp) (R:Addr) (zs:List V) (F:List κ.F),Same H H'->PolL κ H' R zs F->PolQ F (12^n) (10^(6*n)) (1+3*n)->sr F=Rg.det n (λi j=>sr (p i j))->Q (.ref R) H'
def Zij(N:Nat):Sp:=λvs H Q E=>∃n,n<N/\ZoY n vs H Q E
end My
namespace My
open PySem L2 PyProof.Rows
section
variable{P:Program}{w:World}{K:PySem.W.Frag}{mg:Str->Option Value}{base:Heap}
theorem sc_l_det:FnScope ["_law_prime_here", "_law_rows", "_law_told", "_law_j", "_law_part"] ["_law_prime_here", "_law_rows"] (Zah Zfz):=⟨rfl,rfl,rfl,by decide +kernel,rfl,by decide +kernel,by decide +kernel⟩
theorem ZpV(h:Here K mg "_law_det" Zfz):Has P w K mg base "_law_det" 5 ["_law_prime_here", "_law_rows"] (Zij 0) :=
  h.has (λf fd F=>F.binds λ_ _ _ _ _ _ us hl=>by obtain ⟨_,_,rfl⟩:=Zdm hl; exact rfl) λf fd F=>F.ok sc_l_det (λvs H Q E h=>absurd h λ⟨_,z,_⟩=>U2 _ z) (λcdv A outer s H vs Q E hr h=>absurd h λ⟨_,z,_⟩=>U2 _ z)
theorem ZcG{J N:Nat}(N3:N<=3)(h:Here K mg "_law_det" Zfz) (T:Nm mg) (h_l_make:Has P w K mg base "_law_make" J ["_law_prime_here", "_law_number"] Za3) (h_l_det:Has P w K mg base "_law_det" J ["_law_prime_here", "_law_rows"] (Zij N)) (h_l_poly_times:Has P w K mg base "_law_poly_times" J ["_law_prime_here", "_law_f", "_law_g"] Zbl) (h_l_poly_plus:Has P w K mg base "_law_poly_plus" J ["_law_prime_here", "_law_f", "_law_g"] ZcK):Has P w K mg base "_law_det" (J+1) ["_law_prime_here", "_law_rows"] (Zij (N+1)):=by
  refine h.has (λf fd F=>F.binds λ_ _ _ _ _ _ us hl=>by obtain ⟨_,_,rfl⟩:=Zdm hl; exact rfl) λf fd F=>F.ok sc_l_det (λvs H Q E h=>?_) (λcdv A outer s H vs Q E hr h=>?_)
  · obtain ⟨_,_,_,_,_,_,rfl,_⟩:=h
    rfl
  obtain ⟨n,nN,κ,ta,ras,p,rfl,hT,lr,pt,sz,k⟩:=h
  have n3:n<=3:=by omega
  have nd:=sc_l_det.nd
  refine ⟨_,(Zac (Zal (i:=2) nd rfl (Or.inl rfl) (ZaU (Zaa (Zak h_l_make hr (by rfl) (Zaa (pv 0) (Zaa Zad Zab))) Zab)))
    (Zac (ZaD (Zaq ZdM (Zaj Zam (by rfl) T.len boot_len (Zaa (pv 1) Zab)) Zad (Zaw _)) (Zac (Zal (i:=2) nd rfl (Or.inl rfl) (ZaU Zab))
      (Zae (ZaQ PassesOwn.never rfl (ZaB (by rfl) T.range (Zaa (Zaj Zam (by rfl) T.len boot_len (Zaa (pv 1) Zab)) Zab)) (Zap (i:=3) nd rfl (Or.inr rfl)) (Zac (Zal (i:=4) nd rfl (Or.inl rfl) (Zak h_l_det hr (by rfl) (Zaa (pv 0) (Zaa (Zbj ["_law_row"] [(3, "_law_j")] rfl (ZaC (Za7 ZbQ (pv 1) (Zbo Zad) ZbJ)) (by exact λ_ _ _ _=>(Zap (i:=0) (show (["_law_row", "_law_j"]:List Str).Nodup by decide +kernel) rfl (Or.inl rfl))) (by exact λ_ _ _ _=>(Zai Zjg (Za7 (ZfR K rfl) (pv 0) ZbJ (Zbo (pv 1))) (Za7 (ZfR K rfl) (pv 0) (Zbo (Zai ZaE (pv 1) Zad)) ZbJ))) ⟨⟨rfl,rfl,Or.inl rfl⟩,trivial⟩) Zab))))
        (Zac (Zal (i:=4) nd rfl (Or.inl rfl) (Zak h_l_poly_times hr (by rfl) (Zaa (pv 0) (Zaa (Zao Zav (Zao Zav (pv 1) Zad (λ_ _=>rfl)) (pv 3) (λ_ _=>rfl)) (Zaa (pv 4) Zab)))))
        (Zac (Zal (i:=4) nd rfl (Or.inl rfl) (Zak h_l_poly_times hr (by rfl) (Zaa (pv 0) (Zaa (ZaU (Zaa (Zak h_l_make hr (by rfl) (Zaa (pv 0) (Zaa (Zai Zbb Zad (Zai ZdD Zad (Zai Za0 (pv 3) Zad))) Zab))) Zab)) (Zaa (pv 4) Zab)))))
        (Zae (Zal (i:=2) nd rfl (Or.inl rfl) (Zak h_l_poly_plus hr (by rfl) (Zaa (pv 0) (Zaa (pv 2) (Zaa (pv 4) Zab)))))))))))) Zar)
    (Zae (Zan (pv 2))))),?_⟩
  refine ⟨_,rfl,κ,1,1,rfl,Zdb,λH1 v1 S1 nv1=>⟨(by show 1<=sizeLine; decide),λda nda=>?_⟩⟩
  have Sd:=Zag nda (.lst [v1])
  have qd:=Zaf (H:=H1) (a:=da) (o:=.lst [v1])
  generalize upd H1 da (.lst [v1])=H2 at *
  have S02:=S1.trans Sd
  refine Zf0 (ZeF (λσ H3=>∃(R:Addr) (zs:List V) (F:List κ.F) (z3 z4:Option V),σ=[some (.int κ.P),some (.ref ta),some (.ref R),z3,z4]/\Same H H3/\PolL κ H3 R zs F/\PolQ F (12^n) (10^(6*n)) (1+3*n)/\sr F=Rg.det n (λi j=>sr (p i j))) (λN' kk=>?_) ?_)
  · refine ⟨_,rfl,ta,_,rfl,.inl (SqL.of (S02 _ _ hT)),_,_,rfl,rfl,_,rfl,?_⟩
    rw[Q1,lr]
    refine Zbm (λz=>?_) (λz=>?_)
    · have z:0<n:=by have:(0:Int)<(n:Int):=z; omega
      obtain ⟨m,rfl⟩:∃m,n=m+1:=⟨n-1,by omega⟩
      refine ⟨(by show 0<=sizeLine; decide),λea nea=>?_⟩
      have Se:=Zag nea (.lst [])
      have qe:=Zaf (H:=H2) (a:=ea) (o:=.lst [])
      generalize upd H2 ea (.lst [])=H3 at *
      have S03:=S02.trans Se
      refine ⟨_,rfl,ta,_,rfl,.inl (SqL.of (S03 _ _ hT)),((m+1:Nat):Int),(by rw[Q1,lr]),by omega,by omega,?_⟩
      rw[Qx]
      refine ZaT (lo:=0) (n:=m+1) (λq σ H4=>∃(R:Addr) (zs:List V) (F:List κ.F) (z3 z4:Option V),σ=[some (.int κ.P),some (.ref ta),some (.ref R),z3,z4]/\Same H H4/\PolL κ H4 R zs F/\PolQ F (12^(m+1)) (q*(20000*10^(6*m))) (1+3*(m+1))/\sr F=Rg.Sg (λj=>Rg.sgn (Sr κ) j*sr (p 0 j)*Rg.det m (λi t=>sr (p (i+1) (Rg.skip j t)))) q) ⟨ea,[],[],_,_,rfl,S03,⟨qe,.nil⟩,Zii,ZlD⟩ ?_ ?_
      · rintro q σ H4 hq ⟨R,zs,F,z3,z4,rfl,S4,pl,pq,es⟩
        have hT4:=S4 _ _ hT
        refine ⟨_,rfl,_,rfl,_,rfl,ta,_,rfl,SqL.of hT4,λsl nsl=>?_⟩
        rw[show ZeK (ras.map V.ref) (some 1) none=(ras.drop 1).map V.ref by rw[List.map_drop]; exact Zes _ 1]
        have Ss:=Zag nsl (.lst ((ras.drop 1).map V.ref))
        have qs:=Zaf (H:=H4) (a:=sl) (o:=.lst ((ras.drop 1).map V.ref))
        generalize upd H4 sl (.lst ((ras.drop 1).map V.ref))=H5 at *
        have S05:=S4.trans Ss
        have ld:(ras.drop 1).length=m:=by rw[W0,lr]; rfl
        refine ⟨sl,rfl,⟨_,SqL.of qs⟩,?_⟩
        refine Za1 (K:=K) (a:=sl) (xs:=(ras.drop 1).map V.ref) (λi ys H6=>∃cs:List Addr,ys=cs.map V.ref/\cs.length=i/\Same H5 H6/\PTs κ H6 cs m (λi t=>p (i+1) (Rg.skip q t))) (by rw[Q1]; omega) ⟨[],rfl,rfl,Same.refl _,Zm4⟩ (λi ys H6 _ ⟨as,_,_,S,_⟩=>SqL.of (S _ _ qs)) ?_ ?_
        · rintro i x ys H6 hx hl ⟨cs,rfl,lc,S6,pc⟩
          obtain ⟨b,hb,rfl⟩:=Zaz hx
          rw[Uf] at hb
          have S06:=S05.trans S6
          obtain ⟨pas,hp⟩:=pt.r (1+i) b hb
          have hp6:=hp.same S06
          have lp:=hp.n
          refine ⟨_,rfl,_,rfl,_,rfl,b,_,rfl,SqL.of hp6.l,λl1 nl1=>?_⟩
          rw[show ZeK (pas.map V.ref) none (some (0+(q:Int)))=(pas.take q).map V.ref by rw[Qm,List.map_take]; exact Zda _ q]
          have Sl1:=Zag nl1 (.lst ((pas.take q).map V.ref))
          have ql1:=Zaf (H:=H6) (a:=l1) (o:=.lst ((pas.take q).map V.ref))
          generalize upd H6 l1 (.lst ((pas.take q).map V.ref))=H7 at *
          refine ⟨_,rfl,_,rfl,_,_,rfl,rfl,_,rfl,b,_,rfl,SqL.of (Sl1 _ _ hp6.l),λl2 nl2=>?_⟩
          rw[show ZeK (pas.map V.ref) (some (0+(q:Int)+1)) none=(pas.drop (q+1)).map V.ref by rw[Qm,List.map_drop]; exact Zes _ (q+1)]
          have Sl2:=Zag nl2 (.lst ((pas.drop (q+1)).map V.ref))
          have ql2:=Zaf (H:=H7) (a:=l2) (o:=.lst ((pas.drop (q+1)).map V.ref))
          generalize upd H7 l2 (.lst ((pas.drop (q+1)).map V.ref))=H8 at *
          refine ⟨l1,l2,_,_,rfl,rfl,Sl2 _ _ ql1,ql2,Q0 (show _<=1000 by rw[Q1,Q1,Q8,W0]; omega) (by decide),λl3 nl3=>?_⟩
          rw[<-Qu]
          have Sl3:=Zag nl3 (.lst ((pas.take q++pas.drop (q+1)).map V.ref))
          have ql3:=Zaf (H:=H8) (a:=l3) (o:=.lst ((pas.take q++pas.drop (q+1)).map V.ref))
          generalize upd H8 l3 (.lst ((pas.take q++pas.drop (q+1)).map V.ref))=H9 at *
          have S69:=Sl1.trans (Sl2.trans Sl3)
          refine ⟨cs++[l3],by rw[Qu]; rfl,by rw[Q7,lc]; rfl,S6.trans S69,(pc.same S69).snoc (pas:=pas.take q++pas.drop (q+1)) ?_⟩
          rw[lc,Nat.add_comm i 1]
          exact (hp6.same S69).cut hq ql3
        rintro ys H6 _ ⟨cs,rfl,lc,S6,pc⟩ mb nmb
        have Sm:=Zag nmb (.lst (cs.map V.ref))
        have qm:=Zaf (H:=H6) (a:=mb) (o:=.lst (cs.map V.ref))
        generalize upd H6 mb (.lst (cs.map V.ref))=H7 at *
        rw[Q1,ld] at lc
        have S57:=S6.trans Sm
        have S07:=S05.trans S57
        refine ⟨m,by omega,κ,mb,cs,(λi t=>p (i+1) (Rg.skip q t)),rfl,qm,lc,pc.same Sm,(λi j hi hj=>sz _ _ (by omega) (by unfold Rg.skip; split <;> omega)),λH8 Rd zd Fd_ S8 pld pqd esd=>?_⟩
        have S08:=S07.trans S8
        obtain ⟨r0,hr0⟩:∃r0,ras[0]?=some r0:=⟨_,Q5 (by omega)⟩
        obtain ⟨pas,hp⟩:=pt.r 0 r0 hr0
        have lp:=hp.n
        obtain ⟨pa,hpa⟩:∃pa,pas[q]?=some pa:=⟨_,Q5 (by omega)⟩
        obtain ⟨xs,px⟩:=hp.p q pa hpa
        have px8:=px.same S08
        have q0:=sz 0 q (by omega) hq
        have m2:m<=2:=by omega
        have dp:=p12 m
        have dl:=Zpm (n:=m) (by omega)
        have lM:2*((1+3*m)*(108*10^(6*m)))<=2000*10^(6*m):=by
          generalize 10^(6*m)=N
          have:(1+3*m)*(108*N)<=7*(108*N):=Qw _ (by omega)
          omega
        have D1:(12:Int)*12^m=12^(m+1):=by rw[Qy,Qj]
        have d1p:=p12 (m+1)
        have d1l:=Zpm (n:=m+1) (by omega)
        refine ⟨_,rfl,_,rfl,ta,_,_,_,rfl,rfl,SqL.of (S08 _ _ hT),ZbG (i:=0) hr0,_,rfl,r0,_,_,_,rfl,rfl,SqL.of (hp.same S08).l,(by rw[Qm]; exact ZbG hpa),_,rfl,κ,pa,Rd,xs,zd,p 0 q,Fd_,12,12^m,108,10^(6*m),rfl,px8.l,pld.l,px8.al,pld.al,by have:=q0.l; omega,by have:=pqd.l; omega,q0.q,pqd.q,by decide,dp,⟨by decide,dl,by decide,Q9 (Nat.le_of_eq (Nat.one_mul _).symm) (p6l (c:=1) (by omega) (by decide)),by rw[D1]; exact d1l⟩,Q9 (Q0 (W1 q0.l (Qw _ pqd.l)) lM) (p6l (by omega) (by decide)),λH9 R9 z9 r9 S9 h9 a9 l9 c9 e9 _=>?_⟩
        obtain ⟨pq9,es9⟩:=Zfi q0.q pqd.q (by rw[D1]; exact d1p) q0.l pqd.l l9 c9 e9
        rw[D1] at pq9
        generalize (ZbZ (p 0 q) Fd_ (p 0 q).length 0).take r9=G9 at *
        have pq9:=pq9.mono lM (Q2 _)
        have S09:=S08.trans S9
        obtain ⟨sg,nsg,esg,qsg⟩:=Zm5 (κ:=κ) q
        refine ⟨_,rfl,_,rfl,_,rfl,_,_,rfl,rfl,(by show (0:Int)<_; decide),_,_,rfl,rfl,.inl ⟨by decide,by decide⟩,_,_,rfl,rfl,κ,_,sg,rfl,nsg,λHa vg Sa ng=>⟨(by show 1<=sizeLine; decide),λga nga=>?_⟩⟩
        have Sg_:=Zag nga (.lst [vg])
        have qg:=Zaf (H:=Ha) (a:=ga) (o:=.lst [vg])
        generalize upd Ha ga (.lst [vg])=Hb at *
        have S9b:=Sa.trans Sg_
        have S0b:=S09.trans S9b
        have lM2:1*((2+(1+3*m))*(1*(2000*10^(6*m))))<=20000*10^(6*m):=by
          generalize 10^(6*m)=N
          have:(2+(1+3*m))*(1*(2000*N))<=9*(1*(2000*N)):=Qw _ (by omega)
          omega
        have qsg1:∀x∈[sg],QN κ 1 1 x:=λx hx=>by rw[Q3.mp hx]; exact qsg
        have D2:(1:Int)*12^(m+1)=12^(m+1):=U9 _
        refine ⟨_,rfl,κ,ga,R9,[vg],z9,[sg],G9,1,12^(m+1),1,2000*10^(6*m),rfl,qg,S9b _ _ h9,.one (ng.same Sg_),a9.mono (λ_ _ n=>n.same S9b),(by show 1<=100; decide),by have:=pq9.l; omega,qsg1,pq9.q,by decide,d1p,⟨by decide,d1l,by decide,p6l (by omega) (by decide),by rw[D2]; exact d1l⟩,Q9 (Q0 (W1 (Q2 1) (Qw _ pq9.l)) lM2) (p6l (by omega) (by decide)),λHc Rc zc rc Sc hc ac lc_ cc ec _=>?_⟩
        obtain ⟨pqc,esc⟩:=Zfi qsg1 pq9.q (by rw[D2]; exact d1p) (Q2 1) pq9.l lc_ cc ec
        rw[D2] at pqc
        generalize (ZbZ [sg] G9 [sg].length 0).take rc=Gc at *
        have pqc:=pqc.mono lM2 (show 1+(2+(1+3*m))<=1+3*(m+1) by omega)
        have S4c:Same H4 Hc:=Ss.trans (S57.trans (S8.trans (S9.trans (S9b.trans Sc))))
        have S0c:=S4.trans S4c
        have lq:q*(20000*10^(6*m))<2^3000:=by
          rw[<-Wi]
          exact p6l (by omega) (Q0 (Qw _ (show q<=3 by omega)) (by decide))
        refine ⟨_,rfl,_,rfl,_,rfl,κ,R,Rc,zs,zc,F,Gc,rfl,pl.same S4c,⟨hc,ac⟩,by have:=pq.l; omega,by have:=pqc.l; omega,pq.b1 d1p d1l lq,pqc.b1 d1p d1l (p6l (by omega) (by decide)),λHd Rd2 zd2 rd Sd2 pld2 ld2 cd ed=>?_⟩
        obtain ⟨pqe,ese⟩:=Zkm pq pqc d1p ld2 cd ed
        rw[show q*(20000*10^(6*m))+20000*10^(6*m)=(q+1)*(20000*10^(6*m)) from (Uj q _).symm] at pqe
        refine ⟨Rd2,zd2,_,_,_,rfl,S0c.trans Sd2,pld2,pqe,?_⟩
        rw[ese,es,esc,es9,esd]
        show _+cn sg*(sr (p 0 q)*_)=Rg.Sg _ q+Rg.sgn (Sr κ) q*sr (p 0 q)*Rg.det m (λi t=>sr (p (i+1) (Rg.skip q t)))
        rw[esg]
        generalize Rg.det m (λi t=>sr (p (i+1) (Rg.skip q t)))=d
        generalize Rg.sgn (Sr κ) q=c
        generalize sr (p 0 q)=b
        congr 1
        grind
      · rintro σ H4 ⟨R,zs,F,z3,z4,rfl,S4,pl,pq,es⟩
        refine kk _ _ ⟨R,zs,F,_,_,rfl,S4,pl,pq.mono ?_ (Q2 _),es⟩
        rw[show 6*(m+1)=6*m+6 by omega,Wt]
        generalize 10^(6*m)=N
        have:(m+1)*(20000*N)<=3*(20000*N):=Qw _ (by omega)
        rw[show (10:Nat)^6=1000000 by decide]
        omega
    · have z:n=0:=by have:¬(0:Int)<(n:Int):=z; omega
      subst z
      exact kk _ _ ⟨da,[v1],[1],_,_,rfl,S02,⟨qd,.one (nv1.same Sd)⟩,⟨Zkn ZeA,Q2 1,λx hx=>by rw[Q3.mp hx]; exact Zgv⟩,Zfg⟩
  · rintro σ H3 ⟨R,zs,F,z3,z4,rfl,S3,pl,pq,es⟩
    exact ⟨_,rfl,k H3 R zs F S3 pl pq es⟩
end
end My
namespace My
open PySem L2 PyProof.Rows
section
variable{κ:KX}
open Classical in
noncomputable def t1(x:κ.F):List κ.F:=if x=0 then [] else [x]
theorem ZoZ{x:κ.F}{r:Nat}(l:r<=1)(z:∀j,r<=j->[x].getD j 0=0)(c:r=0\/[x].getD (r-1) 0≠0):[x].take r=t1 x:=by
  unfold t1
  by_cases e:r=0
  · subst e
    rw[if_pos (show x=0 from z 0 (Q2 0))]
    rfl
  · have e:r=1:=by omega
    subst e
    rw[if_neg (show x≠0 from c.resolve_left (by decide))]
    rfl
theorem Zo0(x:κ.F):sr (t1 x)=Rg.lin x 0:=Rg.Ps.ext λk=>by
  unfold t1
  show _=if k=0 then x else if k=1 then 0 else 0
  by_cases e:x=0
  · rw[if_pos e,ZlD,Rg.Ps.c_zero,e]
    split
    · rfl
    · split <;> rfl
  · rw[if_neg e]
    show (cn x).c k=_
    rw[Zok]
    split
    · rfl
    · split <;> rfl
theorem Zoe(x:κ.F):sr [x,1]=Rg.lin x 1:=Rg.Ps.ext λk=>by
  show _=if k=0 then x else if k=1 then 1 else 0
  match k with
  | 0=>rfl
  | 1=>rfl
  | k+2=>rfl
noncomputable def lsP(a:Nat->Nat->κ.F)(i j:Nat):List κ.F:=if i=j then [0-a i j,1] else t1 (0-a i j)
theorem Zof(a:Nat->Nat->κ.F)(i j:Nat):sr (lsP a i j)=Rg.xa a i j:=by
  unfold lsP Rg.xa
  by_cases e:i=j
  · rw[if_pos e,if_pos e]; exact Zoe _
  · rw[if_neg e,if_neg e]; exact Zo0 _
theorem Zo1{a:Nat->Nat->κ.F}{i j:Nat}(h:QN κ 12 108 (a i j)):PolQ (lsP a i j) 12 108 2:=by
  unfold lsP
  by_cases e:i=j
  · rw[if_pos e]
    refine ⟨.inr ZeA,Q2 2,λx hx=>?_⟩
    rcases Qh.mp hx with z | z
    · rw[z]; exact h.neg
    · rw[Q3.mp z]; exact ZdX
  · rw[if_neg e]
    unfold t1
    by_cases z:0-a i j=0
    · rw[if_pos z]; exact Zii
    · rw[if_neg z]
      exact ⟨Zkn z,(show 1<=2 by decide),λx hx=>by rw[Q3.mp hx]; exact h.neg⟩
theorem PolL.off{H H':Hp}{a b:Addr}{xs ys:List V}{f:List κ.F}(h:PolL κ H a xs f)(ne:a≠b)(hb:H b=some (.lst ys))(O:Off [b] H H'):PolL κ H' a xs f:=⟨O _ _ (λz=>ne (Q3.mp z)) h.l,h.al.mono λ_ _ n=>n.off hb O⟩
structure PTf (κ:KX) (H1 H:Hp) (ras:List Addr) (n:Nat) (p:Nat->Nat->List κ.F):Prop where
  r:∀(i:Nat) ra,ras[i]?=some ra->∃pas,PTr κ H ra n (p i) pas/\H1 ra=none/\∀pa∈pas,H1 pa=none
theorem PTf.pts{H1 H:Hp}{ras:List Addr}{n:Nat}{p:Nat->Nat->List κ.F}(h:PTf κ H1 H ras n p):PTs κ H ras n p:=⟨λi ra hi=>by obtain ⟨pas,q,_⟩:=h.r i ra hi; exact ⟨pas,q⟩⟩
theorem PTf.off{H1 H2 H H':Hp}{ras:List Addr}{n:Nat}{p:Nat->Nat->List κ.F}{b:Addr}{ys:List V}(h:PTf κ H1 H2 ras n p)(S:Same H2 H)(f:H1 b≠none\/H2 b=none)(hb:H b=some (.lst ys))(O:Off [b] H H'):PTf κ H1 H' ras n p:=⟨λi ra hi=>by
  obtain ⟨pas,q,q2,q3⟩:=h.r i ra hi
  refine ⟨pas,⟨O _ _ (λz=>?_) (S _ _ q.l),q.n,λj pa hj=>?_⟩,q2,q3⟩
  · rw[Q3.mp z] at q2
    rcases f with f | f
    · exact f q2
    · have:=q.l
      rw[Q3.mp z,f] at this
      cases this
  · obtain ⟨xs,px⟩:=q.p j pa hj
    refine ⟨xs,(px.same S).off (λz=>?_) hb O⟩
    rcases f with f | f
    · exact f (by rw[<-z]; exact q3 pa (Qe hj))
    · have:=px.l
      rw[z,f] at this
      cases this⟩
theorem PTf.snoc{H1 H:Hp}{ras:List Addr}{n:Nat}{p:Nat->Nat->List κ.F}(h:PTf κ H1 H ras n p){ra:Addr}{pas:List Addr}(q:PTr κ H ra n (p ras.length) pas)(f:H1 ra=none)(g:∀pa∈pas,H1 pa=none):PTf κ H1 H (ras++[ra]) n p:=⟨λi a hi=>by
  rcases Nat.lt_trichotomy i ras.length with z | z | z
  · rw[Qv z] at hi; exact h.r i a hi
  · subst z
    rw[W5 (Q2 _),Ux] at hi
    cases hi
    exact ⟨pas,q,f,g⟩
  · rw[Qp (by rw[Q7]; show ras.length+1<=i; omega)] at hi
    cases hi⟩
end
def ZeH:Sp:=λvs H Q _=>∃(κ:KX) (ta:Addr) (rs:List Addr) (n:Nat) (a:Nat->Nat->κ.F),vs=[.int κ.P,.ref ta]/\Tf κ H ta rs n a/\n<=3/\(∀i j,i<n->j<n->QN κ 12 108 (a i j))/\∀(H':Hp) (D:Addr) (ras:List Addr),Same H H'->H' D=some (.lst (ras.map V.ref))->ras.length=n->PTs κ H' ras n (lsP a)->Q (.ref D) H'
end My
namespace My
open PySem L2 PyProof.Rows
section
variable{P:Program}{w:World}{K:PySem.W.Frag}{mg:Str->Option Value}{base:Heap}
theorem sc_l_less:FnScope ["_law_prime_here", "_law_table", "_law_told", "_law_i", "_law_row"] ["_law_prime_here", "_law_table"] (Zah ZfA):=⟨rfl,rfl,rfl,by decide +kernel,rfl,by decide +kernel,by decide +kernel⟩
theorem Zhw(h:Here K mg "_law_less" ZfA) (T:Nm mg) (h_l_make:Has P w K mg base "_law_make" 4 ["_law_prime_here", "_law_number"] Za3) (h_l_times:Has P w K mg base "_law_times" 4 ["_law_prime_here", "_law_one", "_law_other"] (ZaX λ_ x y=>x*y)) (h_l_cut:Has P w K mg base "_law_cut" 4 ["_law_prime_here", "_law_numbers"] ZdZ):Has P w K mg base "_law_less" 5 ["_law_prime_here", "_law_table"] ZeH:=by
  refine h.has (λf fd F=>F.binds λ_ _ _ _ _ _ us hl=>by obtain ⟨_,_,rfl⟩:=Zdm hl; exact rfl) λf fd F=>F.ok sc_l_less (λvs H Q E h=>?_) (λcdv A outer s H vs Q E hr h=>?_)
  · obtain ⟨_,_,_,_,_,rfl,_⟩:=h
    rfl
  obtain ⟨κ,ta,rs,n,a,rfl,tf,n3,sz,k⟩:=h
  have nd:=sc_l_less.nd
  refine ⟨_,(Zac (Zal (i:=2) nd rfl (Or.inl rfl) (ZaU Zab))
    (Zac (ZaQ PassesOwn.never rfl (ZaB (by rfl) T.range (Zaa (Zaj Zam (by rfl) T.len boot_len (Zaa (pv 1) Zab)) Zab)) (Zap (i:=3) nd rfl (Or.inl rfl)) (Zac (Zbc (i:=4) ["_law_one"] [(0, "_law_prime_here")] nd rfl rfl rfl (ZaC (Zao Zav (pv 1) (pv 3) (λ_ _=>rfl))) (by exact λ_ _ _ _=>(Zap (i:=0) (show (["_law_one", "_law_prime_here"]:List Str).Nodup by decide +kernel) rfl (Or.inl rfl))) (by exact λ_ _ _ _=>(Zak h_l_cut hr (by rfl) (Zaa (pv 1) (Zaa (ZaU (Zaa (Zak h_l_times hr (by rfl) (Zaa (pv 1) (Zaa (Zak h_l_make hr (by rfl) (Zaa (pv 1) (Zaa (ZeJ ZcI Zad) Zab))) (Zaa (pv 0) Zab)))) Zab)) Zab)))) ⟨⟨rfl,rfl,Or.inl rfl⟩,trivial⟩)
      (Zac (Zcg (ZaU (Zaa (Zak h_l_times hr (by rfl) (Zaa (pv 0) (Zaa (Zak h_l_make hr (by rfl) (Zaa (pv 0) (Zaa (ZeJ ZcI Zad) Zab))) (Zaa (Zao Zav (Zao Zav (pv 1) (pv 3) (λ_ _=>rfl)) (pv 3) (λ_ _=>rfl)) Zab)))) (Zaa (Zak h_l_make hr (by rfl) (Zaa (pv 0) (Zaa Zad Zab))) Zab))) (Zcf (pv 4) (pv 3) Za8))
      (Zae (ZaZ (Zd9 PySem.F.plainAttrs_list PySem.F.slot_list_append PySem.F.type_list_append Za5 (pv 2) (Zaa (pv 4) Zab)))))))
    (Zae (Zan (pv 2))))),?_⟩
  have lr:=tf.r.1
  rw[Zax] at lr
  refine ⟨(by show 0<=sizeLine; decide),λtb ntb=>?_⟩
  have St:=Zag ntb (.lst [])
  have qt:=Zaf (H:=H) (a:=tb) (o:=.lst [])
  generalize upd H tb (.lst [])=H1 at *
  refine ⟨_,rfl,ta,_,rfl,.inl (SqL.of (St _ _ tf.l)),(n:Int),(by rw[Q1,lr]),by omega,by omega,?_⟩
  rw[Qx]
  refine ZaT (lo:=0) (n:=n) (λq σ H2=>∃(z3 z4:Option V) (ras:List Addr),σ=[some (.int κ.P),some (.ref ta),some (.ref tb),z3,z4]/\Off [tb] H1 H2/\H2 tb=some (.lst (ras.map V.ref))/\ras.length=q/\PTf κ H1 H2 ras n (lsP a)) ⟨_,_,[],rfl,λ_ _ _ q=>q,qt,rfl,⟨λi ra h=>by cases h⟩⟩ ?_ ?_
  · rintro q σ H2 hq ⟨z3,z4,ras,rfl,O2,hD,lq,pf⟩
    have S02:Same H H2:=Off.same O2 St λz hz=>by rw[Q3.mp hz]; exact ntb
    obtain ⟨ra,hra⟩:∃ra,rs[q]?=some ra:=⟨_,Q5 (by omega)⟩
    obtain ⟨zs,hzs,az⟩:=tf.r.2 q ra _ hra (Zbv a hq)
    have lz:zs.length=n:=by rw[az.1,Q1,W3]
    refine ⟨_,rfl,_,rfl,ta,_,_,_,rfl,rfl,SqL.of (S02 _ _ tf.l),(by rw[Qm]; exact ZbG hra),ra,rfl,⟨_,SqL.of (S02 _ _ hzs)⟩,?_⟩
    refine Za1 (K:=K) (a:=ra) (xs:=zs) (λt ys H3=>∃pas:List Addr,ys=pas.map V.ref/\pas.length=t/\Same H2 H3/\(∀pa∈pas,H2 pa=none)/\∀(j:Nat) pa,pas[j]?=some pa->∃xs,PolL κ H3 pa xs (t1 (0-a q j))) (by omega) ⟨[],rfl,rfl,Same.refl _,(λpa h=>nomatch h),λj pa h=>by cases h⟩ (λt ys H3 _ ⟨_,_,_,S,_⟩=>SqL.of ((S02.trans S) _ _ hzs)) ?_ ?_
    · rintro t x ys H3 hx _ ⟨pas,rfl,lp,S3,fr,pl⟩
      have ht:t<n:=by have:=(Qi.mp hx).1; omega
      obtain ⟨v,hv,nv⟩:=Zcx az ht
      rw[hx] at hv
      obtain rfl:=Option.some.inj hv
      have nv3:=(nv.same S02).same S3
      refine ⟨_,rfl,_,rfl,_,rfl,_,rfl,κ,-1,Km1 κ,rfl,Zgw,λH4 vm S4 nm=>⟨_,rfl,κ,vm,x,_,_,rfl,nm,nv3.same S4,ZkO,(sz q t hq ht).b1 (by decide) (by decide) (by decide),λH5 u S5 nu=>⟨(by show 1<=sizeLine; decide),λla nla=>?_⟩⟩⟩
      have nu:NR κ H5 u (Km1 κ*a q t):=nu
      rw[Zde] at nu
      have Sl:=Zag nla (.lst [u])
      have ql:=Zaf (H:=H5) (a:=la) (o:=.lst [u])
      generalize upd H5 la (.lst [u])=H6 at *
      have S36:=S4.trans (S5.trans Sl)
      have S26:=S3.trans S36
      have fl:H2 la=none:=(S3.trans (S4.trans S5)).free nla
      refine ⟨κ,la,[u],[0-a q t],rfl,ql,.one (nu.same Sl),λH7 D r S7 hDD lr7 c0 c1 fD=>?_⟩
      have e7:=ZoZ lr7 c0 c1
      refine ⟨pas++[D],by rw[Qu]; rfl,by rw[Q7,lp]; rfl,S26.trans S7,λpa hp=>?_,λj pa hj=>?_⟩
      · rcases Qq.mp hp with z | z
        · exact fr pa z
        · rw[Q3.mp z]
          rcases fD with e | e
          · rw[e]; exact fl
          · exact S26.free e
      · rcases Nat.lt_trichotomy j pas.length with z | z | z
        · rw[Qv z] at hj
          obtain ⟨xs,px⟩:=pl j pa hj
          exact ⟨xs,px.same (S36.trans S7)⟩
        · rw[z,W5 (Q2 _),Ux] at hj
          cases hj
          rw[z,lp,<-e7]
          exact ⟨_,hDD,ZcC (.one ((nu.same Sl).same S7)) r⟩
        · rw[Qp (by rw[Q7]; show pas.length+1<=j; omega)] at hj
          cases hj
    rintro ys H3 _ ⟨pas,rfl,lp,S3,fr,pl⟩ rw_ nrw
    rw[lz] at lp
    have Sw:=Zag nrw (.lst (pas.map V.ref))
    have qw:=Zaf (H:=H3) (a:=rw_) (o:=.lst (pas.map V.ref))
    have fw:H2 rw_=none:=S3.free nrw
    have nwp:rw_∉pas:=λz=>by
      obtain ⟨j,hj⟩:=List.getElem?_of_mem z
      obtain ⟨xs,px⟩:=pl j rw_ hj
      rw[px.l] at nrw; cases nrw
    generalize upd H3 rw_ (.lst (pas.map V.ref))=H4 at *
    have S24:=S3.trans Sw
    have S04:=S02.trans S24
    obtain ⟨v,hv,nv⟩:=Zcx az hq
    refine ⟨_,rfl,_,rfl,_,rfl,κ,-1,Km1 κ,rfl,Zgw,λH5 vm S5 nm=>?_⟩
    have S05:=S04.trans S5
    refine ⟨_,rfl,_,rfl,ta,_,_,_,rfl,rfl,SqL.of (S05 _ _ tf.l),(by rw[Qm]; exact ZbG hra),_,rfl,ra,_,_,_,rfl,rfl,SqL.of (S05 _ _ hzs),(by rw[Qm]; exact ZaF hv),κ,vm,v,_,_,rfl,nm,nv.same S05,ZkO,(sz q q hq hq).b1 (by decide) (by decide) (by decide),λH6 u S6 nu=>?_⟩
    have nu:NR κ H6 u (Km1 κ*a q q):=nu
    rw[Zde] at nu
    refine ⟨_,rfl,κ,1,1,rfl,Zdb,λH7 v1 S7 n1=>⟨(by show 2<=sizeLine; decide),λda nda=>?_⟩⟩
    have Sd:=Zag nda (.lst [u,v1])
    have qd:=Zaf (H:=H7) (a:=da) (o:=.lst [u,v1])
    have S47:=S5.trans (S6.trans S7)
    have fd2:H2 da=none:=(S24.trans S47).free nda
    have nwd:rw_≠da:=λz=>by rw[<-z,S47 _ _ qw] at nda; cases nda
    generalize upd H7 da (.lst [u,v1])=H8 at *
    have S48:=S47.trans Sd
    have S28:=S24.trans S48
    have qw8:=S48 _ _ qw
    refine ⟨_,rfl,_,rfl,rw_,_,_,q,rfl,rfl,qw8,(by rw[Qm]; exact ZbF (Wb _) (by rw[Q1]; omega)),?_⟩
    have O9:Off [rw_] H8 (upd H8 rw_ (.lst ((pas.map V.ref).set q (.ref da)))):=Za9 (Same.refl H8)
    have q9:upd H8 rw_ (.lst ((pas.map V.ref).set q (.ref da))) rw_=some (.lst ((pas.set q da).map V.ref)):=by rw[Zaf,List.map_set]
    generalize upd H8 rw_ (.lst ((pas.map V.ref).set q (.ref da)))=H9 at *
    have ntw:tb≠rw_:=λz=>by rw[<-z,hD] at fw; cases fw
    have hD9:H9 tb=some (.lst (ras.map V.ref)):=O9 _ _ (λz=>ntw (Q3.mp z)) (S28 _ _ hD)
    have f1:∀b,H2 b=none->H1 b=none:=λb hb=>by
      cases e:H1 b with
      | none=>rfl
      | some o =>
        by_cases z:b=tb
        · rw[z,hD] at hb; cases hb
        · rw[O2 b o (λy=>z (Q3.mp y)) e] at hb; cases hb
    have row9:PTr κ H9 rw_ n (lsP a q) (pas.set q da):=by
      refine ⟨q9,by rw[Wc,lp],λj pa hj=>?_⟩
      rw[Wu] at hj
      by_cases e:q=j
      · subst e
        rw[if_pos rfl,if_pos (by omega)] at hj
        cases hj
        unfold lsP
        rw[if_pos rfl]
        refine ⟨[u,v1],PolL.off ⟨qd,?_⟩ (λz=>nwd z.symm) qw8 O9⟩
        exact AllG.append (xs:=[u]) (.one ((nu.same S7).same Sd)) (.one (n1.same Sd))
      · rw[if_neg e] at hj
        obtain ⟨xs,px⟩:=pl j pa hj
        unfold lsP
        rw[if_neg e]
        exact ⟨xs,(px.same (Sw.trans S48)).off (λz=>nwp (by rw[<-z]; exact Qe hj)) qw8 O9⟩
    have pf9:PTf κ H1 H9 ras n (lsP a):=pf.off S28 (.inr fw) qw8 O9
    refine ⟨_,rfl,.inl ⟨rfl,_,SqL.of hD9⟩,_,rfl,tb,_,_,rfl,rfl,hD9,Q6 (show (ras.map V.ref).length<1000 by rw[Q1]; omega) (by decide),?_⟩
    have Oa:Off [tb] H9 (upd H9 tb (.lst (ras.map V.ref++[.ref rw_]))):=Za9 (Same.refl H9)
    have pfa:=PTf.snoc (ra:=rw_) (pas:=pas.set q da) pf9 (by rw[lq]; exact row9) (f1 _ fw) (λpa hp=>by
      rcases Uu hp with z | z
      · exact f1 _ (fr pa z)
      · rw[z]; exact f1 _ fd2)
    refine ⟨_,_,ras++[rw_],rfl,λb o nb hb=>Oa b o nb (?_),by rw[Zaf,Qu]; rfl,by rw[Q7,lq]; rfl,pfa.off (Same.refl _) (.inl (by rw[qt]; exact λz=>nomatch z)) hD9 Oa⟩
    have h2:=O2 b o nb hb
    exact O9 b o (λz=>by rw[Q3.mp z,fw] at h2; cases h2) (S28 _ _ h2)
  · rintro σ H2 ⟨z3,z4,ras,rfl,O2,hD,lq,pf⟩
    exact ⟨_,rfl,k H2 tb ras (Off.same O2 St λz hz=>by rw[Q3.mp hz]; exact ntb) hD lq pf.pts⟩
end
end My
namespace My
open PySem L2 PyProof.Rows
section
variable{κ:KX}
theorem Zm6(n:Nat)(a:Nat->Nat->κ.F):Trm (coL (Rg.chi n a) (n+1)):=.inr (by
  rw[Zba,show n+1-1=n by omega,Zdh _ (U7 n),Rg.chi_top]
  exact ZeA)
theorem Zm7{n:Nat}{a:Nat->Nat->κ.F}{F:List κ.F}(t:Trm F)(e:sr F=Rg.chi n a):F=coL (Rg.chi n a) (n+1):=ZmO t (Zm6 n a) λk=>by
  rw[<-Zm9,e]
  by_cases h:k<n+1
  · rw[Zdh _ h]
  · rw[ZaP (by rw[Zba]; omega),Rg.chi_deg (by omega)]
theorem Zm8{F:List κ.F}(h:Mon F):Trm F:=.inr (by rw[h.2]; exact ZeA)
theorem ZgP(f:List κ.F):∀fs:List (List κ.F),ZeW (fs++[f])=ZeW fs*sr f
  | []=>by
    show sr f*1=1*sr f
    generalize sr f=a
    grind
  | g::fs=>by
    show sr g*ZeW (fs++[f])=sr g*ZeW fs*sr f
    rw[ZgP f fs]
    generalize sr f=a
    generalize sr g=b
    generalize ZeW fs=c
    grind
theorem Zo2{i A B:Nat}(hA:A<=8)(hB:B<=8):A*(B*(2^(90*i)*2^84))<=2^(90*(i+1)):=by
  rw[show 90*(i+1)=90*i+90 by omega,Wt]
  generalize 2^(90*i)=N
  have h1:A*(B*(N*2^84))<=8*(8*(N*2^84)):=W1 hA (Qw _ hB)
  have e:8*(8*(N*2^84))=N*2^90:=by
    rw[show (2:Nat)^90=64*2^84 by decide]
    generalize (2:Nat)^84=T
    grind
  omega
theorem ZlM{i:Nat}(h:i<=7):(0:Int)<(12^7)^i/\(((12:Int)^7)^i).natAbs<2^3000/\2^(90*i)<2^3000:=by
  refine ⟨Uh (by decide),?_,Nat.pow_lt_pow_right (by decide) (by omega)⟩
  rw[Uv]
  exact Q9 (Ql (by decide) h) (by decide)
theorem RowsX.drop1{H:Hp}{as:List Addr}{R:List (List κ.F)}(h:RowsX κ H as R)(k:Nat):RowsX κ H (as.drop k) (R.drop k):=by
  refine ⟨by rw[W0,W0,h.1],λi a f ha hf=>?_⟩
  rw[Uf] at ha hf
  exact h.2 _ a f ha hf
theorem Zo3(c:Int):∃m:Int,atI [V.int 1,V.int 2,V.int 3,V.int 4,V.int 5,V.int 3,V.int 2,V.int 7] (c%8)=some (.int m)/\1<=m/\m<=7:=by
  rcases (by omega:c%8=0\/c%8=1\/c%8=2\/c%8=3\/c%8=4\/c%8=5\/c%8=6\/c%8=7) with e | e | e | e | e | e | e | e <;> rw[e]
  · exact ⟨1,rfl,by decide,by decide⟩
  · exact ⟨2,rfl,by decide,by decide⟩
  · exact ⟨3,rfl,by decide,by decide⟩
  · exact ⟨4,rfl,by decide,by decide⟩
  · exact ⟨5,rfl,by decide,by decide⟩
  · exact ⟨3,rfl,by decide,by decide⟩
  · exact ⟨2,rfl,by decide,by decide⟩
  · exact ⟨7,rfl,by decide,by decide⟩
end
noncomputable def ZpW{κ:KX}(f:List κ.F):PyData:=.list (f.map κ.D)
theorem PolL.rp{κ:KX}{H:Hp}{a:Addr}{xs:List V}{f:List κ.F}(h:PolL κ H a xs f):Rp H 2 (.ref a) (ZpW f):=Zjy h.l (h.al.all2 λ_ _ n=>n.rp)
def ZeI(CF CR:Addr):Sp:=λvs H Q _=>∃(κ:KX) (s ta da:Addr) (rs:List Addr) (n D M:Nat) (a:Nat->Nat->κ.F) (xs:List V) (F:List κ.F),vs=[.ref s,.int κ.P,.ref ta,.ref da]/\KdX CF CR κ H s/\Tf κ H ta rs n a/\1<=n/\n<=7/\SzT κ n a D M/\PolL κ H da xs F/\Trm F/\sr F=Rg.chi n a/\∀H',Same H H'->Q (.bl true) H'
end My
namespace My
open PySem L2 PyProof.Rows
section
variable{P:Program}{w:World}{K:PySem.W.Frag}{mg:Str->Option Value}{base:Heap}{CF CR cF:Addr}
theorem sc_l_same:FnScope ["_law_kind_here", "_law_prime_here", "_law_table", "_law_due", "_law_handed", "_law_found"] ["_law_kind_here", "_law_prime_here", "_law_table", "_law_due"] (Zah ZfB):=⟨rfl,rfl,rfl,by decide +kernel,rfl,by decide +kernel,by decide +kernel⟩
theorem Zhx(h:Here K mg "_law_same" ZfB) (T:Nm mg) (h_great:HasX P w K mg base "great" 8 ["kind", "A"] (ZfS CF CR cF)) (h_l_spoil:Has P w K mg base "_law_spoil" 8 ["_law_thing"] (Zfa K (Zfa K (Zfa K spF)))) (h_l_is_row:Has P w K mg base "_law_is_row" 8 ["_law_prime_here", "_law_found", "_law_many"] Zdd):Has P w K mg base "_law_same" 9 ["_law_kind_here", "_law_prime_here", "_law_table", "_law_due"] (ZeI CF CR):=by
  refine h.has (λf fd F=>F.binds λ_ _ _ _ _ _ us hl=>by obtain ⟨_,_,_,_,rfl⟩:=ZoD hl; exact rfl) λf fd F=>F.ok sc_l_same (λvs H Q E h=>?_) (λcdv A outer s H vs Q E hr h=>?_)
  · obtain ⟨_,_,_,_,_,_,_,_,_,_,_,rfl,_⟩:=h
    rfl
  obtain ⟨κ,sk,ta,da,rs,n,D,M,a,xs,F,rfl,hk,tf,n1,n7,sz,pl,tr,es,k⟩:=h
  have nd:=sc_l_same.nd
  refine ⟨_,(Zac (Zbc (i:=4) ["_law_row"] [] nd rfl rfl rfl (ZaC (pv 2)) (by exact λ_ _ _ _=>(Zap (i:=0) (show (["_law_row"]:List Str).Nodup by decide +kernel) rfl (Or.inl rfl))) (by exact λ_ _ _ _=>(ZbU (Za2 K rfl) (by rfl) T.list boot_list (Zaa (pv 0) Zab))) trivial)
    (Zac (ZaZ (Zak h_l_spoil hr (by rfl) (Zaa (Zfp h_great Zfo hr (by rfl) (Zaa (pv 0) (Zaa (pv 4) Zab))) Zab)))
    (Zac (Zal (i:=5) nd rfl (Or.inl rfl) (Zfp h_great Zfo hr (by rfl) (Zaa (pv 0) (Zaa (pv 4) Zab))))
    (Zae (Zan (Zd4 (Zak h_l_is_row hr (by rfl) (Zaa (pv 1) (Zaa (pv 5) (Zaa (Zaj Zam (by rfl) T.len boot_len (Zaa (pv 3) Zab)) Zab)))) (Zd4 (Zcj (Zlk hr) (pv 5) (pv 3) (Zaw _)) (ZeY (Zcj (Zlk hr) (pv 4) (pv 2) (Zaw _)))))))))),?_⟩
  have eF:=Zm7 tr es
  refine ⟨_,rfl,ta,rfl,⟨_,SqL.of tf.l⟩,?_⟩
  refine Zdj tf.l tf.r (by rw[Zax]; omega) (λx H Q ⟨p,ys,e,sq,k⟩=>⟨_,rfl,p,ys,by rw[e],.inl sq,k⟩) λcs H1 S1 rx ndc fr=>?_
  intro tb ntb
  have Sb:=Zag ntb (.lst (cs.map V.ref))
  have qb:=Zaf (H:=H1) (a:=tb) (o:=.lst (cs.map V.ref))
  generalize upd H1 tb (.lst (cs.map V.ref))=H2 at *
  have mt:Mt κ H H2 tb cs n a:=⟨S1.trans Sb,qb,rx.same Sb,ndc,rx.notin ntb,fr⟩
  refine ⟨_,rfl,_,rfl,κ,sk,tb,cs,tab n a,n,rfl,hk.same mt.S,mt.tabL n1 (by omega),(λne=>absurd (Zax n a) ne),λ_=>⟨n7,ZlJ sz,λH3 D3 ys S3 nD hD ays=>?_⟩⟩
  have ly:ys.length<=100:=by rw[ays.1,Zba]; omega
  refine ⟨_,rfl,.inr (.inr ⟨D3,ys,λ_ H'=>H'=H3,rfl,hD,ly,rfl,λi H' _ e=>by rw[e]; exact hD,λi x' H' Q' hx e k'=>?_,λH' e=>?_⟩)⟩
  · subst e
    obtain ⟨x,_,nx⟩:=ays.get hx
    exact ZjM nx (k' _ _ rfl)
  subst e
  have O:Off [D3] H' (upd H' D3 (.lst (ys++[.non]))):=Za9 (Same.refl H')
  generalize upd H' D3 (.lst (ys++[.non]))=H4 at *
  have S24:Same H2 H4:=Off.same O S3 λz hz=>by rw[Q3.mp hz]; exact nD
  have m4:=mt.same S24
  refine ⟨_,rfl,_,rfl,κ,sk,tb,cs,tab n a,n,rfl,hk.same m4.S,m4.tabL n1 (by omega),(λne=>absurd (Zax n a) ne),λ_=>⟨n7,ZlJ sz,λH5 D5 y5 S5 nD5 hD5 a5=>?_⟩⟩
  have m5:=m4.same S5
  have S05:=m5.S
  rw[ZmW,<-eF] at a5
  have pl5:=pl.same S05
  refine ⟨_,rfl,_,rfl,_,rfl,da,_,rfl,.inl (SqL.of pl5.l),κ,D5,y5,F,(by rw[pl5.al.1]; rfl),hD5,a5,_,rfl,Ziv ?_⟩
  refine ⟨_,rfl,_,rfl,_,(PolL.rp ⟨hD5,a5⟩).mono (by decide),pl5.rp.mono (by decide),_,rfl,Ziv ?_⟩
  exact ⟨_,rfl,_,rfl,_,(m5.r.rp m5.l).mono (by decide),((tf.r.same S05).rp (S05 _ _ tf.l)).mono (by decide),k H5 S05⟩
end
end My
namespace My
open PySem L2 PyProof.Rows
def sp_law(K:PySem.W.Frag):Sp:=λvs H Q _=>∃(a:Addr) (ns:List Int),vs=[.ref a]/\SqL K H a (ns.map V.int)/\ns.length<=63/\(∀i∈ns,Bits 1048576 i)/\∀H',Q (.bl true) H'
theorem Zik(ns:List Int)(lo hi:Option Int):∃ms:List Int,ZeK (ns.map V.int) lo hi=ms.map V.int/\ms.length<=ns.length:=by
  unfold ZeK
  rw[<-List.map_drop,<-List.map_take]
  exact ⟨_,rfl,by rw[Q8,W0]; omega⟩
section
variable{P:Program}{w:World}{K:PySem.W.Frag}{mg:Str->Option Value}{base:Heap}{CF CR:Addr}
theorem sc_law:FnScope ["_law_script", "_law_cells", "_law_prime_here", "_law_kind_here", "_law_cell", "_law_most", "_law_chain_here", "_law_table", "_law_turn", "_law_due", "_law_f", "_law_size", "_law_other"] ["_law_script"] (Zah Zmm):=⟨rfl,rfl,rfl,by decide +kernel,rfl,by decide +kernel,by decide +kernel⟩
theorem Zog{f:Addr}{fd:FuncData}(F:Fun K "law" "law" Zmm f fd) (T:Nm mg) (h_l_prime_by:Has P w K mg base "_law_prime_by" 9 ["_law_cell"] Zdc) (h_l_kind:Has P w K mg base "_law_kind" 9 ["_law_prime_here"] (ZgE CF CR)) (h_l_cell_at:Has P w K mg base "_law_cell_at" 9 ["_law_cells", "_law_k"] (Zcw K)) (h_l_chain:Has P w K mg base "_law_chain" 9 ["_law_prime_here", "_law_cell", "_law_most"] ZdI) (h_l_blocks:Has P w K mg base "_law_blocks" 9 ["_law_prime_here", "_law_chain_here"] Zdk) (h_l_like:Has P w K mg base "_law_like" 9 ["_law_prime_here", "_law_table", "_law_cell"] ZeG) (h_l_make:Has P w K mg base "_law_make" 9 ["_law_prime_here", "_law_number"] Za3) (h_l_poly_times:Has P w K mg base "_law_poly_times" 9 ["_law_prime_here", "_law_f", "_law_g"] Zbl) (h_l_same:Has P w K mg base "_law_same" 9 ["_law_kind_here", "_law_prime_here", "_law_table", "_law_due"] (ZeI CF CR)) (h_l_rows_by:Has P w K mg base "_law_rows_by" 9 ["_law_prime_here", "_law_cells", "_law_at", "_law_rows", "_law_columns"] ZdJ) (h_l_refused:Has P w K mg base "_law_refused" 9 ["_law_kind_here", "_law_table"] (ZcL CF CR)) (h_l_less:Has P w K mg base "_law_less" 9 ["_law_prime_here", "_law_table"] ZeH) (h_l_det:Has P w K mg base "_law_det" 9 ["_law_prime_here", "_law_rows"] (Zij 4)):FnOk P w K mg base CX0 10 f fd ["_law_script"] (sp_law K):=by
  refine F.ok sc_law (λvs H Q E h=>?_) (λcdv A outer s H vs Q E hr h=>?_)
  · obtain ⟨_,_,rfl,_⟩:=h
    rfl
  obtain ⟨a,ns,rfl,hS,hl,hb,k⟩:=h
  have nd:=sc_law.nd
  refine ⟨_,(Zac (Zal (i:=1) nd rfl (Or.inl rfl) (Za7 ZbQ (pv 0) ZbJ (Zbo Zad)))
    (Zac (Zal (i:=2) nd rfl (Or.inl rfl) (Zak h_l_prime_by hr (by rfl) (Zaa (Zak h_l_cell_at hr (by rfl) (Zaa (pv 1) (Zaa Zad Zab))) Zab)))
    (Zac (Zal (i:=3) nd rfl (Or.inl rfl) (Zak h_l_kind hr (by rfl) (Zaa (pv 2) Zab)))
    (Zac (Zal (i:=4) nd rfl (Or.inl rfl) (Zak h_l_cell_at hr (by rfl) (Zaa (pv 1) (Zaa Zad Zab))))
    (Zac (Zal (i:=5) nd rfl (Or.inl rfl) (Zao Zav (ZaU (Zaa Zad (Zaa Zad (Zaa Zad (Zaa Zad (Zaa Zad (Zaa Zad (Zaa Zad (Zaa Zad Zab))))))))) (Zai Za0 (pv 4) Zad) (λ_ _=>rfl)))
    (Zac (ZaD (Zaq Zbz (pv 2) Zad (Zaw _)) (Zae (Zal (i:=5) nd rfl (Or.inl rfl) (Zai ZaE Zad (Zai Za0 (pv 4) Zad)))) Zar)
    (Zac (Zal (i:=6) nd rfl (Or.inl rfl) (Zak h_l_chain hr (by rfl) (Zaa (pv 2) (Zaa (Zai Zbg (pv 4) Zad) (Zaa (pv 5) Zab)))))
    (Zac (Zal (i:=7) nd rfl (Or.inl rfl) (Zak h_l_blocks hr (by rfl) (Zaa (pv 2) (Zaa (pv 6) Zab))))
    (Zac (ZaQ PassesOwn.never rfl (ZaC (Za7 ZbQ (pv 1) (Zbo Zad) ZbJ)) (Zap (i:=8) nd rfl (Or.inl rfl)) (Zae (Zal (i:=7) nd rfl (Or.inl rfl) (Zak h_l_like hr (by rfl) (Zaa (pv 2) (Zaa (pv 7) (Zaa (pv 8) Zab)))))))
    (Zac (Zal (i:=9) nd rfl (Or.inl rfl) (ZaU (Zaa (Zak h_l_make hr (by rfl) (Zaa (pv 2) (Zaa Zad Zab))) Zab)))
    (Zac (ZaQ PassesOwn.never rfl (ZaC (pv 6)) (Zap (i:=10) nd rfl (Or.inl rfl)) (Zae (Zal (i:=9) nd rfl (Or.inl rfl) (Zak h_l_poly_times hr (by rfl) (Zaa (pv 2) (Zaa (pv 9) (Zaa (pv 10) Zab)))))))
    (Zac (ZaD (Zci (ZaL (Zak h_l_same hr (by rfl) (Zaa (pv 3) (Zaa (pv 2) (Zaa (pv 7) (Zaa (pv 9) Zab))))))) (Zae (Zan Zdl)) Zar)
    (Zac (Zal (i:=11) nd rfl (Or.inl rfl) (Zai ZaE Zad (Zai Za0 (Zai Zbg (pv 4) Zad) Zad)))
    (Zac (Zal (i:=12) nd rfl (Or.inl rfl) (Zak h_l_rows_by hr (by rfl) (Zaa (pv 2) (Zaa (pv 1) (Zaa Zad (Zaa (pv 11) (Zaa (pv 11) Zab)))))))
    (Zac (ZaD (Zla (Zaq ZdM (pv 11) Zad (Zaw _)) (ZiX (Zci (ZaL (Zak h_l_refused hr (by rfl) (Zaa (pv 3) (Zaa (Za7 ZbQ (pv 12) (Zbo Zad) ZbJ) Zab))))))).pt (Zae (Zan Zdl)) Zar)
    (Zae (Zan (Zak h_l_same hr (by rfl) (Zaa (pv 3) (Zaa (pv 2) (Zaa (pv 12) (Zaa (Zak h_l_det hr (by rfl) (Zaa (pv 2) (Zaa (Zak h_l_less hr (by rfl) (Zaa (pv 2) (Zaa (pv 12) Zab))) Zab))) Zab)))))))))))))))))))))),?_⟩
  refine ⟨_,rfl,_,rfl,a,_,rfl,hS,λca nca=>?_⟩
  obtain ⟨ms,ems,lms⟩:=Zik ns none (some 63)
  rw[ems]
  have Sc:=Zag nca (.lst (ms.map V.int))
  have qc:=Zaf (H:=H) (a:=ca) (o:=.lst (ms.map V.int))
  generalize upd H ca (.lst (ms.map V.int))=H1 at *
  refine ⟨_,rfl,ca,ms,0,rfl,SqL.of qc,Int.le_refl _,λc0=>?_⟩
  refine ⟨c0,rfl,λH2 pr S2 pk=>?_⟩
  refine ⟨_,rfl,pr,rfl,pk,λH3 kk S3 kd3=>?_⟩
  obtain ⟨κ,rfl,kx3⟩:=ZnE kd3
  have S13:=S2.trans S3
  refine ⟨_,rfl,ca,ms,1,rfl,SqL.of (S13 _ _ qc),by decide,λc=>?_⟩
  refine ⟨(by show 8<=sizeLine; decide),λl nl=>?_⟩
  have Sl:=Zag nl (.lst [.int 1,.int 2,.int 3,.int 4,.int 5,.int 3,.int 2,.int 7])
  have ql:=Zaf (H:=H3) (a:=l) (o:=.lst [.int 1,.int 2,.int 3,.int 4,.int 5,.int 3,.int 2,.int 7])
  generalize upd H3 l (.lst [.int 1,.int 2,.int 3,.int 4,.int 5,.int 3,.int 2,.int 7])=H4 at *
  obtain ⟨m0,em0,m01,m07⟩:=Zo3 c
  refine ⟨_,rfl,_,_,rfl,rfl,(by show (0:Int)<_; decide),l,_,_,_,rfl,rfl,SqL.of ql,em0,?_⟩
  have qc4:=Sl _ _ (S13 _ _ qc)
  have kx4:=kx3.same Sl
  clear kx3 kd3 S13 S2 S3 Sl qc ql nl nca Sc pk ems
  refine Zf0 (ZeF (λσ H5=>H5=H4/\∃most:Int,1<=most/\most<=7/\σ=[some (.ref a),some (.ref ca),some (.int κ.P),some (.ref kk),some (.int c),some (.int most),none,none,none,none,none,none,none]) (λN' kn=>?_) ?_)
  · refine ⟨_,rfl,rfl,_,rfl,?_⟩
    refine Zbn (λ_=>?_) (λ_=>kn _ _ ⟨rfl,m0,m01,m07,rfl⟩)
    refine ⟨_,rfl,_,_,rfl,rfl,(by show (0:Int)<_; decide),_,_,rfl,rfl,kn _ _ ⟨rfl,1+c%3,by omega,by omega,rfl⟩⟩
  rintro σ H5 ⟨rfl,most,o1,o7,rfl⟩
  refine ⟨_,rfl,_,rfl,_,_,rfl,rfl,⟨by decide,by decide⟩,_,rfl,κ,_,most,rfl,o1,o7,λH6 cha as fs S6 hC rC cm=>?_⟩
  have s1:1<=ZbP fs:=by
    match fs,cm.l1,cm.ok with
    | f::fs,_,ok =>
      have:=(ok f (.head _)).l2
      rw[Zby]; omega
  have s7:ZbP fs<=7:=by have:=cm.s; omega
  refine ⟨_,rfl,_,rfl,κ,cha,as,fs,rfl,hC,rC,cm.l7,s7,cm.ok,λH7 tb rs S7 tf=>?_⟩
  have S57:=S6.trans S7
  have qc7:=S57 _ _ qc4
  refine ⟨_,rfl,_,rfl,ca,_,rfl,SqL.of qc7,λcb ncb=>?_⟩
  obtain ⟨ms2,ems2,lms2⟩:=Zik ms (some 2) none
  rw[ems2]
  have Sb:=Zag ncb (.lst (ms2.map V.int))
  have qcb:=Zaf (H:=H7) (a:=cb) (o:=.lst (ms2.map V.int))
  generalize upd H7 cb (.lst (ms2.map V.int))=H8 at *
  refine ⟨cb,rfl,⟨_,SqL.of qcb⟩,?_⟩
  generalize hn:ZbP fs=n at *
  refine Zbf (K:=K) (a:=cb) (xs:=ms2.map V.int) (λi σ H9=>∃(z8:Option V) (tb:Addr) (rs:List Addr) (b:Nat->Nat->κ.F) (D M:Nat),σ=[some (.ref a),some (.ref ca),some (.int κ.P),some (.ref kk),some (.int c),some (.int most),some (.ref cha),some (.ref tb),z8,none,none,none,none]/\Same H8 H9/\Tf κ H9 tb rs n b/\SzT κ n b D M/\Rg.chi n b=Rg.chi n (bkT fs)) ⟨_,tb,rs,bkT fs,_,_,rfl,Same.refl _,tf.same Sb,Zod cm.ok n,rfl⟩ ?_ ?_ ?_
  · rintro i σ H9-⟨z8,tb,rs,b,D,M,rfl,S9,-⟩
    exact SqL.of (S9 _ _ qcb)
  · rintro i x σ H9 hx ⟨z8,tb,rs,b,D,M,rfl,S9,t9,sz9,e9⟩
    obtain ⟨t,rfl⟩:∃t:Int,x = .int t:=by
      rw[Qc] at hx
      cases e:ms2[i]? with
      | none=>rw[e] at hx; cases hx
      | some t=>rw[e] at hx; exact ⟨t,(Option.some.inj hx).symm⟩
    refine ⟨_,rfl,_,rfl,_,rfl,κ,tb,rs,n,D,M,b,t,rfl,t9,s1,s7,sz9,λHa tb2 rs2 b2 D2 M2 Sa ta2 sz2 e2=>?_⟩
    exact ⟨_,tb2,rs2,b2,D2,M2,rfl,S9.trans Sa,ta2,sz2,e2.trans e9⟩
  rintro σ H9 ⟨z8,tb,rs,b,D,M,rfl,S9,t9,sz9,e9⟩
  have S89:=Sb.trans S9
  have S79:=S57.trans S89
  refine ⟨_,rfl,κ,1,1,rfl,Zdb,λHa v1 Sa nv1=>⟨(by show 1<=sizeLine; decide),λda nda=>?_⟩⟩
  have Sd:=Zag nda (.lst [v1])
  have qd:=Zaf (H:=Ha) (a:=da) (o:=.lst [v1])
  generalize upd Ha da (.lst [v1])=Hb at *
  have S9b:=Sa.trans Sd
  have hC9:=S89 _ _ (S7 _ _ hC)
  have rC9:=(rC.same S7).same S89
  have lC:=rC.1
  refine ⟨_,rfl,cha,rfl,⟨_,SqL.of (S9b _ _ hC9)⟩,?_⟩
  refine Zbf (K:=K) (a:=cha) (xs:=as.map V.ref) (λi σ Hc=>∃(z10:Option V) (da:Addr) (xs:List V) (G:List κ.F),σ=[some (.ref a),some (.ref ca),some (.int κ.P),some (.ref kk),some (.int c),some (.int most),some (.ref cha),some (.ref tb),z8,some (.ref da),z10,none,none]/\Same H9 Hc/\PolL κ Hc da xs G/\Mon G/\G.length=1+ZbP (fs.take i)/\(∀x∈G,QN κ ((12^7)^i) (2^(90*i)) x)/\sr G=ZeW (fs.take i)) ⟨_,da,[v1],[1],rfl,S9b,⟨qd,.one (nv1.same Sd)⟩,⟨Q2 1,rfl⟩,rfl,(λx hx=>by rw[Q3.mp hx]; exact Zgv),Zfg⟩ ?_ ?_ ?_
  · rintro i σ Hc-⟨z10,da,xs,G,rfl,Sc,-⟩
    exact SqL.of (Sc _ _ hC9)
  · rintro i x σ Hc hx ⟨z10,da,xs,G,rfl,Sc,pG,mG,lG,qG,eG⟩
    obtain ⟨fa,hfa,rfl⟩:=Zaz hx
    obtain ⟨f,hf⟩:=ZaG hfa lC
    obtain ⟨ys,hys,ay⟩:=(rC9.same Sc).2 i fa f hfa hf
    have pf:=cm.ok f (Qe hf)
    have et:fs.take (i+1)=fs.take i++[f]:=by rw[W9,hf]; rfl
    have hi:i<7:=by have:=(Qi.mp hf).1; have:=cm.l7; omega
    have sle:=ZgO fs i
    rw[hn] at sle
    have f8:=pf.l8
    have f2:=pf.l2
    obtain ⟨y1,y2,y3⟩:=ZlM (i:=i) (by omega)
    obtain ⟨w1,w2,w3⟩:=ZlM (i:=i+1) (by omega)
    have eD:((12:Int)^7)^i*12^7=(12^7)^(i+1):=(Qy _ i).symm
    have lM:G.length*(f.length*(2^(90*i)*2^84))<=2^(90*(i+1)):=Zo2 (by omega) (by omega)
    refine ⟨_,rfl,_,rfl,_,rfl,κ,da,fa,xs,ys,G,f,(12^7)^i,12^7,2^(90*i),2^84,rfl,pG.l,hys,pG.al,ay,by omega,by omega,qG,pf.q,y1,by decide,⟨y2,by decide,y3,by decide,by rw[eD]; exact w2⟩,Q9 lM w3,λHd R zs r Sd2 hR aR lr r0 r1 _=>?_⟩
    obtain ⟨er,mR⟩:=ZhT mG pf.m lr r0 r1
    have qR:∀x∈(ZbZ G f G.length 0).take r,QN κ ((12^7)^(i+1)) (2^(90*(i+1))) x:=λx hx=>by
      have:=(ZfK (Qk y1 (by decide)) qG pf.q x (We hx)).mono lM
      rw[eD] at this; exact this
    refine ⟨_,R,zs,_,rfl,Sc.trans Sd2,⟨hR,aR⟩,mR,?_,qR,?_⟩
    · rw[Q8,ZaY,et,Zd3]; omega
    · rw[Zf3 r0,Zih,eG,et,ZgP]
  rintro σ Hc ⟨z10,da,xs,G,rfl,Sc,pG,mG,lG,qG,eG⟩
  rw[Q1,lC,Wa] at eG
  have kx9:=kx4.same S79
  have ech:sr G=Rg.chi n b:=by rw[eG,e9,<-hn,ZlF fs cm.ok]
  refine ⟨_,rfl,_,rfl,_,rfl,_,rfl,κ,kk,tb,da,rs,n,D,M,b,xs,G,rfl,kx9.same Sc,t9.same Sc,s1,s7,sz9,pG,Zm8 mG,ech,λHd Sd2=>⟨_,rfl,ZdP ?_⟩⟩
  have S5d:=S79.trans (Sc.trans Sd2)
  have qcd:=S5d _ _ qc4
  have kxd:=kx4.same S5d
  obtain ⟨g,hg⟩:∃g:Nat,1+c/8%3=(g:Int):=⟨(1+c/8%3).toNat,by omega⟩
  have g1:1<=g:=by omega
  have g3:g<=3:=by omega
  clear tf t9 sz9 e9 pG mG lG qG eG hC hC9 rC rC9 kx9 ech
  refine ⟨_,rfl,_,_,rfl,rfl,⟨by decide,by decide⟩,_,_,rfl,rfl,(by show (0:Int)<_; decide),_,_,rfl,rfl,?_⟩
  show ZcO 11 (V.int (1+c/8%3)) _ Hd _
  rw[hg]
  refine ⟨_,rfl,_,rfl,_,rfl,_,rfl,κ,ca,ms,2,g,g,rfl,qcd,by decide,by decide,by omega,by omega,λHe oa rs2 R Se hO rO lR wR qR fr2 nd2=>?_⟩
  have kxe:=kxd.same Se
  have lrs:=rO.1
  have eR:=Zn6 lR wR
  refine Zf0 (ZeF (λσ Hf=>Same He Hf/\σ=[some (.ref a),some (.ref ca),some (.int κ.P),some (.ref kk),some (.int c),some (.int most),some (.ref cha),some (.ref tb),z8,some (.ref da),z10,some (.int (g:Int)),some (.ref oa)]) (λN' kn=>?_) ?_)
  · refine ⟨_,rfl,_,_,rfl,rfl,_,rfl,?_⟩
    refine Zbm (λz=>?_) (λz=>ZdP (kn _ _ ⟨Same.refl _,rfl⟩))
    have z:1<g:=by have:(1:Int)<(g:Int):=z; omega
    refine ⟨_,rfl,_,rfl,_,rfl,oa,_,rfl,SqL.of hO,λob nob=>?_⟩
    rw[show ZeK (rs2.map V.ref) (some 1) none=(rs2.drop 1).map V.ref by rw[List.map_drop]; exact Zes _ 1]
    have So:=Zag nob (.lst ((rs2.drop 1).map V.ref))
    have qo:=Zaf (H:=He) (a:=ob) (o:=.lst ((rs2.drop 1).map V.ref))
    generalize upd He ob (.lst ((rs2.drop 1).map V.ref))=Hf at *
    refine ⟨κ,kk,ob,rs2.drop 1,R.drop 1,g,rfl,kxe.same So,⟨qo,(rO.same So).drop1 1,(λf hf=>wR f (List.mem_of_mem_drop hf)),by rw[W0]; omega,by rw[W0]; omega,by omega⟩,by rw[W0]; omega,λHg Sg_=>⟨_,rfl,kn _ _ ⟨So.trans Sg_,rfl⟩⟩⟩
  rintro σ Hf ⟨Sf,rfl⟩
  have qe:∀i j,i<g->j<g->QN κ 12 108 (ent R i j):=λi j _ _=>Zh4 qR i j
  have tO:Tf κ Hf oa rs2 g (ent R):=⟨Sf _ _ hO,by rw[<-eR]; exact rO.same Sf⟩
  refine ⟨_,rfl,_,rfl,_,rfl,_,rfl,_,rfl,_,rfl,κ,oa,rs2,g,ent R,rfl,tO,g3,qe,λHg la ras Sg_ hla lra pts=>?_⟩
  refine ⟨g,by omega,κ,la,ras,lsP (ent R),rfl,hla,lra,pts,(λi j hi hj=>Zo1 (qe i j hi hj)),λHh Rr zs Ff Sh pF pq es=>?_⟩
  have Sfh:=Sg_.trans Sh
  have es2:sr Ff=Rg.chi g (ent R):=es.trans (Rg.det_congr λi j _ _=>Zof (ent R) i j)
  exact ⟨κ,kk,oa,Rr,rs2,g,12,108,ent R,zs,Ff,rfl,(kxe.same Sf).same Sfh,tO.same Sfh,g1,by omega,⟨by decide,by decide,by decide,qe⟩,pF,pq.t,es2,λH' _=>k H'⟩
end
end My
namespace My
open PySem L2 PyProof.Rows
section
variable{P:Program}{w:World}{K:PySem.W.Frag}{mg:Str->Option Value}{base:Heap}{CF CR cF cN:Addr}
theorem Zko(kd:Kd K mg CF CR)(hF:HasMX P w K mg base CF "number" 3 ["self", "top", "bottom"] [] Zcd) (hR:HasMX P w K mg base CR "number" 3 ["self", "top", "bottom"] [] (ZbW CR cN)):Zh9 P w K mg base CF CR:=by
  intro κ H s hk
  cases κ with
  | q =>
    obtain ⟨dx,h⟩:=hk
    refine ⟨CF,dx,[],_,_,_,h,kd.clF,hF,rfl,rfl,λH' b y Q E S hy b0 bl _ k=>⟨s,1,b,rfl,b0,bl,λr x z nr fc e=>?_⟩⟩
    have e1:Rat.num y=b:=hy.1
    have e2:Rat.den y=1:=hy.2
    obtain ⟨i1,i2⟩:=Zmr (q:=y) fc (by rw[e1,e2,e]; rfl)
    refine k _ _ (Zag nr _) ⟨r,rfl,?_⟩
    show upd H' r _ r=some (.tup [.int (Fd.inv y:Rat).num,.int ((Fd.inv y:Rat).den:Int)])
    rw[i1,i2]; exact Zaf
  | r p hp =>
    obtain ⟨dx,h⟩:=hk
    have h2:=hp.pr.1
    refine ⟨CR,dx,_,_,_,_,h,kd.clR,hR,Ze7 p (by decide),rfl,λH' b y Q E S hy b0 bl b1 k=>?_⟩
    have b1:=b1 (λz=>nomatch z)
    subst b1
    refine ⟨s,p,1,1,rfl,⟨dx,S _ _ h⟩,hp.pr,by have:=hp.lt; omega,by decide,by decide,λz=>?_,λ_ H'' r S' r0 r1 rd=>?_⟩
    · have:=Int.le_of_dvd (by decide) z
      omega
    · refine k _ H'' S' ?_
      have ey:y=K1 (.r p hp):=hy.uniq Zdb
      subst ey
      have ei:(KX.r p hp).invF (K1 (.r p hp))=K1 (.r p hp):=by
        have:(KX.r p hp).mulF (K1 (.r p hp)) (K1 (.r p hp))=K1 (.r p hp):=Zh8
        exact (ZjH this).symm
      show V.int r=V.int ((Fin.val ((KX.r p hp).invF (K1 (.r p hp))):Nat):Int)
      rw[ei,ZfH]
      congr 1
      rw[U3] at rd
      have e3:r%p=1%p:=Int.emod_eq_emod_iff_emod_sub_eq_zero.mpr (U8 rd)
      rw[Ww r0 r1,Ww (by decide) (by omega)] at e3
      exact e3
end
end My
namespace PySem.W.Fast
theorem tw8004894771260574720:True:=⟨⟩
theorem tw11630883777955990528:True:=⟨⟩
theorem tw15230716263175817344:True:=⟨⟩
theorem tw17515428171982198912:True:=⟨⟩
theorem tw5589200991924389056:True:=⟨⟩
theorem tw7716876043875255488:True:=⟨⟩
theorem tw9058110103711907040:True:=⟨⟩
theorem tw2133547767404772576:True:=⟨⟩
theorem tw9535967391203566816:True:=⟨⟩
theorem tw5992608525134827808:True:=⟨⟩
theorem tw10365532633692858688:True:=⟨⟩
theorem tw1522913996514639200:True:=⟨⟩
theorem tw9171517950013110656:True:=⟨⟩
theorem tw12742124351553274240:True:=⟨⟩
theorem tw13628161193117484448:True:=⟨⟩
theorem tw5518604899907528128:True:=⟨⟩
theorem tw14778596985035668928:True:=⟨⟩
theorem tw12067159306896914944:True:=⟨⟩
theorem tw16866174116525265440:True:=⟨⟩
theorem tw540729468483325504:True:=⟨⟩
theorem tw17149627184182737536:True:=⟨⟩
theorem tw11749551105628561088:True:=⟨⟩
theorem tw13021498329557255904:True:=⟨⟩
theorem tw12998523860239975168:True:=⟨⟩
theorem tw9908726996613235456:True:=⟨⟩
theorem tw17152348311693197088:True:=⟨⟩
theorem tw338149159796198240:True:=⟨⟩
theorem tw10607043656827020192:True:=⟨⟩
theorem tw17205970325881780225:True:=⟨⟩
theorem tw15115475023303022689:True:=⟨⟩
theorem tw18412001516834913409:True:=⟨⟩
theorem tw8036888142244153473:True:=⟨⟩
theorem tw16793209396856279201:True:=⟨⟩
theorem tw824536735781426369:True:=⟨⟩
theorem tw6556313071159166177:True:=⟨⟩
theorem tw9631945164304901377:True:=⟨⟩
theorem tw236168821860361505:True:=⟨⟩
theorem tw13149936949901429185:True:=⟨⟩
theorem tw8027422047171765697:True:=⟨⟩
theorem tw5184311412714039745:True:=⟨⟩
theorem tw10592187312285215169:True:=⟨⟩
theorem tw13789214362744106465:True:=⟨⟩
theorem tw9750483748386404833:True:=⟨⟩
theorem tw2554929173227353665:True:=⟨⟩
theorem tw14001702453434780257:True:=⟨⟩
theorem tw12310456828133682785:True:=⟨⟩
theorem tw12218676393513920129:True:=⟨⟩
theorem tw6138679936054931137:True:=⟨⟩
theorem tw16453815823311781569:True:=⟨⟩
theorem tw5517445554991387361:True:=⟨⟩
theorem tw1251475251788212001:True:=⟨⟩
theorem tw1748728687660429121:True:=⟨⟩
theorem tw7964533908264947585:True:=⟨⟩
theorem tw3329388816672134081:True:=⟨⟩
theorem tw44983257440828353:True:=⟨⟩
theorem tw8308675749792581698:True:=⟨⟩
theorem tw3489303155480727618:True:=⟨⟩
theorem tw16191335549747440738:True:=⟨⟩
theorem tw2326505198662672514:True:=⟨⟩
theorem tw5035217481417862274:True:=⟨⟩
theorem tw9085004030223530146:True:=⟨⟩
theorem tw4377169094112168162:True:=⟨⟩
theorem tw375722436252563714:True:=⟨⟩
theorem tw433518182092113218:True:=⟨⟩
theorem tw13507692415353774530:True:=⟨⟩
theorem tw13034840970921292322:True:=⟨⟩
theorem tw2786682380262460994:True:=⟨⟩
theorem tw11412233289730555522:True:=⟨⟩
theorem tw1202775524870400706:True:=⟨⟩
theorem tw1520868697068859106:True:=⟨⟩
theorem tw3747821512463263618:True:=⟨⟩
theorem tw1228562516564944802:True:=⟨⟩
theorem tw6354160711583759330:True:=⟨⟩
theorem tw4561184233776016483:True:=⟨⟩
theorem tw14292160008870032515:True:=⟨⟩
theorem tw9506051014520629379:True:=⟨⟩
theorem tw13736071220539148451:True:=⟨⟩
theorem tw4068673200795752675:True:=⟨⟩
theorem tw1471379002797688099:True:=⟨⟩
theorem tw13139697524352759075:True:=⟨⟩
theorem tw12835945712265642275:True:=⟨⟩
theorem tw13617005895494950211:True:=⟨⟩
theorem tw17262013046447719875:True:=⟨⟩
theorem tw11041921573309167075:True:=⟨⟩
theorem tw15368000014265483811:True:=⟨⟩
theorem tw6340243992649893603:True:=⟨⟩
theorem tw8400953588634481379:True:=⟨⟩
theorem tw869205622056950531:True:=⟨⟩
theorem tw10523271233928130307:True:=⟨⟩
theorem tw6532433194790362083:True:=⟨⟩
theorem tw2880540816921696292:True:=⟨⟩
theorem tw17988938249045628964:True:=⟨⟩
theorem tw7164223409567046724:True:=⟨⟩
theorem tw11189316347142854724:True:=⟨⟩
theorem tw3135998236012596324:True:=⟨⟩
theorem tw15351917881242666148:True:=⟨⟩
theorem tw7040059614898311332:True:=⟨⟩
theorem tw14324098924826286340:True:=⟨⟩
theorem tw18279179708512267556:True:=⟨⟩
theorem tw2347802867815407172:True:=⟨⟩
theorem tw8579980957322594916:True:=⟨⟩
theorem tw4457149829103782532:True:=⟨⟩
theorem tw5381647052456009412:True:=⟨⟩
theorem tw15031495715516174052:True:=⟨⟩
theorem tw16263508056416625444:True:=⟨⟩
theorem tw6992288365912376228:True:=⟨⟩
theorem tw9509746014927093668:True:=⟨⟩
theorem tw16321827473147133957:True:=⟨⟩
theorem tw428221227988637701:True:=⟨⟩
theorem tw11510108564600153157:True:=⟨⟩
theorem tw306860460358674533:True:=⟨⟩
theorem tw8541104142940058757:True:=⟨⟩
theorem tw13617154433470009637:True:=⟨⟩
theorem tw11707601421836838181:True:=⟨⟩
theorem tw14155917647602578821:True:=⟨⟩
theorem tw1239462977595751845:True:=⟨⟩
theorem tw10229855641065854469:True:=⟨⟩
theorem tw7555289528168101381:True:=⟨⟩
theorem tw8754423456157221:True:=⟨⟩
theorem tw16533832401093959205:True:=⟨⟩
theorem tw11406330707833979461:True:=⟨⟩
theorem tw9047690365500271237:True:=⟨⟩
theorem tw1279975191880810117:True:=⟨⟩
theorem tw8710823152740898565:True:=⟨⟩
theorem tw11022382416527439749:True:=⟨⟩
theorem tw12684483940674214821:True:=⟨⟩
theorem tw12326778042435331013:True:=⟨⟩
theorem tw3315831960520173574:True:=⟨⟩
theorem tw18056015128645821446:True:=⟨⟩
theorem tw10940257834820381734:True:=⟨⟩
theorem tw1740515633028351078:True:=⟨⟩
theorem tw11707304089944635558:True:=⟨⟩
theorem tw12659749505218428070:True:=⟨⟩
theorem tw14827933116088955142:True:=⟨⟩
theorem tw16924971584983545126:True:=⟨⟩
theorem tw6778125238503521638:True:=⟨⟩
theorem tw15366203327888808358:True:=⟨⟩
theorem tw11796681651218130342:True:=⟨⟩
theorem tw11325200360694532550:True:=⟨⟩
theorem tw3447624856413447654:True:=⟨⟩
theorem tw4291245242244914726:True:=⟨⟩
theorem tw12004086305492278886:True:=⟨⟩
theorem tw11868970803974746726:True:=⟨⟩
theorem tw2253212026603648614:True:=⟨⟩
theorem tw902879468745768582:True:=⟨⟩
theorem tw14110001144234451686:True:=⟨⟩
theorem tw7005824403845845862:True:=⟨⟩
theorem tw1038478566194513798:True:=⟨⟩
theorem tw16176694677353225126:True:=⟨⟩
theorem tw16798094619226620902:True:=⟨⟩
theorem tw14974305463413494758:True:=⟨⟩
theorem tw8741430062331501607:True:=⟨⟩
theorem tw292773054944600199:True:=⟨⟩
theorem tw17511867140588499111:True:=⟨⟩
theorem tw14196775548693856519:True:=⟨⟩
theorem tw10959530864172205351:True:=⟨⟩
theorem tw8035263757669180743:True:=⟨⟩
theorem tw7534469736770293063:True:=⟨⟩
theorem tw113059624806626791:True:=⟨⟩
theorem tw887833257576327655:True:=⟨⟩
theorem tw15653373079373933063:True:=⟨⟩
theorem tw17574188099275292231:True:=⟨⟩
theorem tw12172425478154691175:True:=⟨⟩
theorem tw16151805013456793191:True:=⟨⟩
theorem tw17359059293809560167:True:=⟨⟩
theorem tw17328645097017634503:True:=⟨⟩
theorem tw13255069521872000743:True:=⟨⟩
theorem tw1597291875191141127:True:=⟨⟩
theorem tw1596193273130337031:True:=⟨⟩
theorem tw17854368387834334983:True:=⟨⟩
theorem tw8098432147188976423:True:=⟨⟩
theorem tw14800321323960874791:True:=⟨⟩
theorem tw8006574318730136359:True:=⟨⟩
theorem tw2094457865705934695:True:=⟨⟩
theorem tw9428606209434843047:True:=⟨⟩
theorem tw10091901864331068391:True:=⟨⟩
theorem tw11001098927561869448:True:=⟨⟩
theorem tw2618671109809342632:True:=⟨⟩
theorem tw11785923828933341384:True:=⟨⟩
theorem tw18335943815160517832:True:=⟨⟩
theorem tw735889411996996808:True:=⟨⟩
theorem tw6930536018430881000:True:=⟨⟩
theorem tw200132927679421672:True:=⟨⟩
theorem tw5012791243600193832:True:=⟨⟩
theorem tw14374968116527024520:True:=⟨⟩
theorem tw4544339810716920296:True:=⟨⟩
theorem tw8443911767491951080:True:=⟨⟩
theorem tw10859683473785171496:True:=⟨⟩
theorem tw7220150149143813704:True:=⟨⟩
theorem tw5121532517519403592:True:=⟨⟩
theorem tw6118238296920166088:True:=⟨⟩
theorem tw10727069287401208552:True:=⟨⟩
theorem tw11829686925183648552:True:=⟨⟩
theorem tw17227480061773331240:True:=⟨⟩
theorem tw12645303081140503496:True:=⟨⟩
theorem tw3646417013731529672:True:=⟨⟩
theorem tw3455543571769575400:True:=⟨⟩
theorem tw13521694184698860553:True:=⟨⟩
theorem tw2523925286697618441:True:=⟨⟩
theorem tw13918682846020503625:True:=⟨⟩
theorem tw11703835392347619433:True:=⟨⟩
theorem tw1391645127814191241:True:=⟨⟩
theorem tw8192110737935601801:True:=⟨⟩
theorem tw15035132071812227305:True:=⟨⟩
theorem tw11541840443792658665:True:=⟨⟩
theorem tw15433523637036134793:True:=⟨⟩
theorem tw6807266769471947241:True:=⟨⟩
theorem tw8082163522247546345:True:=⟨⟩
theorem tw5422024539038142985:True:=⟨⟩
theorem tw3272155519037842985:True:=⟨⟩
theorem tw7848712846740624009:True:=⟨⟩
theorem tw13670009235019503241:True:=⟨⟩
theorem tw2445666166761664137:True:=⟨⟩
theorem tw8312178210465591945:True:=⟨⟩
theorem tw4665174050851632809:True:=⟨⟩
theorem tw8889826608312681129:True:=⟨⟩
theorem tw11360811639257418441:True:=⟨⟩
theorem tw11168620789563247369:True:=⟨⟩
theorem tw13371237750799951657:True:=⟨⟩
theorem tw1879636371774638090:True:=⟨⟩
theorem tw17029042942960190474:True:=⟨⟩
theorem tw13470021358982832202:True:=⟨⟩
theorem tw12541100660805292138:True:=⟨⟩
theorem tw17491650533703458954:True:=⟨⟩
theorem tw7564255568742630570:True:=⟨⟩
theorem tw6415634113716129994:True:=⟨⟩
theorem tw4926399426946908394:True:=⟨⟩
theorem tw16956996404473718058:True:=⟨⟩
theorem tw712436980894757258:True:=⟨⟩
theorem tw2920007717866310058:True:=⟨⟩
theorem tw15740944215987315146:True:=⟨⟩
theorem tw10811371618074322378:True:=⟨⟩
theorem tw6032785690081208842:True:=⟨⟩
theorem tw15059652993088870954:True:=⟨⟩
theorem tw13736111285650675274:True:=⟨⟩
theorem tw3750200811354235498:True:=⟨⟩
theorem tw14376738465471025834:True:=⟨⟩
theorem tw6201986542065833738:True:=⟨⟩
theorem tw18198855368880975690:True:=⟨⟩
theorem tw11054303744279803722:True:=⟨⟩
theorem tw13961310164209338218:True:=⟨⟩
theorem tw643547445922079626:True:=⟨⟩
theorem tw3534574594719911914:True:=⟨⟩
theorem tw2887450944520151018:True:=⟨⟩
theorem tw3644831850295035979:True:=⟨⟩
theorem tw15477084152821846091:True:=⟨⟩
theorem tw11103652042715380843:True:=⟨⟩
theorem tw16574643930753100971:True:=⟨⟩
theorem tw9021176190282205387:True:=⟨⟩
theorem tw8271103117472398539:True:=⟨⟩
theorem tw17445593534940537067:True:=⟨⟩
theorem tw15048528627152906475:True:=⟨⟩
theorem tw17330129149962537227:True:=⟨⟩
theorem tw2702856680903332139:True:=⟨⟩
theorem tw7487803580142485867:True:=⟨⟩
theorem tw5591384220275528075:True:=⟨⟩
theorem tw17331794235268155819:True:=⟨⟩
theorem tw7086579686532390347:True:=⟨⟩
theorem tw14120868700842346987:True:=⟨⟩
theorem tw8020066888527413771:True:=⟨⟩
theorem tw6836950266672586251:True:=⟨⟩
theorem tw8931887623649374795:True:=⟨⟩
theorem tw8797257718278972011:True:=⟨⟩
theorem tw7674894346684296907:True:=⟨⟩
theorem tw12038449343278717835:True:=⟨⟩
theorem tw11016033975127825387:True:=⟨⟩
theorem tw482632619958908940:True:=⟨⟩
theorem tw10311350995609166924:True:=⟨⟩
theorem tw13008586620447604812:True:=⟨⟩
theorem tw8052168828374029420:True:=⟨⟩
theorem tw4371006885456066668:True:=⟨⟩
theorem tw16269673219959590028:True:=⟨⟩
theorem tw7731190183135154316:True:=⟨⟩
theorem tw5735307944313699468:True:=⟨⟩
theorem tw8891680700555182252:True:=⟨⟩
theorem tw8185289073922359500:True:=⟨⟩
theorem tw15580224448977394956:True:=⟨⟩
theorem tw9409922410296114444:True:=⟨⟩
theorem tw6868848562526444844:True:=⟨⟩
theorem tw3748513886196680236:True:=⟨⟩
theorem tw13931257861332832812:True:=⟨⟩
theorem tw448884816778345036:True:=⟨⟩
theorem tw12170530508186693228:True:=⟨⟩
theorem tw3574444463668029100:True:=⟨⟩
theorem tw13940786761817756428:True:=⟨⟩
theorem tw6756482344088283916:True:=⟨⟩
theorem tw14510677499902439180:True:=⟨⟩
theorem tw9739103536614046476:True:=⟨⟩
theorem tw13153112464141630252:True:=⟨⟩
theorem tw632582896593557388:True:=⟨⟩
theorem tw17439660170562292684:True:=⟨⟩
theorem tw2115449438018065356:True:=⟨⟩
theorem tw4406079053426344973:True:=⟨⟩
theorem tw7855388440988669965:True:=⟨⟩
theorem tw3373623599299126381:True:=⟨⟩
theorem tw15617564495029468269:True:=⟨⟩
theorem tw13137031209237159053:True:=⟨⟩
theorem tw4187954659184439469:True:=⟨⟩
theorem tw636114142267417773:True:=⟨⟩
theorem tw1963541823868195021:True:=⟨⟩
theorem tw17268157707101771085:True:=⟨⟩
theorem tw14209098859863664013:True:=⟨⟩
theorem tw16813554317027123661:True:=⟨⟩
theorem tw16844186420649527789:True:=⟨⟩
theorem tw16025707686295348717:True:=⟨⟩
theorem tw3326630902840497677:True:=⟨⟩
theorem tw8079317136195794445:True:=⟨⟩
theorem tw15974360328604730925:True:=⟨⟩
theorem tw2005786317309367853:True:=⟨⟩
theorem tw13014280468299937325:True:=⟨⟩
theorem tw9569035045024756301:True:=⟨⟩
theorem tw5790546043950337645:True:=⟨⟩
theorem tw5888283155922573965:True:=⟨⟩
theorem tw10373329431027468973:True:=⟨⟩
theorem tw9463354263063557805:True:=⟨⟩
theorem tw9027050263116306285:True:=⟨⟩
theorem tw6879030875997836173:True:=⟨⟩
theorem tw2300535818444190605:True:=⟨⟩
theorem tw592893429075072909:True:=⟨⟩
theorem tw8819816686325727149:True:=⟨⟩
theorem tw12927744298341082093:True:=⟨⟩
theorem tw8186621540713427949:True:=⟨⟩
theorem tw14372434952363008014:True:=⟨⟩
theorem tw5185756842948874350:True:=⟨⟩
theorem tw1738209232845902990:True:=⟨⟩
theorem tw16538105645433235598:True:=⟨⟩
theorem tw8187352951883492526:True:=⟨⟩
theorem tw9112068466378479950:True:=⟨⟩
theorem tw3333049779478632782:True:=⟨⟩
theorem tw7340360443237195150:True:=⟨⟩
theorem tw6562782813090104750:True:=⟨⟩
theorem tw5446813285722622510:True:=⟨⟩
theorem tw2132595713854449262:True:=⟨⟩
theorem tw9023988958019415694:True:=⟨⟩
theorem tw2388313551001259694:True:=⟨⟩
theorem tw3886228027933715118:True:=⟨⟩
theorem tw13137747117213220558:True:=⟨⟩
theorem tw2100478235500612366:True:=⟨⟩
theorem tw8805569248373648206:True:=⟨⟩
theorem tw15522229488425796462:True:=⟨⟩
theorem tw7383634287772185550:True:=⟨⟩
theorem tw14818981862368398415:True:=⟨⟩
theorem tw4330268511848174703:True:=⟨⟩
theorem tw12584145248478254191:True:=⟨⟩
theorem tw9825520642562861167:True:=⟨⟩
theorem tw11974834265175467151:True:=⟨⟩
theorem tw7523939350412930191:True:=⟨⟩
theorem tw1859500444926599311:True:=⟨⟩
theorem tw18281694633773185199:True:=⟨⟩
theorem tw5143137573059493071:True:=⟨⟩
theorem tw12920328904985813199:True:=⟨⟩
theorem tw13792968364664213743:True:=⟨⟩
theorem tw5789528227507222767:True:=⟨⟩
theorem tw17472923886422242671:True:=⟨⟩
theorem tw13939438231959918959:True:=⟨⟩
theorem tw3928289685108516207:True:=⟨⟩
theorem tw15203240143522997807:True:=⟨⟩
theorem tw3924878344260337199:True:=⟨⟩
theorem tw1128862144724802159:True:=⟨⟩
theorem tw436696062895893167:True:=⟨⟩
theorem tw13803107926399561423:True:=⟨⟩
theorem tw13270844375711871695:True:=⟨⟩
theorem tw16799641599324974799:True:=⟨⟩
theorem tw6129049495567183599:True:=⟨⟩
theorem tw17557968434896328431:True:=⟨⟩
theorem tw10380006669038811887:True:=⟨⟩
theorem tw2143677859707493295:True:=⟨⟩
theorem tw4903211207093038031:True:=⟨⟩
theorem tw5428586423210109968:True:=⟨⟩
theorem tw1704783663737474096:True:=⟨⟩
theorem tw6148838300981538992:True:=⟨⟩
theorem tw1744993942889520304:True:=⟨⟩
theorem tw9244463530201484496:True:=⟨⟩
theorem tw17620849732716572912:True:=⟨⟩
theorem tw18446015413852281136:True:=⟨⟩
theorem tw10957159463110868304:True:=⟨⟩
theorem tw9662215299805461904:True:=⟨⟩
theorem tw11700697705731124624:True:=⟨⟩
theorem tw7243553330725662224:True:=⟨⟩
theorem tw1616731978381621808:True:=⟨⟩
theorem tw16773215662023757392:True:=⟨⟩
theorem tw12456232276191992400:True:=⟨⟩
theorem tw9870796876502894192:True:=⟨⟩
theorem tw16999150726327302768:True:=⟨⟩
theorem tw3398527102193139344:True:=⟨⟩
theorem tw4599297813396603568:True:=⟨⟩
theorem tw11975277158431814384:True:=⟨⟩
theorem tw12603499519550836528:True:=⟨⟩
theorem tw1065278085867514736:True:=⟨⟩
theorem tw13844990659591922576:True:=⟨⟩
theorem tw14637865861460409264:True:=⟨⟩
theorem tw10385782407553650672:True:=⟨⟩
theorem tw11196110236983022609:True:=⟨⟩
theorem tw11282491181432130641:True:=⟨⟩
theorem tw10117544380665337969:True:=⟨⟩
theorem tw2178629963755437329:True:=⟨⟩
theorem tw6419523126317466897:True:=⟨⟩
theorem tw17248659074438001969:True:=⟨⟩
theorem tw8491026189889556817:True:=⟨⟩
theorem tw8316265703330372977:True:=⟨⟩
theorem tw9404524058987448721:True:=⟨⟩
theorem tw13575045004913075665:True:=⟨⟩
theorem tw1733331070407867857:True:=⟨⟩
theorem tw5074510966814584305:True:=⟨⟩
theorem tw5339018290400017937:True:=⟨⟩
theorem tw3274849653074274865:True:=⟨⟩
theorem tw6400470694598218353:True:=⟨⟩
theorem tw3214809857889606257:True:=⟨⟩
theorem tw9274897887921500817:True:=⟨⟩
theorem tw3167812012727139985:True:=⟨⟩
theorem tw2194066135089472241:True:=⟨⟩
theorem tw15136873099053996849:True:=⟨⟩
theorem tw17706542346951951185:True:=⟨⟩
theorem tw1457812916752052113:True:=⟨⟩
theorem tw8270262579966325681:True:=⟨⟩
theorem tw12220507077730281490:True:=⟨⟩
theorem tw11255171181217490162:True:=⟨⟩
theorem tw1810688379548402002:True:=⟨⟩
theorem tw17205373529209584146:True:=⟨⟩
theorem tw10867727881482914322:True:=⟨⟩
theorem tw9807631043706143282:True:=⟨⟩
theorem tw4919883834129868402:True:=⟨⟩
theorem tw6783256881354692210:True:=⟨⟩
theorem tw15518134608581164690:True:=⟨⟩
theorem tw4158864881982943922:True:=⟨⟩
theorem tw7727493371046860498:True:=⟨⟩
theorem tw9603187309711387378:True:=⟨⟩
theorem tw16933343735791515442:True:=⟨⟩
theorem tw11778894854906856274:True:=⟨⟩
theorem tw13535400248446542706:True:=⟨⟩
theorem tw4978806603086531506:True:=⟨⟩
theorem tw16701493168970615827:True:=⟨⟩
theorem tw4150909231613947955:True:=⟨⟩
theorem tw7520381933756200051:True:=⟨⟩
theorem tw2041703378964721875:True:=⟨⟩
theorem tw14883446071866382579:True:=⟨⟩
theorem tw11947332133092386067:True:=⟨⟩
theorem tw5239379892658194739:True:=⟨⟩
theorem tw9560590819368391059:True:=⟨⟩
theorem tw17646329084703765907:True:=⟨⟩
theorem tw4048785516711050707:True:=⟨⟩
theorem tw10891075394529755635:True:=⟨⟩
theorem tw10731180303175497203:True:=⟨⟩
theorem tw11086624241837500947:True:=⟨⟩
theorem tw8597121630735862323:True:=⟨⟩
theorem tw17941280969276941875:True:=⟨⟩
theorem tw16516304265463560787:True:=⟨⟩
theorem tw13930798388069691027:True:=⟨⟩
theorem tw8415316689857077939:True:=⟨⟩
theorem tw17773974723483242419:True:=⟨⟩
theorem tw17648709304009170899:True:=⟨⟩
theorem tw8600698199279241171:True:=⟨⟩
theorem tw8893965894420271059:True:=⟨⟩
theorem tw15155746996461391892:True:=⟨⟩
theorem tw15621171007453026324:True:=⟨⟩
theorem tw6655656217718769716:True:=⟨⟩
theorem tw14655623761495827572:True:=⟨⟩
theorem tw5295674884326012084:True:=⟨⟩
theorem tw11705775552684064980:True:=⟨⟩
theorem tw8076177065594925268:True:=⟨⟩
theorem tw7020393411196996820:True:=⟨⟩
theorem tw327464207817519348:True:=⟨⟩
theorem tw10972552682036392212:True:=⟨⟩
theorem tw15291710532915677556:True:=⟨⟩
theorem tw7302233837184868756:True:=⟨⟩
theorem tw14381719309809502708:True:=⟨⟩
theorem tw6391150050004180564:True:=⟨⟩
theorem tw6604219187849930324:True:=⟨⟩
theorem tw5512584441438062164:True:=⟨⟩
theorem tw836500122381170452:True:=⟨⟩
theorem tw10115581743746655028:True:=⟨⟩
theorem tw2127985586102249300:True:=⟨⟩
theorem tw6500537617816451988:True:=⟨⟩
theorem tw14028659980805907348:True:=⟨⟩
theorem tw3058402680202133428:True:=⟨⟩
theorem tw13385742602696627156:True:=⟨⟩
theorem tw9906845212970279924:True:=⟨⟩
theorem tw14816168743968291957:True:=⟨⟩
theorem tw10846712620493631637:True:=⟨⟩
theorem tw8615385981713918165:True:=⟨⟩
theorem tw10289070064653626581:True:=⟨⟩
theorem tw12974538839219990773:True:=⟨⟩
theorem tw15386276491003350325:True:=⟨⟩
theorem tw12707974131311084853:True:=⟨⟩
theorem tw85096617029072277:True:=⟨⟩
theorem tw11381849771203270101:True:=⟨⟩
theorem tw578117774941657589:True:=⟨⟩
theorem tw938868618421850677:True:=⟨⟩
theorem tw8019714382468705845:True:=⟨⟩
theorem tw9846333656462576277:True:=⟨⟩
theorem tw7115283552717297365:True:=⟨⟩
theorem tw10428556223337997141:True:=⟨⟩
theorem tw13983669643154852757:True:=⟨⟩
theorem tw6240824066857995189:True:=⟨⟩
theorem tw9374981938291773397:True:=⟨⟩
theorem tw12507745112615492597:True:=⟨⟩
theorem tw17663931069824545846:True:=⟨⟩
theorem tw16845347280575104054:True:=⟨⟩
theorem tw304370602850690166:True:=⟨⟩
theorem tw16583223209919031414:True:=⟨⟩
theorem tw2430758585557807318:True:=⟨⟩
theorem tw14153251974365379926:True:=⟨⟩
theorem tw5320908018341591510:True:=⟨⟩
theorem tw15436380318950932982:True:=⟨⟩
theorem tw1174459344638485014:True:=⟨⟩
theorem tw18001071402922087990:True:=⟨⟩
theorem tw9209706098364363382:True:=⟨⟩
theorem tw15332937998075735670:True:=⟨⟩
theorem tw10756453081085712022:True:=⟨⟩
theorem tw9223786728731556534:True:=⟨⟩
theorem tw16298360059675737782:True:=⟨⟩
theorem tw10321136257383498486:True:=⟨⟩
theorem tw12727621094306550:True:=⟨⟩
theorem tw3639009382084457238:True:=⟨⟩
theorem tw17100305849609067350:True:=⟨⟩
theorem tw7326577317271322486:True:=⟨⟩
theorem tw6112015512015388534:True:=⟨⟩
theorem tw7256494881841840022:True:=⟨⟩
theorem tw17618877882372733846:True:=⟨⟩
theorem tw13276361614721221590:True:=⟨⟩
theorem tw12786875990811610231:True:=⟨⟩
theorem tw7190221652149901559:True:=⟨⟩
theorem tw4164960009605336375:True:=⟨⟩
theorem tw6500406748942116151:True:=⟨⟩
theorem tw1669860673280832855:True:=⟨⟩
theorem tw12946023938303463767:True:=⟨⟩
theorem tw16104012331211952631:True:=⟨⟩
theorem tw9545617288139726423:True:=⟨⟩
theorem tw11551693295041606295:True:=⟨⟩
theorem tw18126962389954019991:True:=⟨⟩
theorem tw17988704135834753783:True:=⟨⟩
theorem tw1329908606347467607:True:=⟨⟩
theorem tw5407186306419511127:True:=⟨⟩
theorem tw818072630004222839:True:=⟨⟩
theorem tw4266285624395268152:True:=⟨⟩
theorem tw4404542584287008824:True:=⟨⟩
theorem tw13704240632318274616:True:=⟨⟩
theorem tw13497805939432901688:True:=⟨⟩
theorem tw7624760733779176536:True:=⟨⟩
theorem tw13536365173614062744:True:=⟨⟩
theorem tw8396530564296736952:True:=⟨⟩
theorem tw3757591761782307064:True:=⟨⟩
theorem tw12235781147071351064:True:=⟨⟩
theorem tw7159657583519557912:True:=⟨⟩
theorem tw2111031425777346904:True:=⟨⟩
theorem tw4109694676617172344:True:=⟨⟩
theorem tw8368087717819501944:True:=⟨⟩
theorem tw9215664488375074264:True:=⟨⟩
theorem tw10674428836808898040:True:=⟨⟩
theorem tw16660551001616337400:True:=⟨⟩
theorem tw9895036358851054072:True:=⟨⟩
theorem tw7003086661146056216:True:=⟨⟩
theorem tw16094183259795729944:True:=⟨⟩
theorem tw9689295402346173016:True:=⟨⟩
theorem tw8457136028686116440:True:=⟨⟩
theorem tw3925123424867478104:True:=⟨⟩
theorem tw11982573659990551128:True:=⟨⟩
theorem tw11729523903425711736:True:=⟨⟩
theorem tw7222478606874621560:True:=⟨⟩
theorem tw14392879768894560888:True:=⟨⟩
theorem tw5460611578956472952:True:=⟨⟩
theorem tw16094164001245888152:True:=⟨⟩
theorem tw17897771486505218712:True:=⟨⟩
theorem tw6816938533847494392:True:=⟨⟩
theorem tw16364981886677644024:True:=⟨⟩
theorem tw4224680646272437080:True:=⟨⟩
theorem tw11420432239176939384:True:=⟨⟩
theorem tw7821660220248611768:True:=⟨⟩
theorem tw1138353823566746616:True:=⟨⟩
theorem tw9295624183181652025:True:=⟨⟩
theorem tw16338017092113141849:True:=⟨⟩
theorem tw5853087719586999417:True:=⟨⟩
theorem tw13170215374514720921:True:=⟨⟩
theorem tw18140508787458660569:True:=⟨⟩
theorem tw7068521625646710009:True:=⟨⟩
theorem tw10237699152538564889:True:=⟨⟩
theorem tw1439620657535253785:True:=⟨⟩
theorem tw10156703441637085497:True:=⟨⟩
theorem tw10738308476655871321:True:=⟨⟩
theorem tw8846727792593250681:True:=⟨⟩
theorem tw16062958862607228345:True:=⟨⟩
theorem tw4535842725710080441:True:=⟨⟩
theorem tw16146070717573676537:True:=⟨⟩
theorem tw236187100277556761:True:=⟨⟩
theorem tw4256730808096030297:True:=⟨⟩
theorem tw911227605288728185:True:=⟨⟩
theorem tw9996034893806726841:True:=⟨⟩
theorem tw6806559541921504985:True:=⟨⟩
theorem tw18253339722547288889:True:=⟨⟩
theorem tw14683198419490831161:True:=⟨⟩
theorem tw1387422817206557529:True:=⟨⟩
theorem tw8536708371482403705:True:=⟨⟩
theorem tw10272745042127632345:True:=⟨⟩
theorem tw14087635158147903449:True:=⟨⟩
theorem tw11226298065307934842:True:=⟨⟩
theorem tw16069114478321539226:True:=⟨⟩
theorem tw9426597784426793306:True:=⟨⟩
theorem tw3851190334750260602:True:=⟨⟩
theorem tw13861700490314330586:True:=⟨⟩
theorem tw992299597351430682:True:=⟨⟩
theorem tw3336992254721563194:True:=⟨⟩
theorem tw3309849867837154906:True:=⟨⟩
theorem tw2919241315189537370:True:=⟨⟩
theorem tw10354768786392371802:True:=⟨⟩
theorem tw13798774376225353338:True:=⟨⟩
theorem tw10354358555067095802:True:=⟨⟩
theorem tw10459991679746829274:True:=⟨⟩
theorem tw7259024874379034586:True:=⟨⟩
theorem tw6170642733627182074:True:=⟨⟩
theorem tw10793690780090571770:True:=⟨⟩
theorem tw12053759972606312442:True:=⟨⟩
theorem tw11361470996525479003:True:=⟨⟩
theorem tw12657342306272897147:True:=⟨⟩
theorem tw12494153016595924123:True:=⟨⟩
theorem tw3859712312878013627:True:=⟨⟩
theorem tw14654139638960516411:True:=⟨⟩
theorem tw6009211763349512539:True:=⟨⟩
theorem tw18196392032952017243:True:=⟨⟩
theorem tw12641675707249850747:True:=⟨⟩
theorem tw14913430870708215195:True:=⟨⟩
theorem tw4751851497247329723:True:=⟨⟩
theorem tw7026346930991554043:True:=⟨⟩
theorem tw3039385639811878427:True:=⟨⟩
theorem tw1154268866118881915:True:=⟨⟩
theorem tw1325607254380356219:True:=⟨⟩
theorem tw15339995883444250267:True:=⟨⟩
theorem tw15282797981389992603:True:=⟨⟩
theorem tw16544163327718081179:True:=⟨⟩
theorem tw2064953916250081979:True:=⟨⟩
theorem tw7382809383362402011:True:=⟨⟩
theorem tw4293466899724046075:True:=⟨⟩
theorem tw9920932986582017851:True:=⟨⟩
theorem tw6097384581344997211:True:=⟨⟩
theorem tw6354720066223608699:True:=⟨⟩
theorem tw12870971376504151931:True:=⟨⟩
theorem tw165899867408508827:True:=⟨⟩
theorem tw4265327882350970875:True:=⟨⟩
theorem tw9684176286013852732:True:=⟨⟩
theorem tw6691535352179913852:True:=⟨⟩
theorem tw16631346246624949404:True:=⟨⟩
theorem tw3754431598848768252:True:=⟨⟩
theorem tw14615124116580699420:True:=⟨⟩
theorem tw11338488969554593084:True:=⟨⟩
theorem tw2005671143505963388:True:=⟨⟩
theorem tw3843564405294194044:True:=⟨⟩
theorem tw8545673710587475388:True:=⟨⟩
theorem tw4872506479308069404:True:=⟨⟩
theorem tw1996287154896233180:True:=⟨⟩
theorem tw11690995020328895228:True:=⟨⟩
theorem tw2072883526450235132:True:=⟨⟩
theorem tw15251504740677027708:True:=⟨⟩
theorem tw13378234210713362300:True:=⟨⟩
theorem tw10955388817056029725:True:=⟨⟩
theorem tw13094610981930603613:True:=⟨⟩
theorem tw699377958600080477:True:=⟨⟩
theorem tw7045642023678087293:True:=⟨⟩
theorem tw6049226372577698013:True:=⟨⟩
theorem tw14931013885924721885:True:=⟨⟩
theorem tw8556149693293677789:True:=⟨⟩
theorem tw17118406698520072413:True:=⟨⟩
theorem tw6828673934524129533:True:=⟨⟩
theorem tw7478681282533695837:True:=⟨⟩
theorem tw1664017351744700829:True:=⟨⟩
theorem tw10843644425573745053:True:=⟨⟩
theorem tw8256787980345468317:True:=⟨⟩
theorem tw16094787203512303037:True:=⟨⟩
theorem tw1081218413448537565:True:=⟨⟩
theorem tw16284337378007273949:True:=⟨⟩
theorem tw8205776723046325821:True:=⟨⟩
theorem tw15449886437406812861:True:=⟨⟩
theorem tw14672458072871667421:True:=⟨⟩
theorem tw6807036695729321725:True:=⟨⟩
theorem tw6890467442651773725:True:=⟨⟩
theorem tw3637710195348911933:True:=⟨⟩
theorem tw11585858546867749693:True:=⟨⟩
theorem tw12223184285568987965:True:=⟨⟩
theorem tw17520829681944985405:True:=⟨⟩
theorem tw9846501541653251005:True:=⟨⟩
theorem tw7290531069843746749:True:=⟨⟩
theorem tw4481644031752246269:True:=⟨⟩
theorem tw11756248763284279293:True:=⟨⟩
theorem tw7619742470217823262:True:=⟨⟩
theorem tw15565729749963128094:True:=⟨⟩
theorem tw17619069224516881726:True:=⟨⟩
theorem tw1563400093945033022:True:=⟨⟩
theorem tw10665430448757458302:True:=⟨⟩
theorem tw5763441130730802558:True:=⟨⟩
theorem tw4555358177348313534:True:=⟨⟩
theorem tw211670059386367422:True:=⟨⟩
theorem tw14831692524598031838:True:=⟨⟩
theorem tw12913653632422153726:True:=⟨⟩
theorem tw13862480382367996414:True:=⟨⟩
theorem tw13685978714722899486:True:=⟨⟩
theorem tw4338703404507348798:True:=⟨⟩
theorem tw2752312699771968318:True:=⟨⟩
theorem tw1393048547977550686:True:=⟨⟩
theorem tw12408007401394452350:True:=⟨⟩
theorem tw3974924888839917438:True:=⟨⟩
theorem tw5512723751075291038:True:=⟨⟩
theorem tw7529206737199671198:True:=⟨⟩
theorem tw3636304251544570846:True:=⟨⟩
theorem tw16079882166193415166:True:=⟨⟩
theorem tw1643654112591680510:True:=⟨⟩
theorem tw9545782683030742111:True:=⟨⟩
theorem tw2494155308128114847:True:=⟨⟩
theorem tw474698759813112991:True:=⟨⟩
theorem tw17875677132555747551:True:=⟨⟩
theorem tw2402978619943746783:True:=⟨⟩
theorem tw8088498444728494367:True:=⟨⟩
theorem tw343071019956967807:True:=⟨⟩
theorem tw4229624450564668799:True:=⟨⟩
theorem tw12882887165443762559:True:=⟨⟩
theorem tw2710230348637400479:True:=⟨⟩
theorem tw4861710710166835807:True:=⟨⟩
theorem tw17653125435461803647:True:=⟨⟩
theorem tw14368186478237389471:True:=⟨⟩
theorem tw603594907429613215:True:=⟨⟩
theorem tw9879706542800409311:True:=⟨⟩
theorem tw11140429645912375007:True:=⟨⟩
theorem tw10919395604719299295:True:=⟨⟩
theorem tw8035956048593711871:True:=⟨⟩
theorem tw1187501869937101663:True:=⟨⟩
theorem tw3334525196244572063:True:=⟨⟩
theorem tw4833311394721378239:True:=⟨⟩
theorem tw14017494042964943839:True:=⟨⟩
theorem tw8479542648049767391:True:=⟨⟩
theorem tw8183637691255390207:True:=⟨⟩
theorem tw8271965415087938055:True:=⟨⟩
end PySem.W.Fast
namespace My
open PySem L2 PyProof.Rows
structure Defs (K:PySem.W.Frag) (mg:Str->Option Value) (CF CR CE cK cN cF cT cI cX cM cR:Addr):Prop where
  T:Nm mg
  kd:Kd K mg CF CR
  R:Rf K mg CE cK cN cF cT cI cX cM cR
  Z:Rz K mg "NoFit" CE cF [cK,cN,cT,cI,cX,cM,cR]
  xn:ExcC K mg "NoNumber" cN
  nz:mg "zip" = none
  nsu:mg "sum" = none
  nmx:mg "max" = none
  nmn:mg "min" = none
  nrv:mg "reversed" = none
  d1:Here K mg "divisor" Zee
  d2:Here K mg "is_whole" Zdn
  d3:Here K mg "is_prime" Zdo
  d4:Here K mg "shares" Zfr
  d5:Here K mg "less_times" Zcm
  c1:Here K mg "scaled_row" Zcn
  c2:Here K mg "column_at" ZcR
  c3:Here K mg "sums_with" ZcS
  c4:Here K mg "is_square" ZcQ
  c5:Here K mg "need_square" Zb9
  c6:Here K mg "scaled" Zfs
  c7:Here K mg "evenly_freed" ZbS
  c8:Here K mg "product_number" ZbD
  c9:Here K mg "corner_numbers" ZbE
  c10:Here K mg "falling_numbers" Zbs
  c11:Here K mg "great" ZgY
  l1:Here K mg "_law_whole" Zef
  l2:Here K mg "_law_divisor" ZcT
  l3:Here K mg "_law_is_prime" Zco
  l4:Here K mg "_law_prime" Zeg
  l5:Here K mg "_law_kind" Zft
  l6:Here K mg "_law_fraction" Zcq
  l7:Here K mg "_law_prime_by" Zcp
  l8:Here K mg "_law_make" Zfu
  l9:Here K mg "_law_is_number" Zca
  l10:Here K mg "_law_drawn" Zek
  l11:Here K mg "_law_plus" Zfv
  l12:Here K mg "_law_times" Zeh
  l13:Here K mg "_law_minus" Zei
  l14:Here K mg "_law_mixed" Zej
  l15:Here K mg "_law_cut" ZgZ
  l16:Here K mg "_law_poly_plus" Zcb
  l17:Here K mg "_law_poly_times" ZbT
  l18:Here K mg "_law_chain" Zel
  l19:Here K mg "_law_blocks" Zdp
  l20:Here K mg "_law_back" Zfw
  l21:Here K mg "_law_pair" Zfx
  l22:Here K mg "_law_added" Zem
  l23:Here K mg "_law_scaled" Zdq
  l24:Here K mg "_law_swapped" ZcU
  l25:Here K mg "_law_large" Zen
  l26:Here K mg "_law_like" Zfy
  l27:Here K mg "_law_is_row" Zdr
  l28:Here K mg "_law_cell_at" ZcV
  l29:Here K mg "_law_rows_by" ZcW
  l30:Here K mg "_law_refused" ZcX
  l31:Here K mg "_law_det" Zfz
  l32:Here K mg "_law_less" ZfA
  l33:Here K mg "_law_spoil" Zc6
  l34:Here K mg "_law_same" ZfB
  m1:HereM K CF "plus" "Fractions.plus" ZbB
  m2:HereM K CF "minus" "Fractions.minus" Zbq
  m4:HereM K CF "times" "Fractions.times" Zbr
  m6:HereM K CF "common_bottom" "Fractions.common_bottom" ZaK
  m7:HereM K CF "sum_of_products" "Fractions.sum_of_products" ZaH
  r2:HereM K CR "minus" "Rests.minus" Zb7
  r4:HereM K CR "times" "Rests.times" Zb8
  r6:HereM K CR "common_bottom" "Kind.common_bottom" Za4
  r7:HereM K CR "sum_of_products" "Rests.sum_of_products" ZaS
  n1:∃tk,HereD K CF "number" "Fractions.number" ZaJ #[.int 1 tk]
  n2:∃tk,HereD K CR "number" "Rests.number" Za6 #[.int 1 tk]
  i1:HereI K CR "Rests.__init__" ZbC
  lw:Here K mg "law" Zmm
theorem all_mk{l:PySem.W.OpenLaw}{w:World}{K:PySem.W.Frag}{mg:Str->Option Value}{fa CF CR CE cK cN cF cT cI cX cM cR:Addr}(hfa:mg "law" = some (.ref fa)) (D:Defs K mg CF CR CE cK cN cF cT cI cX cM cR) :
    ∃fd:FuncData,(∀(s:Shared) (v:Value),BindsTo s fd ⟨[v],[]⟩ [("_law_script", v)])/\∀base:Heap,K.In base->base.Ns mainGlobals mg->FnOk l.prog w K mg base CX0 10 fa fd ["_law_script"] (sp_law K):=by
  obtain ⟨f,fd,F,m⟩:=D.lw.ex
  have e:=hfa.symm.trans m
  cases e
  refine ⟨fd,?_,λbase _ _=>?_⟩
  · obtain ⟨oc,od,kV,doc,pm,an,cdv,ct,osl,rfl,lk,hcd⟩:=F.ex
    exact λs v => .of_eq rfl
  · have T:=D.T
    have kd:=D.kd
    obtain ⟨tk0,n1⟩:=D.n1
    obtain ⟨tk1,n2⟩:=D.n2
    have g1:Has l.prog w K mg base "divisor" 1 _ _:=ZiA D.d1 T
    have g2:Has l.prog w K mg base "is_whole" 1 _ _:=Zg1 D.d2 T
    have g3:Has l.prog w K mg base "is_prime" 1 _ _:=Zg2 D.d3 T
    have g5:Has l.prog w K mg base "less_times" 1 _ _:=ZfE D.d5
    have g4:=ZjA D.d4 g5
    have ai:=ZkJ D.i1 kd.clR kd.nP g2 g3
    have a1:=ZjD D.m1 g1
    have a2:=ZiF D.m2 kd.clF a1
    have a4:=ZiD D.m4 g1
    have a6:=Zhb D.m6 g1
    have a7:=Zg5 n1 D.xn g1
    have a8:=Zhd n1 D.xn g1
    have a9:=ZkQ D.m7 kd.clF D.nz a6 a8
    have b2:HasM l.prog w K mg base CR "minus" 1 _ _ _:=ZjF D.r2 kd.clR kd.nP
    have b4:HasM l.prog w K mg base CR "times" 1 _ _ _:=ZjE D.r4 kd.clR kd.nP
    have b6:HasM l.prog w K mg base CR "common_bottom" 1 _ _ _:=ZiM D.r6
    have b7:=Zg6 n2 kd.clR kd.nP D.xn g4
    have b8:=ZiE n2 kd.clR kd.nP D.xn g4
    have b9:HasM l.prog w K mg base CR "sum_of_products" 3 _ _ _:=ZkR D.r7 kd.clR kd.nP D.nz D.nsu
    have mt:=ZiG kd a4 (b4.mono (by decide))
    have mm:=ZiH kd a2 (b2.mono (by decide))
    have mn:=Zg9 kd (a7.mono (by decide)) b7
    have mo:=Zhc kd a6 (b6.mono (by decide))
    have md:=ZkS kd a9 b9
    have mc:=Zko kd (a8.mono (by decide)) b8
    have c1:=ZeQ D.c1 mt
    have c2:Has l.prog w K mg base "column_at" 1 _ _:=Zhl D.c2
    have c3:=ZjR D.c3 md
    have c4:Has l.prog w K mg base "is_square" 1 _ _:=ZfP D.c4 T
    have c5:=Zev D.c5 D.Z.c c4
    have c6:=ZiN D.c6 c1
    have c7:=ZdN D.c7 mn mo c6
    have c8:=Zdy D.c8 T D.nmx D.nmn md
    have c9:=Zdz D.c9 T mn mm md (c2.mono (by decide)) c3
    have c10:=Zdi D.c10 T mn c9 (c8.mono (by decide))
    have c11:=Zk2 D.c11 T D.nrv mc mt (c5.mono (by decide)) (c7.mono (by decide)) c10
    have w1:Has l.prog w K mg base "_law_whole" 1 _ _:=ZiC D.l1 T
    have w2:Has l.prog w K mg base "_law_divisor" 1 _ _:=Zgo D.l2 T
    have w3:Has l.prog w K mg base "_law_is_prime" 1 _ _:=ZfC D.l3
    have w4:=Zho D.l4 w3
    have w5:=Zkb D.l5 kd ai
    have w6:=Zj7 D.l6 w2
    have w7:=ZfW D.l7 w4
    have w8:Has l.prog w K mg base "_law_make" 1 _ _:=Zj9 D.l8
    have w9:=ZeT D.l9 T w1 w2
    have w10:=Zhq D.l10 w6
    have w11:=ZiQ D.l11 w6
    have w12:=Zhp D.l12 w6
    have w13:=ZgF D.l13 (w8.mono (by decide)) w11 w12
    have w14:Has l.prog w K mg base "_law_mixed" 1 _ _:=ZiR D.l14
    have w15:=Zk3 D.l15 T w8
    have w16:=ZeU D.l16 T D.nmx w11 (w15.mono (by decide))
    have w17:=ZeC D.l17 T (w8.mono (by decide)) w11 w12 (w15.mono (by decide))
    have w18:=ZgI D.l18 T D.nmx (w8.mono (by decide)) (w14.mono (by decide)) (w10.mono (by decide)) w17
    have w19:=Zf2 D.l19 T D.nsu (w8.mono (by decide)) (w12.mono (by decide))
    have w20:=Zhr D.l20 (w6.mono (by decide))
    have w21:=Zhs D.l21 w20
    have w22:=ZgK D.l22 T (w11.mono (by decide)) w13 (w12.mono (by decide))
    have w23:=ZfY D.l23 T (w12.mono (by decide))
    have w24:Has l.prog w K mg base "_law_swapped" 1 _ _:=ZeX D.l24 T
    have w25:Has l.prog w K mg base "_law_large" 1 _ _:=ZgN D.l25 T D.nmx
    have w26:=Zht D.l26 T (w24.mono (by decide)) w23 w21 w22 (w25.mono (by decide))
    have w27:=ZfX D.l27 T w9
    have w28:Has l.prog w K mg base "_law_cell_at" 1 _ _:=ZgH D.l28 T
    have w29:=ZgJ D.l29 T w10 (w28.mono (by decide))
    have w30:=ZeV D.l30 T D.R D.Z c11
    have w31a:=ZcG (N:=0) (by decide) D.l31 T (w8.mono (by decide)) (ZpV (P:=l.prog) (w:=w) (base:=base) D.l31) (w17.mono (by decide)) (w16.mono (by decide))
    have w31b:=ZcG (N:=1) (by decide) D.l31 T (w8.mono (by decide)) w31a (w17.mono (by decide)) (w16.mono (by decide))
    have w31c:=ZcG (N:=2) (by decide) D.l31 T (w8.mono (by decide)) w31b (w17.mono (by decide)) (w16.mono (by decide))
    have w31:=ZcG (N:=3) (by decide) D.l31 T (w8.mono (by decide)) w31c (w17.mono (by decide)) (w16.mono (by decide))
    have w32:=Zhw D.l32 T (w8.mono (by decide)) (w12.mono (by decide)) (w15.mono (by decide))
    have w33:=ZdA D.l33 T (ZdA D.l33 T (ZdA D.l33 T (Zn4 (P:=l.prog) (w:=w) (base:=base) D.l33)))
    have w34:=Zhx D.l34 T (c11.mono (by decide)) (w33.mono (by decide)) (w27.mono (by decide))
    exact Zog F T (w7.mono (by decide)) (w5.mono (by decide)) (w28.mono (by decide)) (w18.mono (by decide)) (w19.mono (by decide)) (w26.mono (by decide)) (w8.mono (by decide)) (w17.mono (by decide)) w34 (w29.mono (by decide)) (w30.mono (by decide)) (w32.mono (by decide)) w31
theorem walk{l:PySem.W.OpenLaw}{q:Program}{loose:List Str}{XP:(Str->Option Value)->Heap->Prop}{YP:World->Heap->Prop}{d:DefRec}{K:Params->PySem.W.Frag}(hn:l.most=some 63)(hdf:d.params.defaults=[])
    (hY:∀(w:World) (h:Heap),YP w h->(K w.params).In h)
    (F:∀(w:World) (mg:Str->Option Value) (fa:Addr) (h:Heap),(K w.params).In h->h.Ns mainGlobals mg->mg d.name=some (.ref fa) →
      ∃fd:FuncData,(∀(s:Shared) (u:Value),BindsTo s fd ⟨[u],[]⟩ [("_law_script", u)])/\∀base:Heap,(K w.params).In base->base.Ns mainGlobals mg->FnOk l.prog w (K w.params) mg base CX0 10 fa fd ["_law_script"] (sp_law (K w.params))) :
    PySem.W.WalkO q loose XP YP l.row.toRowW d [] (λf vs=>PySem.call f vs) :=
  L2.walk_ofB (n:=63) (k:=10) (x := "_law_script") (CX:=λ_=>CX0) (sp:=λw=>sp_law (K w.params)) hn (by decide) hdf ⟨rfl,by decide,by decide⟩ hY F (λ_ _ a ns hl hb _ hS=>⟨a,ns,rfl,hS,hl,hb,λ_=>rfl⟩) λ_ _ _ _ _ z=>z
theorem kd_mk{K:PySem.W.Frag}{h:Heap}{mg:Str->Option Value}{CF CR:Addr}(X:K.In h)(G:h.Ns mainGlobals mg)(aF:PySem.W.nsIn K mainGlobals "Fractions" = some (some (.ref CF))) (aR:PySem.W.nsIn K mainGlobals "Rests" = some (some (.ref CR)))
    (p1:PySem.W.plainGet K CF Str.empty=true) (p2:PySem.W.hasDictIn K CF=true) (p3:PySem.W.plainOver K CF=true) (p4:PySem.W.findIn K (.ref CF) "__setattr__" = some (some (.builtin "object.__setattr__")))
    (q1:PySem.W.plainGet K CR Str.empty=true) (q2:PySem.W.hasDictIn K CR=true) (q3:PySem.W.plainOver K CR=true) (q4:PySem.W.findIn K (.ref CR) "__setattr__" = some (some (.builtin "object.__setattr__")))
    (nP:PySem.W.findIn K (.ref CR) "prime" = some none) (mk:PySem.W.makesIn K CF=true) (mi:PySem.W.findIn K (.ref CF) "__init__" = some (some (.builtin "object.__init__"))) (kp:PySem.W.keepIn K (.ref CF)=true):Kd K mg CF CR :=
  ⟨⟨p1,p2,p3,p4⟩,⟨q1,q2,q3,q4⟩,nP,⟨mk,mi,kp⟩,PySem.W.mg_of X G aF,PySem.W.mg_of X G aR⟩
theorem cn_mk{K:PySem.W.Frag}{h:Heap}{mg:Str->Option Value}{x:Str}{C:Addr}(X:K.In h)(G:h.Ns mainGlobals mg)(a:PySem.W.nsIn K mainGlobals x=some (some (.ref C)))(b:PySem.W.isClsIn K C=true)(c:PySem.W.typeIn K (.ref C)=some (.type "type")):CN K mg x C:=⟨PySem.W.mg_of X G a,b,c⟩
theorem xcls_mk{K:PySem.W.Frag}{C:Addr}(ga:PySem.W.findIn K (.ref C) "__getattribute__" = some (some (.builtin "BaseException.__getattribute__"))) (ha:PySem.W.findIn K (.ref C) "__getattr__" = some none) (cl:PySem.W.findIn K (.ref C) "__class__" = some (some (.builtin "object.__class__")))
    (hn:PySem.W.specialIn K (.builtin "object.__class__") "__get__" = some (some (.builtin "getset_descriptor.__get__"))) (tk:PySem.W.takesIn K (.builtin "object.__class__")=some true) (ob:PySem.W.mroIn K C (.type "object")=some true) (be:PySem.W.mroIn K C (.type "BaseException")=some true) (hd:PySem.W.hasDictIn K C=true):XCls K C:=⟨ga,ha,cl,hn,tk,ob,be,hd⟩
theorem apart_cons{K:PySem.W.Frag}{C D:Addr}{r:List Addr}(a:PySem.W.mroIn K C (.ref D)=some false)(n:C≠D)(z:ZkK K C r):ZkK K C (D::r):=⟨⟨a,n⟩,z⟩
end My
open PySem PySem.W PyProof.Rows
local macro_rules | `(tactic| walk_at "xcls") => `(tactic| exact My.xcls_mk (by k_is) (by k_is) (by k_is) (by k_is) (by k_is) (by k_is) (by k_is) (by k_is))
local macro_rules | `(tactic| walk_at "apart") => `(tactic| repeat (first | exact True.intro | (refine' My.apart_cons (by k_is) (by decide) ?_)))
set_option maxRecDepth 100000 in
set_option maxHeartbeats 0 in
theorem PySem.Challenge.cw_turnframe_k47_great_holds : PySem.Challenge.rw_turnframe_k47_great.Holds := by
  w_on; o_law; k_head; (case hw=>w_witness2)
  k_fill
  refine My.walk (l:=PySem.Challenge.rw_turnframe_k47_great) rfl rfl (λw h Y=>PySem.W.kIn_of Y) ?F
  case F =>
    intro w mg fa h KX G hmg
    have kd:=by
      refine' My.kd_mk KX G ?e1 ?e2 ?e3 ?e4 ?e5 ?e6 ?e7 ?e8 ?e9 ?e10 ?e11 ?e12 ?e13 ?e14
      (case e1=>k_is); (case e2=>k_is); (case e3=>k_is); (case e4=>k_is); (case e5=>k_is); (case e6=>k_is); (case e7=>k_is)
      (case e8=>k_is); (case e9=>k_is); (case e10=>k_is); (case e11=>k_is); (case e12=>k_is); (case e13=>k_is); (case e14=>k_is)
    have nE:=by
      refine' My.cn_mk (x := "FrameError") KX G ?a ?b ?c
      (case a=>k_is); (case b=>k_is); (case c=>k_is)
    have nk:=by
      refine' My.cn_mk (x := "NoKind") KX G ?a ?b ?c
      (case a=>k_is); (case b=>k_is); (case c=>k_is)
    have nn:=by
      refine' My.cn_mk (x := "NoNumber") KX G ?a ?b ?c
      (case a=>k_is); (case b=>k_is); (case c=>k_is)
    have nf:=by
      refine' My.cn_mk (x := "NoFit") KX G ?a ?b ?c
      (case a=>k_is); (case b=>k_is); (case c=>k_is)
    have nt:=by
      refine' My.cn_mk (x := "NoTurn") KX G ?a ?b ?c
      (case a=>k_is); (case b=>k_is); (case c=>k_is)
    have ni:=by
      refine' My.cn_mk (x := "NoInverse") KX G ?a ?b ?c
      (case a=>k_is); (case b=>k_is); (case c=>k_is)
    have nx:=by
      refine' My.cn_mk (x := "NoText") KX G ?a ?b ?c
      (case a=>k_is); (case b=>k_is); (case c=>k_is)
    have nm:=by
      refine' My.cn_mk (x := "NoName") KX G ?a ?b ?c
      (case a=>k_is); (case b=>k_is); (case c=>k_is)
    have nr:=by
      refine' My.cn_mk (x := "NoRow") KX G ?a ?b ?c
      (case a=>k_is); (case b=>k_is); (case c=>k_is)
    have x_xn:=by
      refine' My.cn_mk (x := "NoNumber") KX G ?a ?b ?c
      (case a=>k_is); (case b=>k_is); (case c=>k_is)
    refine My.all_mk hmg ⟨?T,kd,⟨nE,?eb,nk,nn,nf,nt,ni,nx,nm,nr,PySem.W.mg_none_of KX G ?ve⟩,⟨⟨?Zx,nf.m,?Zi⟩,?Ze,?Zv,?Zo⟩,⟨?xnx,x_xn.m,?xni⟩,PySem.W.mg_none_of KX G ?nz,PySem.W.mg_none_of KX G ?nsu,PySem.W.mg_none_of KX G ?nmx,PySem.W.mg_none_of KX G ?nmn,PySem.W.mg_none_of KX G ?nrv,?d1,?d2,?d3,?d4,?d5,?c1,?c2,?c3,?c4,?c5,?c6,?c7,?c8,?c9,?c10,?c11,?l1,?l2,?l3,?l4,?l5,?l6,?l7,?l8,?l9,?l10,?l11,?l12,?l13,?l14,?l15,?l16,?l17,?l18,?l19,?l20,?l21,?l22,?l23,?l24,?l25,?l26,?l27,?l28,?l29,?l30,?l31,?l32,?l33,?l34,?m1,?m2,?m4,?m6,?m7,?r2,?r4,?r6,?r7,?n1,?n2,?i1,?lw⟩
    case eb=>k_is
    case ve=>k_is
    case Zx=>walk_at "xcls"
    case Zi=>k_exc
    case Ze=>k_is
    case Zv=>k_is
    case Zo=>walk_at "apart"
    case xnx=>walk_at "xcls"
    case xni=>k_exc
    case nz=>k_is
    case nsu=>k_is
    case nmx=>k_is
    case nmn=>k_is
    case nrv=>k_is
    case T =>
      refine' My.nm_mk (PySem.W.mg_of KX G ?e1) ?e2 (PySem.W.mg_none_of KX G ?e3) (PySem.W.mg_none_of KX G ?e4) (PySem.W.mg_none_of KX G ?e5) (PySem.W.mg_none_of KX G ?e6) (PySem.W.mg_none_of KX G ?e7) (PySem.W.mg_none_of KX G ?e8) (PySem.W.mg_none_of KX G ?e9) (PySem.W.mg_none_of KX G ?e10)
      (case e1=>k_is); (case e2=>exact ⟨_,rfl⟩); (case e3=>k_is); (case e4=>k_is); (case e5=>k_is); (case e6=>k_is); (case e7=>k_is); (case e8=>k_is); (case e9=>k_is); (case e10=>k_is)
    case i1 =>
      refine' L2.hereI_mk ?e1 ?e2 ?e3 ?e4 ?e5 ?e6 ?e7
      (case e1=>k_is); (case e2=>k_is); (case e3=>k_is); (case e4=>k_is); (case e5=>k_is); (case e6=>k_is); (case e7=>k_is)
    case n1 =>
      refine' ⟨_,L2.hereD_mk ?x0a ?x0i ?x0l ?x0t ?x0c ?x0k⟩
      (case x0a=>k_is); (case x0i=>k_is); (case x0l=>k_is); (case x0t=>(apply Eq.trans; k_is; rfl)); (case x0c=>k_is); (case x0k=>k_is)
    case n2 =>
      refine' ⟨_,L2.hereD_mk ?x1a ?x1i ?x1l ?x1t ?x1c ?x1k⟩
      (case x1a=>k_is); (case x1i=>k_is); (case x1l=>k_is); (case x1t=>(apply Eq.trans; k_is; rfl)); (case x1c=>k_is); (case x1k=>k_is)
    all_goals first
      | (refine' L2.here_mk KX G ?y1 ?y2 ?y3 ?y4
         (case y1=>k_is); (case y2=>k_is); (case y3=>k_is); (case y4=>k_is))
      | (refine' L2.hereM_mk ?z1 ?z2 ?z3 ?z4 ?z5
         (case z1=>k_is); (case z2=>k_is); (case z3=>k_is); (case z4=>k_is); (case z5=>k_is))
