import PyProof.Rows.All
import Wide.All
import OpenK.AllK
import Wide.FinOn
import Lean
import PyProof.EqAt
import PyProof.EqKinds
import PyProof.TupleCall
import PySem.Challenge.RW_turnframe_k72_whole_powers
set_option Elab.async false
set_option linter.all false
set_option maxRecDepth 100000
namespace L2
open PySem PySem.Spec PyProof.Rows
abbrev Key:=Sum Int Str
def keyIs:Key → Value → Bool
  | .inl k,v => Value.isInt k v
  | .inr x,v => Value.isStrOf x v
def keyH (w:World):Key → Int
  | .inl k => hashInt k
  | .inr x => hashStr w x
theorem keyIs_shape:∀ {k:Key} {v:Value},keyIs k v = true → (∃ i t,k = Sum.inl i ∧ v = Value.int i t) ∨ (∃ x t,k = Sum.inr x ∧ v = Value.str x t)
  | .inl i,v,h => by
    obtain ⟨t,e⟩:=Value.isInt_shape (k:=i) (v:=v) h
    exact .inl ⟨i,t,rfl,e⟩
  | .inr x,v,h => by
    obtain ⟨t,e⟩:=Value.isStrOf_shape (x:=x) (v:=v) h
    exact .inr ⟨x,t,rfl,e⟩
theorem key_ll (a b:Int):decide ((Sum.inl a:Key) = Sum.inl b) = (a == b):=by
  by_cases e:a = b
  · subst e; simp
  · have h:¬ (Sum.inl a:Key) = Sum.inl b:=fun q => e (Sum.inl.inj q)
    rw [decide_eq_false h]
    exact (beq_eq_false_iff_ne.mpr e).symm
theorem key_rr (a b:Str):decide ((Sum.inr a:Key) = Sum.inr b) = decide (a = b):=by
  by_cases e:a = b
  · subst e; simp
  · have h:¬ (Sum.inr a:Key) = Sum.inr b:=fun q => e (Sum.inr.inj q)
    rw [decide_eq_false h,decide_eq_false e]
theorem key_lr (a:Int) (b:Str):decide ((Sum.inl a:Key) = Sum.inr b) = false:=decide_eq_false (fun q => nomatch q)
theorem key_rl (a:Str) (b:Int):decide ((Sum.inr a:Key) = Sum.inl b) = false:=decide_eq_false (fun q => nomatch q)
def mixKind (prog:Program) (w:World):PySem.KeyKind prog w Key where
  is:=keyIs
  hash:=keyH w
  inj:=fun v a b ha hb => by
    rcases keyIs_shape ha with ⟨i,t,rfl,rfl⟩ | ⟨x,t,rfl,rfl⟩
    · rcases keyIs_shape hb with ⟨j,u,rfl,e⟩ | ⟨y,u,rfl,e⟩
      · injection e with e1 _; rw [e1]
      · exact nomatch e
    · rcases keyIs_shape hb with ⟨j,u,rfl,e⟩ | ⟨y,u,rfl,e⟩
      · exact nomatch e
      · injection e with e1 _; rw [e1]
  byValue:=fun k v h => by
    rcases keyIs_shape h with ⟨i,t,rfl,rfl⟩ | ⟨x,t,rfl,rfl⟩ <;> rfl
  pyHash:=fun hv h => by
    rcases keyIs_shape hv with ⟨i,t,rfl,rfl⟩ | ⟨x,t,rfl,rfl⟩
    · exact wpAny_pyHash_int h
    · exact wpAny_pyHash_str h
  eqBool:=fun hu hv h => by
    rcases keyIs_shape hu with ⟨i,t,rfl,rfl⟩ | ⟨x,t,rfl,rfl⟩
    · rcases keyIs_shape hv with ⟨j,u,rfl,rfl⟩ | ⟨y,u,rfl,rfl⟩
      · rw [key_ll] at h; exact wpAny_eqBool_int h
      · rw [key_lr] at h; exact SeqAt.EqAt.int_str i t y u _ _ _ _ h
    · rcases keyIs_shape hv with ⟨j,u,rfl,rfl⟩ | ⟨y,u,rfl,rfl⟩
      · rw [key_rl] at h; exact SeqAt.EqAt.str_int x t j u _ _ _ _ h
      · rw [key_rr] at h; exact wpAny_eqBool_str h
  «strs»:=fun k x t v h => by
    rcases keyIs_shape h with ⟨i,u,rfl,e⟩ | ⟨y,u,rfl,e⟩
    · exact nomatch e
    · injection e with e1 _
      subst e1
      cases v <;> rfl
end L2
namespace L2
open PySem PySem.Spec PyProof.Rows
inductive V where
  | non | bl (b:Bool) | int (i:Int) | str (x:Str) | byt (b:Array UInt8) | flt (b:UInt64) | ref (a:Addr) | ty (n:String)
  deriving DecidableEq
def RelV:V → Value → Prop
  | .non,u => u = Value.none
  | .bl b,u => u = Value.bool b
  | .int i,u => ∃ t,u = Value.int i t
  | .str x,u => ∃ t,u = Value.str x t
  | .byt b,u => ∃ t,u = Value.bytes b t
  | .flt b,u => ∃ t,u = Value.float b t
  | .ref a,u => u = Value.ref a
  | .ty n,u => u = Value.type n
abbrev Vals:List V → List Value → Prop:=Paired RelV
theorem Vals.length {xs:List V} {us:List Value} (r:Vals xs us):xs.length = us.length:=Paired.length r
theorem Vals.get:∀ {xs:List V} {us:List Value} {i:Nat} {x:V},Vals xs us → xs[i]? = some x → ∃ u,us[i]? = some u ∧ RelV x u
  | _,_,_,_,.nil,e => by simp at e
  | _,_,0,_,.cons r _,e => by simp at e; subst e; exact ⟨_,rfl,r⟩
  | _,_,i + 1,x,.cons _ t,e => by
    obtain ⟨u,h1,h2⟩:=Vals.get (i:=i) (x:=x) t (by simpa using e)
    exact ⟨u,by simpa using h1,h2⟩
theorem Vals.set {x:V} {u:Value} (r:RelV x u):∀ {xs:List V} {us:List Value} (i:Nat),Vals xs us → Vals (xs.set i x) (us.set i u)
  | _,_,_,.nil => .nil
  | _,_,0,.cons _ t => .cons r t
  | _,_,i + 1,.cons q t => .cons q (Vals.set r i t)
theorem Vals.append:∀ {xs ys:List V} {us ws:List Value},Vals xs us → Vals ys ws → Vals (xs ++ ys) (us ++ ws)
  | _,_,_,_,.nil,s => s
  | _,_,_,_,.cons r t,s => .cons r (Vals.append t s)
theorem Vals.take:∀ {xs:List V} {us:List Value} (n:Nat),Vals xs us → Vals (xs.take n) (us.take n)
  | _,_,0,_ => .nil
  | _,_,_ + 1,.nil => .nil
  | _,_,n + 1,.cons r t => .cons r (Vals.take n t)
theorem Vals.drop:∀ {xs:List V} {us:List Value} (n:Nat),Vals xs us → Vals (xs.drop n) (us.drop n)
  | _,_,0,r => r
  | _,_,_ + 1,.nil => .nil
  | _,_,n + 1,.cons _ t => Vals.drop n t
def RelO:Option V → Option Value → Prop
  | some v,some u => RelV v u
  | none,none => True
  | _,_ => False
def KV {κ:Type}:List (κ × V) → List (κ × Value) → Prop:=Paired fun (p:κ × V) (q:κ × Value) => p.1 = q.1 ∧ RelV p.2 q.2
def kV:Key → V
  | .inl i => .int i
  | .inr x => .str x
inductive HO where
    | lst (xs:List V)
    | tup (xs:List V)
    | dK (kvs:List (Key × V)) | dT (kvs:List (List Key × V))
    | set (S:Int → Bool) (n:Nat)
    | ins (C dx:Addr) (fs:List (Str × V))
    | own (x:Addr)
    | xd (fs:List (Str × V))
    | met (f x:Addr)
    | rng (lo hi:Int)
    | frz (o:Obj) (u:HO)
    | tbl (ps:Array Value)
    | ext (φ:Heap → Prop)
abbrev Hp:=Addr → Option HO
def upd (H:Hp) (a:Addr) (o:HO):Hp:=fun b => if b = a then some o else H b
theorem upd_same {H:Hp} {a:Addr} {o:HO}:upd H a o a = some o:=by unfold upd; rw [if_pos rfl]
theorem upd_ne {H:Hp} {a b:Addr} {o:HO} (h:b ≠ a):upd H a o b = H b:=by unfold upd; rw [if_neg h]
theorem ne_of_none {H:Hp} {a b:Addr} {o:HO} (h:H a = some o) (h':H b = none):a ≠ b:=by
  intro e; subst e; rw [h] at h'; cases h'
section
variable (P:Program) (w:World)
def ObjOk (H:Hp) (h:Heap) (a:Addr):HO → Prop
  | .lst xs => xs.length ≤ sizeLine ∧ ∃ (its:List Value) (n:Nat),Vals xs its ∧ h.get? a = some { cls:=.type "list", data:=.seq its.toArray n }
  | .tup xs => xs.length ≤ sizeLine ∧ ∃ its:List Value,Vals xs its ∧ IsTup h a its.toArray
  | .dK kvs => kvs.length ≤ sizeLine ∧ (a == sysModules) = false ∧ ∃ vs,KV kvs vs ∧ h.DictOf (mixKind P w) a vs
  | .dT kvs => kvs.length ≤ sizeLine ∧ (a == sysModules) = false ∧ ∃ xs:List (List Key × Addr × Value),
      Paired (fun (p:List Key × V) (q:List Key × Addr × Value) => p.1 = q.1 ∧ H q.2.1 = some (.tup (p.1.map kV)) ∧ RelV p.2 q.2.2) kvs xs ∧
      ∃ o es ep,h.get? a = some o ∧ o.ExactDict ∧ o.data = .dict es ep ∧ es.toList = xs.map (entryOfKey (tupleKind (mixKind P w))) ∧ (xs.map (·.1)).Nodup
  | .set S n => h.SetOf (intKind P w) a S n
  | .ins C dx fs => H dx = some (.own a) ∧ fs.length ≤ 1000 ∧ dx ≠ a ∧ h.get? a = some (PySem.W.instObj C dx) ∧
      ∃ mA,h.Ns1 dx mA ∧ (∀ f,RelO (fs.lookup f) (mA f)) ∧ PySem.Within mA (fs.map (·.1))
  | .own _ => ∃ o,h.get? a = some o
  | .xd fs => ∃ mA,h.Ns1 a mA ∧ ∀ f,RelO (fs.lookup f) (mA f)
  | .rng lo hi => ∃ t u v,h.get? a = some { cls:=.type "range", data:=.fields #[.int lo t,.int hi u,.int 1 v] }
  | .frz o u => h.get? a = some o ∧ ObjOk H h a u
  | .tbl ps => h.get? a = some { cls:=.none,data:=.fields ps }
  | .met f x => h.get? a = some (PySem.W.methodObj (.ref f) (.ref x))
  | .ext φ => φ h ∧ (∃ o,h.get? a = some o) ∧ ∀ h1 h2:Heap,φ h1 → (∀ o,h1.get? a = some o → h2.get? a = some o) → φ h2
def HOk (H:Hp) (h:Heap):Prop:=∀ a o,H a = some o → ObjOk P w H h a o
end
section
variable {P:Program} {w:World} {H H':Hp} {h h':Heap} {a:Addr} {o:HO}
theorem ObjOk.lt (x:ObjOk P w H h a o):a < h.objs.size:=by
  cases o with
  | lst xs => obtain ⟨_,_,_,_,e⟩:=x; exact Heap.lt_size e
  | tup xs => obtain ⟨_,_,_,p⟩:=x; exact p.lt
  | dK kvs => obtain ⟨_,_,_,_,o,_,_,e,_⟩:=x; exact Heap.lt_size e
  | dT kvs => obtain ⟨_,_,_,_,o,_,_,e,_⟩:=x; exact Heap.lt_size e
  | set S n => obtain ⟨o,_,_,_,e,_⟩:=x; exact Heap.lt_size e
  | ins C dx fs => obtain ⟨_,_,_,e,_⟩:=x; exact Heap.lt_size e
  | own y => obtain ⟨_,e⟩:=x; exact Heap.lt_size e
  | xd fs => obtain ⟨_,⟨_,_,_,e,_⟩,_⟩:=x; exact Heap.lt_size e
  | rng lo hi => obtain ⟨_,_,_,e⟩:=x; exact Heap.lt_size e
  | frz ob u => obtain ⟨e,_⟩:=x; exact Heap.lt_size e
  | tbl ps => exact Heap.lt_size (show h.get? a = some _ from x)
  | met f y => exact Heap.lt_size (show h.get? a = some _ from x)
  | ext φ => obtain ⟨_,⟨_,e⟩,_⟩:=x; exact Heap.lt_size e
theorem Paired.mapP {α β:Type} {F G:α → β → Prop}:∀ {l₁:List α} {l₂:List β},Paired F l₁ l₂ → (∀ a b,F a b → G a b) → Paired G l₁ l₂
  | _,_,.nil,_ => .nil
  | _,_,.cons r t,f => .cons (f _ _ r) (Paired.mapP t f)
theorem ObjOk.stay (x:ObjOk P w H h a o) (k:∀ b u,(b = a ∨ H b = some (.own a)) → h.get? b = some u → h'.get? b = some u)
    (ho:∀ b,H b = some (.own a) → H' b = some (.own a)) (ht:∀ b xs,H b = some (.tup xs) → H' b = some (.tup xs)):ObjOk P w H' h' a o:=by
  induction o with
  | lst xs => obtain ⟨z,its,n,r,e⟩:=x; exact ⟨z,its,n,r,k _ _ (.inl rfl) e⟩
  | tup xs => obtain ⟨z,its,r,ob,e,c⟩:=x; exact ⟨z,its,r,ob,k _ _ (.inl rfl) e,c⟩
  | dK kvs => obtain ⟨z,y,vs,r,ob,es,ep,e,c⟩:=x; exact ⟨z,y,vs,r,ob,es,ep,k _ _ (.inl rfl) e,c⟩
  | dT kvs =>
    obtain ⟨z,y,xs,r,ob,es,ep,e,c⟩:=x
    exact ⟨z,y,xs,Paired.mapP r fun p q z => ⟨z.1,ht _ _ z.2.1,z.2.2⟩,ob,es,ep,k _ _ (.inl rfl) e,c⟩
  | set S n => obtain ⟨ob,es,ep,t,e,c⟩:=x; exact ⟨ob,es,ep,t,k _ _ (.inl rfl) e,c⟩
  | ins C dx fs =>
    obtain ⟨d,z,ne,e,mA,⟨od,es,ep,e2,c⟩,r⟩:=x
    exact ⟨ho _ d,z,ne,k _ _ (.inl rfl) e,mA,⟨od,es,ep,k _ _ (.inr d) e2,c⟩,r⟩
  | own y => obtain ⟨ob,e⟩:=x; exact ⟨ob,k _ _ (.inl rfl) e⟩
  | xd fs => obtain ⟨mA,⟨od,es,ep,e,c⟩,r⟩:=x; exact ⟨mA,⟨od,es,ep,k _ _ (.inl rfl) e,c⟩,r⟩
  | rng lo hi => obtain ⟨t,u,v,e⟩:=x; exact ⟨t,u,v,k _ _ (.inl rfl) e⟩
  | frz ob u ih => obtain ⟨e,q⟩:=x; exact ⟨k _ _ (.inl rfl) e,ih q⟩
  | tbl ps =>
    have e:h.get? a = some { cls:=.none,data:=.fields ps }:=x
    show h'.get? a = some { cls:=.none,data:=.fields ps }
    exact k a _ (.inl rfl) e
  | met f y =>
    have e:h.get? a = some (PySem.W.methodObj (.ref f) (.ref y)):=x
    show h'.get? a = some (PySem.W.methodObj (.ref f) (.ref y))
    exact k a _ (.inl rfl) e
  | ext φ => obtain ⟨p,⟨o,e⟩,st⟩:=x; exact ⟨st _ _ p fun o q => k _ _ (.inl rfl) q,⟨o,k _ _ (.inl rfl) e⟩,st⟩
theorem HOk.lt (x:HOk P w H h) (e:H a = some o):a < h.objs.size:=(x a o e).lt
theorem HOk.fresh (x:HOk P w H h) (e:h.objs.size ≤ a):H a = none:=by
  cases q:H a with
  | none => rfl
  | some u => exact absurd (Nat.lt_of_lt_of_le (x.lt q) e) (Nat.lt_irrefl _)
theorem HOk.kept (x:HOk P w H h) (k:∀ b u,h.get? b = some u → h'.get? b = some u):HOk P w H h':=fun a o e =>
  (x a o e).stay (fun b u _ q => k b u q) (fun _ q => q) fun _ _ q => q
theorem HOk.laid (x:HOk P w H h) (k:∀ b u,h.get? b = some u → h'.get? b = some u) (hp:h.objs.size ≤ a) (new:ObjOk P w (upd H a o) h' a o):HOk P w (upd H a o) h':=fun b u e => by
  have hn:=x.fresh hp
  by_cases hb:b = a
  · subst hb; rw [upd_same] at e; cases e; exact new
  · rw [upd_ne hb] at e
    exact (x b u e).stay (fun c v _ q => k c v q) (fun c q => by rw [upd_ne (ne_of_none q hn)]; exact q) fun c xs q => by rw [upd_ne (ne_of_none q hn)]; exact q
end
def Rd (H:Hp) (a:Addr) (u:HO):Prop:=H a = some u ∨ ∃ o,H a = some (.frz o u)
theorem Rd.ok {P:Program} {w:World} {H:Hp} {h:Heap} {a:Addr} {u:HO} (r:Rd H a u) (x:HOk P w H h):ObjOk P w H h a u:=by
  rcases r with r | ⟨o,r⟩
  · exact x a u r
  · obtain ⟨_,q⟩:=x a _ r
    exact q
def Mut:Option HO → Prop
  | some (.lst _) => True
  | some (.dK _) => True
  | some (.dT _) => True
  | some (.set _ _) => True
  | some (.ins _ _ _) => True
  | some (.ext _) => True
  | _ => False
section
variable {P:Program} {w:World} {H:Hp} {h h':Heap} {x e:Addr} {o':HO}
theorem HOk.write (ok:HOk P w H h) (mu:Mut (H x)) (he:e = x ∨ H e = some (.own x)) (k:∀ b u,b ≠ e → h.get? b = some u → h'.get? b = some u) (heo:∃ u,h'.get? e = some u)
    (new:ObjOk P w (upd H x o') h' x o'):HOk P w (upd H x o') h':=fun b u q => by
  have nown:∀ c y,H c = some (.own y) → c ≠ x:=fun c y r z => by subst z; rw [r] at mu; exact mu
  have ntup:∀ c xs,H c = some (.tup xs) → c ≠ x:=fun c xs r z => by subst z; rw [r] at mu; exact mu
  by_cases hb:b = x
  · subst hb; rw [upd_same] at q; cases q; exact new
  · rw [upd_ne hb] at q
    by_cases hbe:b = e
    · have q':H b = some (.own x):=by
        rcases he with z | z
        · exact absurd (hbe.trans z) hb
        · rw [hbe]; exact z
      rw [q] at q'; cases q'
      obtain ⟨v,hv⟩:=heo
      exact ⟨v,by rw [hbe]; exact hv⟩
    · refine (ok b u q).stay (fun c v hc r => k c v ?_ r) (fun c r => by rw [upd_ne (nown c b r)]; exact r) fun c xs r => by rw [upd_ne (ntup c xs r)]; exact r
      rcases hc with rfl | hc
      · exact hbe
      · rintro rfl
        rcases he with z | z
        · exact nown c b hc z
        · rw [hc] at z; cases z; exact hb rfl
end
structure Un (fs ex:List Addr) (H H':Hp) (h h':Heap):Prop where
  keep:∀ b o,h.get? b = some o → H b = none → b ∉ fs → b ∉ ex → h'.get? b = some o
  slot:∀ b o,h.get? b = some o → H b = none → b ∈ fs → b ∉ ex → ∃ sl,h'.get? b = some { o with slots:=sl }
  free:∀ b o,h.get? b = some o → H b = none → b ∉ ex → H' b = none
  there:∀ b o,h.get? b = some o → b ∉ ex → ∃ o',h'.get? b = some o'
  tups:∀ b xs,H b = some (.tup xs) → H' b = some (.tup xs)
  frzs:∀ b o u,H b = some (.frz o u) → H' b = some (.frz o u)
  tbls:∀ b ps,H b = some (.tbl ps) → ∃ more,H' b = some (.tbl (ps ++ more))
section
variable {fs fs' ex ex':List Addr} {H H1 H2:Hp} {h h1 h2 h':Heap} {a x e:Addr} {o:HO}
theorem Un.any (u:Un fs ex H H1 h h1) {b:Addr} {ob:Obj} (q:h.get? b = some ob) (n:H b = none) (hx:b ∉ ex):∃ sl,h1.get? b = some { ob with slots:=sl }:=by
  by_cases hb:b ∈ fs
  · exact u.slot b ob q n hb hx
  · exact ⟨ob.slots,u.keep b ob q n hb hx⟩
theorem Un.kept (k:∀ b u,h.get? b = some u → h'.get? b = some u):Un fs ex H H h h' :=
  ⟨fun b ob q _ _ _ => k b ob q,fun b ob q _ _ _ => ⟨ob.slots,k b ob q⟩,fun _ _ _ n _ => n,fun b ob q _ => ⟨ob,k b ob q⟩,fun _ _ q => q,fun _ _ _ q => q,fun _ ps q => ⟨#[],by rw [q]; simp⟩⟩
theorem Un.refl:Un fs ex H H h h:=Un.kept fun _ _ q => q
theorem Un.laid (k:∀ b u,h.get? b = some u → h'.get? b = some u) (hp:h.objs.size ≤ a) (hn:H a = none):Un fs ex H (upd H a o) h h' where
  keep:=fun b u q _ _ _ => k b u q
  slot:=fun b u q _ _ _ => ⟨u.slots,k b u q⟩
  free:=fun b u q n _ => by rw [upd_ne (Nat.ne_of_lt (Nat.lt_of_lt_of_le (Heap.lt_size q) hp))]; exact n
  there:=fun b u q _ => ⟨u,k b u q⟩
  tups:=fun b xs q => by rw [upd_ne (ne_of_none q hn)]; exact q
  frzs:=fun b u xs q => by rw [upd_ne (ne_of_none q hn)]; exact q
  tbls:=fun b ps q => ⟨#[],by rw [upd_ne (ne_of_none q hn),q]; simp⟩
theorem Un.write (mu:Mut (H x)) (he:e = x ∨ H e = some (.own x)) (k:∀ b u,b ≠ e → h.get? b = some u → h'.get? b = some u) (heo:∃ u,h'.get? e = some u):Un fs ex H (upd H x o) h h':=by
  have hx:∀ b,H b = none → b ≠ x:=fun b n z => by subst z; rw [n] at mu; exact mu
  have hb:∀ b,H b = none → b ≠ e:=fun b n z => by
    subst z
    rcases he with r | r
    · exact hx b n r
    · rw [n] at r; cases r
  have hm:∀ b u,H b = some u → ¬ Mut (some u) → b ≠ x:=fun b u q nm z => by subst z; rw [q] at mu; exact nm mu
  refine ⟨fun b u q n _ _ => k b u (hb b n) q,fun b u q n _ _ => ⟨u.slots,k b u (hb b n) q⟩,fun b u q n _ => by rw [upd_ne (hx b n)]; exact n,fun b u q _ => ?_,
    fun b xs q => by rw [upd_ne (hm b _ q fun z => z)]; exact q,fun b u xs q => by rw [upd_ne (hm b _ q fun z => z)]; exact q,fun b ps q => ⟨#[],by rw [upd_ne (hm b _ q fun z => z),q]; simp⟩⟩
  by_cases hbe:b = e
  · subst hbe; exact heo
  · exact ⟨u,k b u hbe q⟩
end
def trk (h:Heap) (H:Hp):List Addr:=(List.range h.objs.size).filter fun a => (H a).isSome
def hidT (h:Heap) (H:Hp):Heap:=PySem.W.hideAll h (trk h H)
theorem hidT_size (h:Heap) (H:Hp):(hidT h H).objs.size = h.objs.size:=PySem.W.hideAll_size _ _
theorem hidT_get {h:Heap} {H:Hp} {b:Addr} {o:Obj} (e:h.get? b = some o) (n:H b = none):(hidT h H).get? b = some o :=
  PySem.W.hideAll_get _ e fun hm => by
    have q:(H b).isSome = true:=(List.mem_filter.mp hm).2
    rw [n] at q; simp at q
theorem of_hidT {h:Heap} {H:Hp} {b:Addr} {o:Obj} (e:(hidT h H).get? b = some o):h.get? b = some o ∧ H b = none:=by
  have e':h.get? b = some o:=PySem.W.of_hideAll (trk h H) e
  refine ⟨e',?_⟩
  cases q:H b with
  | none => rfl
  | some x =>
    have hm:b ∈ trk h H:=List.mem_filter.mpr ⟨List.mem_range.mpr (Heap.lt_size e'),by simp [q]⟩
    have z:(hidT h H).get? b = none:=PySem.W.hideAll_none (trk h H) hm
    rw [z] at e; cases e
def allNews (g h:Heap) (L:Addr):List (Addr × Obj):=(List.range h.objs.size).filterMap fun a => if a = L ∨ (g.get? a).isSome = true then none else (h.get? a).map fun o => (a,o)
def rest (g h:Heap) (L d:Addr):List (Addr × Obj):=(allNews g h L).filter fun p => decide (p.1 ≠ d)
end L2
namespace L2
open PySem PySem.Spec PyProof.Rows
structure Mod (K:PySem.W.Frag) (mg:Str → Option Value) (base:Heap):Prop where
  kin:K.In base
  glob:base.Ns mainGlobals mg
  blt:∃ mb,base.Ns builtinsNs mb ∧ ∀ x:Str,x ≠ "__name__" → mb x = bootBuiltins x
  nolimit:base.NoLimit
structure Cx where
  prog:Program
  w:World
  K:PySem.W.Frag
  mg:Str → Option Value
  base:Heap
  A:Around
  N:List Str
  s₀:Shared
  H₀:Hp
  env:Env
  outer:List Env
  stack:List Env
  ex:List Addr
  fn:Str → Bool
  calm:Bool
  pn:List (Addr × Obj)
  xe:Value → Shared → Prop
def frs (l:List Env):List Addr:=l.filterMap (·.frame)
abbrev Cx.fs (X:Cx):List Addr:=frs X.outer
def Vis (sc:Scope) (x:Str):Prop:=sc.names.lookup x = some .local ∨ sc.names.lookup x = some .cell ∨ sc.names.lookup x = some .free
def Loc (sc:Scope) (x:Str):Prop:=sc.names.lookup x = some .local ∨ sc.names.lookup x = some .cell
def Look (env:Env) (h:Heap) (m:Str → Option Value) (x:Str) (u:Value):Prop :=
  (env.kindOf x = some .local ∧ m x = some u) ∨ ((env.kindOf x = some .cell ∨ env.kindOf x = some .free) ∧ ∃ c,env.cells.lookup x = some c ∧ h.IsCell c (some u))
structure Cx.Ok (X:Cx):Prop where
  mod:Mod X.K X.mg X.base
  kind:X.env.scope.kind = .function
  glob:X.env.globals = mainGlobals
  blt:X.env.builtins = builtinsNs
  above:X.s₀.heap.objs.size ≤ X.env.locals
  inj:∀ x y c,X.env.cells.lookup x = some c → X.env.cells.lookup y = some c → x = y
  has:∀ x,(X.env.kindOf x = some .cell ∨ X.env.kindOf x = some .free) → ∃ c,X.env.cells.lookup x = some c
  cab:∀ x c,X.fn x = true → X.env.cells.lookup x = some c → X.s₀.heap.objs.size ≤ c
  hd:X.calm = true → X.A.handled = none
  frames:X.A.frames = some X.stack
  stk:X.stack = X.outer ∨ (X.stack = X.env :: X.outer ∧ X.env.frame = some X.env.locals)
  exf:∀ b ∈ X.ex,b ≠ X.env.locals ∧ ∀ x c,X.env.cells.lookup x = some c → c ≠ b
  bs:∀ b o,X.base.get? b = some o → X.s₀.heap.get? b = some o ∧ X.H₀ b = none
  bsz:X.base.objs.size ≤ X.s₀.heap.objs.size
  noex:∀ b o,X.base.get? b = some o → b ∉ X.ex
  exfs:∀ b ∈ X.ex,b ∉ X.fs
  funs:X.s₀.heap.FunFrames X.base X.outer
  frf:∀ b ∈ X.fs,X.H₀ b = none
structure Inv (X:Cx) (pins:List (Addr × Obj)) (σ:List (Option V)) (H:Hp) (s:Shared):Prop where
  ok:X.Ok
  os:s.os = X.s₀.os
  bare:AllBare s.gens
  base:Un X.fs X.ex X.H₀ H X.s₀.heap s.heap
  loc:∃ m,s.heap.Ns X.env.locals m ∧ ∀ (i:Nat) (x:Str) (v:V),X.N[i]? = some x → σ[i]? = some (some v) → Vis X.env.scope x → ∃ u,RelV v u ∧ Look X.env s.heap m x u
  cell:∀ x c,X.env.cells.lookup x = some c → ∃ v,s.heap.IsCell c v
  free:H X.env.locals = none
  freeC:∀ x c,X.env.cells.lookup x = some c → H c = none
  pin:∀ p ∈ X.pn ++ pins,s.heap.get? p.1 = some p.2 ∧ H p.1 = none ∧ p.1 ≠ X.env.locals ∧ p.1 ∉ X.fs ∧ ∀ v,p.2.data ≠ .cell v
  hok:HOk X.prog X.w H s.heap
  len:σ.length = X.N.length
section
variable {X:Cx} {pins:List (Addr × Obj)} {σ:List (Option V)} {H H':Hp} {s:Shared} {h':Heap}
theorem Cx.Ok.nofr (ok:X.Ok) {b:Addr} {o:Obj} (e:X.base.get? b = some o):b ∉ X.fs:=fun hb => by
  have:=(ok.funs.mem hb).1
  rw [e] at this; cases this
theorem Inv.bs (I:Inv X pins σ H s):∀ b o,X.base.get? b = some o → s.heap.get? b = some o ∧ H b = none:=fun b o e =>
  ⟨I.base.keep b o (I.ok.bs b o e).1 (I.ok.bs b o e).2 (I.ok.nofr e) (I.ok.noex b o e),I.base.free b o (I.ok.bs b o e).1 (I.ok.bs b o e).2 (I.ok.noex b o e)⟩
theorem Inv.bk (I:Inv X pins σ H s):∀ b o,X.base.get? b = some o → s.heap.get? b = some o:=fun b o e => (I.bs b o e).1
theorem Inv.mod (I:Inv X pins σ H s):Mod X.K X.mg X.base:=I.ok.mod
theorem Inv.kIn (I:Inv X pins σ H s):X.K.In s.heap:=I.ok.mod.kin.keeps I.bk
theorem Inv.nolimit (I:Inv X pins σ H s):s.heap.NoLimit:=I.ok.mod.nolimit.keeps I.bk
theorem Inv.fr (I:Inv X pins σ H s):∃ m,Fr X.base X.env.locals s.heap m :=
  let ⟨m,hn,_⟩:=I.loc
  ⟨m,hn,I.bk,Nat.le_trans I.ok.bsz I.ok.above⟩
theorem Inv.lt (I:Inv X pins σ H s):X.env.locals < s.heap.objs.size:=let ⟨_,hn,_⟩:=I.loc; hn.lt
theorem Inv.sz (I:Inv X pins σ H s):X.s₀.heap.objs.size ≤ s.heap.objs.size:=Nat.le_trans I.ok.above (Nat.le_of_lt I.lt)
theorem Inv.nofs (I:Inv X pins σ H s) {a:Addr} (h:s.heap.objs.size ≤ a):a ∉ X.fs:=fun hb => by
  obtain ⟨_,o,ho,_⟩:=I.ok.funs.mem hb
  exact absurd (Nat.lt_of_lt_of_le (Heap.lt_size ho) (Nat.le_trans I.sz h)) (Nat.lt_irrefl _)
theorem Inv.cne (I:Inv X pins σ H s):∀ x c,X.env.cells.lookup x = some c → c ≠ X.env.locals:=fun x c e z => by
  obtain ⟨v,o,ho,hd⟩:=I.cell x c e
  obtain ⟨m,⟨o',es,ep,ho',hd',_⟩,_⟩:=I.loc
  rw [z,ho'] at ho; cases ho; rw [hd'] at hd; cases hd
theorem Inv.funs (I:Inv X pins σ H s):s.heap.FunFrames X.base X.outer:=by
  have all:∀ (l:List Env),(∀ b ∈ frs l,b ∈ X.fs) → X.s₀.heap.FunFrames X.base l → s.heap.FunFrames X.base l:=by
    intro l
    induction l with
    | nil => intro _ _; trivial
    | cons env r ih =>
      intro hs hl
      obtain ⟨hk,⟨L,o,hf,hn,ho,hd⟩,hr⟩:=hl
      have hL:L ∈ X.fs:=hs L (by unfold frs; rw [List.filterMap_cons,hf]; exact List.mem_cons_self)
      obtain ⟨sl,e⟩:=I.base.slot L o ho (I.ok.frf L hL) hL fun z => I.ok.exfs L z hL
      exact ⟨hk,⟨L,_,hf,hn,e,hd⟩,ih (fun b hb => hs b (by unfold frs; rw [List.filterMap_cons,hf]; exact List.mem_cons_of_mem _ hb)) hr⟩
  exact all X.outer (fun _ hb => hb) I.ok.funs
theorem Inv.stack (I:Inv X pins σ H s):s.heap.FunFrames X.base X.stack:=by
  rcases I.ok.stk with e | ⟨e,hf⟩
  · rw [e]; exact I.funs
  · rw [e]
    obtain ⟨m,hn,_⟩:=I.loc
    refine .cons (by rw [I.ok.kind]; decide) hf hn ?_ I.funs
    exact Heap.get?_none_of_le (Nat.le_trans I.ok.bsz I.ok.above)
theorem Inv.stkSub (I:Inv X pins σ H s):∀ b ∈ frs X.stack,b ∈ X.env.locals :: X.fs:=fun b hb => by
  rcases I.ok.stk with e | ⟨e,hf⟩
  · rw [e] at hb; exact List.mem_cons_of_mem _ hb
  · rw [e] at hb
    unfold frs at hb
    rw [List.filterMap_cons,hf] at hb
    exact hb
theorem Inv.stkFree (I:Inv X pins σ H s):∀ b ∈ frs X.stack,H b = none:=fun b hb => by
  rcases List.mem_cons.mp (I.stkSub b hb) with e | hb
  · rw [e]; exact I.free
  · obtain ⟨_,o,ho,_⟩:=I.ok.funs.mem hb
    exact I.base.free b o ho (I.ok.frf b hb) fun z => I.ok.exfs b z hb
theorem Inv.step {g':Array GenState} {t':Nat} {d':Drawn} {ch:List Addr} (I:Inv X pins σ H s)
    (hch:∀ b ∈ ch,(b ∈ X.ex ∨ X.s₀.heap.objs.size ≤ b) ∧ b ≠ X.env.locals ∧ (∀ x c,X.env.cells.lookup x = some c → c ≠ b) ∧ ∀ p ∈ X.pn ++ pins,p.1 ≠ b)
    (keep:∀ b o,b ≠ X.env.locals → b ∉ X.fs → b ∉ ch → s.heap.get? b = some o → H b = none → h'.get? b = some o)
    (slot:∀ b o,b ≠ X.env.locals → b ∈ X.fs → b ∉ ch → s.heap.get? b = some o → H b = none → ∃ sl,h'.get? b = some { o with slots:=sl }) (free:∀ b o,b ∉ ch → s.heap.get? b = some o → H b = none → H' b = none)
    (there:∀ b o,b ∉ ch → s.heap.get? b = some o → ∃ o',h'.get? b = some o')
    (tups:∀ b xs,H b = some (.tup xs) → H' b = some (.tup xs)) (frzs:∀ b o u,H b = some (.frz o u) → H' b = some (.frz o u)) (tbls:∀ b ps,H b = some (.tbl ps) → ∃ more,H' b = some (.tbl (ps ++ more)))
    (ns:∀ m,s.heap.Ns X.env.locals m → h'.Ns X.env.locals m) (hok:HOk X.prog X.w H' h') (hg:AllBare g') :
    Inv X pins σ H' { s with heap:=h',gens:=g',drawn:=d',toks:=t' }:=by
  have neL:∀ b o,X.s₀.heap.get? b = some o → b ≠ X.env.locals:=fun b o e => Nat.ne_of_lt (Nat.lt_of_lt_of_le (Heap.lt_size e) I.ok.above)
  have neC:∀ b o,X.s₀.heap.get? b = some o → b ∉ X.ex → b ∉ ch:=fun b o e hx hb => by
    rcases (hch b hb).1 with z | z
    · exact hx z
    · exact absurd (Nat.lt_of_lt_of_le (Heap.lt_size e) z) (Nat.lt_irrefl _)
  have cellK:∀ x c,X.env.cells.lookup x = some c → ∀ v,s.heap.IsCell c v → h'.IsCell c v:=fun x c e v ⟨o,ho,hd⟩ => by
    have nch:c ∉ ch:=fun z => (hch c z).2.2.1 x c e rfl
    by_cases hc:c ∈ X.fs
    · obtain ⟨sl,q⟩:=slot c o (I.cne x c e) hc nch ho (I.freeC x c e)
      exact ⟨_,q,hd⟩
    · exact ⟨o,keep c o (I.cne x c e) hc nch ho (I.freeC x c e),hd⟩
  refine ⟨I.ok,I.os,hg,⟨fun b o e n hb hx => ?_,fun b o e n hb hx => ?_,fun b o e n hx => ?_,fun b o e hx => ?_,fun b xs e => tups b xs (I.base.tups b xs e),fun b o xs e => frzs b o xs (I.base.frzs b o xs e),fun b ps e => ?_⟩,?_,fun x c e => ?_,?_,fun x c e => ?_,fun p hp => ?_,hok,I.len⟩
  · exact keep b o (neL b o e) hb (neC b o e hx) (I.base.keep b o e n hb hx) (I.base.free b o e n hx)
  · obtain ⟨sl,e1⟩:=I.base.slot b o e n hb hx
    obtain ⟨sl',e2⟩:=slot b _ (neL b o e) hb (neC b o e hx) e1 (I.base.free b o e n hx)
    exact ⟨sl',e2⟩
  · obtain ⟨o',e1⟩:=I.base.there b o e hx
    exact free b o' (neC b o e hx) e1 (I.base.free b o e n hx)
  · obtain ⟨o',e1⟩:=I.base.there b o e hx
    exact there b o' (neC b o e hx) e1
  · obtain ⟨m1,e1⟩:=I.base.tbls b ps e
    obtain ⟨m2,e2⟩:=tbls b _ e1
    exact ⟨m1 ++ m2,by rw [e2,Array.append_assoc]⟩
  · obtain ⟨m,hn,hl⟩:=I.loc
    refine ⟨m,ns m hn,fun i x v e1 e2 e3 => ?_⟩
    obtain ⟨u,r,l⟩:=hl i x v e1 e2 e3
    refine ⟨u,r,?_⟩
    rcases l with l | ⟨k,c,e,z⟩
    · exact .inl l
    · exact .inr ⟨k,c,e,cellK x c e _ z⟩
  · obtain ⟨v,z⟩:=I.cell x c e
    exact ⟨v,cellK x c e v z⟩
  · obtain ⟨m,⟨o,_,_,ho,_⟩,_⟩:=I.loc
    exact free _ o (fun z => (hch _ z).2.1 rfl) ho I.free
  · obtain ⟨v,o,ho,hd⟩:=I.cell x c e
    exact free c o (fun z => (hch c z).2.2.1 x c e rfl) ho (I.freeC x c e)
  · obtain ⟨e,n,ne,nf,d⟩:=I.pin p hp
    have nch:p.1 ∉ ch:=fun z => (hch p.1 z).2.2.2 p hp rfl
    exact ⟨keep p.1 p.2 ne nf nch e n,free p.1 p.2 nch e n,ne,nf,d⟩
theorem Inv.un {t':Nat} (I:Inv X pins σ H s) (u:Un X.fs [] H H' s.heap h') (hok:HOk X.prog X.w H' h'):Inv X pins σ H' { s with heap:=h',toks:=t' }:=by
  obtain ⟨m,⟨o,es,ep,ho,r⟩,_⟩:=id I.loc
  obtain ⟨sl,hL⟩:=u.any ho I.free (by simp)
  exact I.step (g':=s.gens) (d':=s.drawn) (ch:=[]) (fun _ z => nomatch z) (fun b o _ hb _ e n => u.keep b o e n hb (by simp)) (fun b o _ hb _ e n => u.slot b o e n hb (by simp)) (fun b o _ e n => u.free b o e n (by simp)) (fun b o _ e => u.there b o e (by simp)) u.tups u.frzs u.tbls (fun m' hm => by
    obtain ⟨o',es',ep',ho',r'⟩:=hm
    rw [ho] at ho'; cases ho'
    exact ⟨_,es',ep',hL,r'⟩) hok I.bare
theorem Inv.call {g':Array GenState} {t':Nat} {d':Drawn} {ch:List Addr} (I:Inv X pins σ H s) (u:Un (frs X.stack) ch H H' s.heap h') (hok:HOk X.prog X.w H' h') (hg:AllBare g')
    (hch:∀ b ∈ ch,(b ∈ X.ex ∨ X.s₀.heap.objs.size ≤ b) ∧ b ≠ X.env.locals ∧ (∀ x c,X.env.cells.lookup x = some c → c ≠ b) ∧ ∀ p ∈ X.pn ++ pins,p.1 ≠ b) :
    Inv X pins σ H' { s with heap:=h',gens:=g',drawn:=d',toks:=t' }:=by
  obtain ⟨m,⟨o,es,ep,ho,r⟩,_⟩:=id I.loc
  obtain ⟨sl,hL⟩:=u.any ho I.free fun z => (hch _ z).2.1 rfl
  exact I.step (ch:=ch) hch (fun b o hL hb hc e n => u.keep b o e n (fun z => (List.mem_cons.mp (I.stkSub b z)).elim hL hb) hc) (fun b o _ _ hc e n => u.any e n hc) (fun b o hc e n => u.free b o e n hc) (fun b o hc e => u.there b o e hc) u.tups u.frzs u.tbls (fun m' hm => by
    obtain ⟨o',es',ep',ho',r'⟩:=hm
    rw [ho] at ho'; cases ho'
    exact ⟨_,es',ep',hL,r'⟩) hok hg
theorem Inv.turned {t':Nat} {it:Addr} (I:Inv X pins σ H s) (k:∀ b o,b ≠ it → s.heap.get? b = some o → h'.get? b = some o) (hn:H it = none) (hL:it ≠ X.env.locals)
    (h1:it ∈ X.ex ∨ X.s₀.heap.objs.size ≤ it) (h2:∀ x c,X.env.cells.lookup x = some c → c ≠ it) (h3:∀ p ∈ X.pn ++ pins,p.1 ≠ it):Inv X pins σ H { s with heap:=h',toks:=t' }:=by
  have nit:∀ b u,H b = some u → b ≠ it:=fun b u e z => by rw [z,hn] at e; cases e
  refine I.step (g':=s.gens) (d':=s.drawn) (ch:=[it]) (fun b hb => ?_) (fun b o _ _ hc e _ => k b o (fun z => hc (by simp [z])) e) (fun b o _ _ hc e _ => ⟨o.slots,k b o (fun z => hc (by simp [z])) e⟩) (fun _ _ _ _ n => n)
    (fun b o hc e => ⟨o,k b o (fun z => hc (by simp [z])) e⟩) (fun _ _ e => e) (fun _ _ _ e => e) (fun b ps e => ⟨#[],by rw [e]; simp⟩) (fun m hm => ?_) (fun b u e => ?_) I.bare
  · have e:b = it:=by simpa using hb
    subst e
    exact ⟨h1,hL,h2,h3⟩
  · obtain ⟨o,es,ep,ho,r⟩:=hm
    exact ⟨o,es,ep,k _ o (Ne.symm hL) ho,r⟩
  · refine (I.hok b u e).stay (fun c v hc q => k c v ?_ q) (fun _ q => q) fun _ _ q => q
    rcases hc with z | z
    · rw [z]; exact nit b u e
    · exact nit c _ z
theorem Inv.tok (I:Inv X pins σ H s) (t:Nat):Inv X pins σ H { s with toks:=t }:=I.un (h':=s.heap) (t':=t) Un.refl I.hok
theorem Inv.kept {t':Nat} (I:Inv X pins σ H s) (k:∀ b u,s.heap.get? b = some u → h'.get? b = some u):Inv X pins σ H { s with heap:=h',toks:=t' }:=I.un (Un.kept k) (I.hok.kept k)
theorem Inv.laid {a:Addr} {o:HO} {t':Nat} (I:Inv X pins σ H s) (k:∀ b u,s.heap.get? b = some u → h'.get? b = some u) (hp:s.heap.objs.size ≤ a) (new:ObjOk X.prog X.w (upd H a o) h' a o) :
    Inv X pins σ (upd H a o) { s with heap:=h',toks:=t' }:=I.un (Un.laid k hp (I.hok.fresh hp)) (I.hok.laid k hp new)
theorem Inv.write {x e:Addr} {o:HO} {t':Nat} (I:Inv X pins σ H s) (mu:Mut (H x)) (he:e = x ∨ H e = some (.own x)) (k:∀ b u,b ≠ e → s.heap.get? b = some u → h'.get? b = some u) (heo:∃ u,h'.get? e = some u)
    (new:ObjOk X.prog X.w (upd H x o) h' x o):Inv X pins σ (upd H x o) { s with heap:=h',toks:=t' }:=I.un (Un.write mu he k heo) (I.hok.write mu he k heo new)
theorem Inv.weak {σ':List (Option V)} (I:Inv X pins σ H s) (hl:σ'.length = σ.length) (w:∀ (i:Nat) v,σ'[i]? = some (some v) → σ[i]? = some (some v)):Inv X pins σ' H s :=
  ⟨I.ok,I.os,I.bare,I.base,let ⟨m,hn,hl'⟩:=I.loc; ⟨m,hn,fun i x v e1 e2 e3 => hl' i x v e1 (w i v e2) e3⟩,I.cell,I.free,I.freeC,I.pin,I.hok,hl.trans I.len⟩
theorem Inv.pins_of {pins':List (Addr × Obj)} (I:Inv X pins σ H s) (h:∀ p ∈ pins',s.heap.get? p.1 = some p.2 ∧ H p.1 = none ∧ p.1 ≠ X.env.locals ∧ p.1 ∉ X.fs ∧ ∀ v,p.2.data ≠ .cell v):Inv X pins' σ H s :=
  ⟨I.ok,I.os,I.bare,I.base,I.loc,I.cell,I.free,I.freeC,fun p hp => (List.mem_append.mp hp).elim (fun z => I.pin p (List.mem_append_left _ z)) (h p),I.hok,I.len⟩
theorem nodup_ix {N:List Str} (hN:N.Nodup) {i j:Nat} {x:Str} (a:N[i]? = some x) (b:N[j]? = some x):i = j:=by
  obtain ⟨h1,e1⟩:=List.getElem?_eq_some_iff.mp a
  obtain ⟨h2,e2⟩:=List.getElem?_eq_some_iff.mp b
  exact (List.getElem_inj hN).mp (e1.trans e2.symm)
theorem store_ok2 {M:Model} {A:Around} {E:Value → Shared → Prop} {i:Nat} {x:Str} {v:V} {u:Value} {Q:Unit → Shared → Prop} (I:Inv X pins σ H s) (hN:X.N.Nodup) (hi:X.N[i]? = some x) (hx:Loc X.env.scope x) (r:RelV v u)
    (h:∀ s',Inv X pins (σ.set i (some v)) H s' → (∃ a,Heap.SameBut a s.heap s'.heap ∧ (a = X.env.locals ∨ X.env.cells.lookup x = some a)) → Q () s') (hf:X.fn x = true ∨ X.env.scope.names.lookup x = some .local:=by first | exact .inl rfl | exact .inr rfl | assumption):wpAny M A (storeName X.env x u) Q E s:=by
  obtain ⟨m,hn,hl⟩:=id I.loc
  have hcls:(X.env.scope.kind == .class || (X.env.scope.kind == .module && X.env.locals != X.env.globals)) = false:=by rw [I.ok.kind]; rfl
  have hiσ:i < σ.length:=by rw [I.len]; exact (List.getElem?_eq_some_iff.mp hi).1
  have cne:=I.cne
  have tracked:∀ {a:Addr} {h':Heap},(∃ o,s.heap.get? a = some o ∧ H a = none) → Heap.SameBut a s.heap h' → HOk X.prog X.w H h':=fun {a h'} ha hs b ob e => by
    obtain ⟨_,_,hfree⟩:=ha
    refine (I.hok b ob e).stay (fun c w' hc q => (hs.2 c ?_).trans q) (fun _ q => q) fun _ _ q => q
    rintro rfl
    rcases hc with rfl | hc
    · rw [hfree] at e; cases e
    · rw [hfree] at hc; cases hc
  rcases hx with hk | hk
  · refine wpAny_storeName_local hk hn (fun h' hn' hs => ?_) hcls
    obtain ⟨oL,_,_,hoL,_⟩:=id hn
    refine h _ ⟨I.ok,I.os,I.bare,⟨fun b o e n hb hx => ?_,fun b o e n hb hx => ?_,I.base.free,fun b o e hx => ?_,I.base.tups,I.base.frzs,I.base.tbls⟩,⟨_,hn',fun j y v' e1 e2 e3 => ?_⟩,fun y c e => ?_,I.free,I.freeC,fun p hp => ?_,tracked ⟨oL,hoL,I.free⟩ hs,by simpa using I.len⟩ ⟨_,hs,.inl rfl⟩
    · exact (hs.2 b (Nat.ne_of_lt (Nat.lt_of_lt_of_le (Heap.lt_size e) I.ok.above))).trans (I.base.keep b o e n hb hx)
    · obtain ⟨sl,e1⟩:=I.base.slot b o e n hb hx
      exact ⟨sl,(hs.2 b (Nat.ne_of_lt (Nat.lt_of_lt_of_le (Heap.lt_size e) I.ok.above))).trans e1⟩
    · obtain ⟨o',e1⟩:=I.base.there b o e hx
      exact ⟨o',(hs.2 b (Nat.ne_of_lt (Nat.lt_of_lt_of_le (Heap.lt_size e) I.ok.above))).trans e1⟩
    · by_cases hj:j = i
      · subst hj
        rw [hi] at e1; cases e1
        rw [List.getElem?_set_self hiσ] at e2
        cases e2
        exact ⟨u,r,.inl ⟨hk,by simp⟩⟩
      · rw [List.getElem?_set_ne (Ne.symm hj)] at e2
        obtain ⟨u',r',q⟩:=hl j y v' e1 e2 e3
        refine ⟨u',r',?_⟩
        rcases q with ⟨k,e⟩ | ⟨k,c,e,z⟩
        · refine .inl ⟨k,?_⟩
          have:y ≠ x:=fun e => hj (nodup_ix hN e1 (e ▸ hi))
          simp [this,e]
        · exact .inr ⟨k,c,e,z.sameBut hs (cne y c e)⟩
    · obtain ⟨w',z⟩:=I.cell y c e
      exact ⟨w',z.sameBut hs (cne y c e)⟩
    · obtain ⟨e,n,ne,nf,d⟩:=I.pin p hp
      exact ⟨(hs.2 p.1 ne).trans e,n,ne,nf,d⟩
  · have hfn:X.fn x = true:=by
      rcases hf with z | z
      · exact z
      · rw [z] at hk; cases hk
    obtain ⟨c,hc⟩:=I.ok.has x (.inl hk)
    obtain ⟨w',z⟩:=I.cell x c hc
    refine wpAny_storeName_cell I.ok.kind hk hc z (fun h' hc' hs => ?_)
    obtain ⟨oc,hoc,hocd⟩:=id z
    refine h { s with heap:=h' } ⟨I.ok,I.os,I.bare,⟨fun b o e n hb hx => ?_,fun b o e n hb hx => ?_,I.base.free,fun b o e hx => ?_,I.base.tups,I.base.frzs,I.base.tbls⟩,⟨m,hn.sameBut hs (Ne.symm (cne x c hc)),fun j y v' e1 e2 e3 => ?_⟩,fun y c' e => ?_,I.free,I.freeC,fun p hp => ?_,tracked ⟨oc,hoc,I.freeC x c hc⟩ hs,by simpa using I.len⟩ ⟨c,hs,.inr hc⟩
    · exact (hs.2 b (Nat.ne_of_lt (Nat.lt_of_lt_of_le (Heap.lt_size e) (I.ok.cab x c hfn hc)))).trans (I.base.keep b o e n hb hx)
    · obtain ⟨sl,e1⟩:=I.base.slot b o e n hb hx
      exact ⟨sl,(hs.2 b (Nat.ne_of_lt (Nat.lt_of_lt_of_le (Heap.lt_size e) (I.ok.cab x c hfn hc)))).trans e1⟩
    · obtain ⟨o',e1⟩:=I.base.there b o e hx
      exact ⟨o',(hs.2 b (Nat.ne_of_lt (Nat.lt_of_lt_of_le (Heap.lt_size e) (I.ok.cab x c hfn hc)))).trans e1⟩
    · by_cases hj:j = i
      · subst hj
        rw [hi] at e1; cases e1
        rw [List.getElem?_set_self hiσ] at e2
        cases e2
        exact ⟨u,r,.inr ⟨.inl hk,c,hc,hc'⟩⟩
      · rw [List.getElem?_set_ne (Ne.symm hj)] at e2
        obtain ⟨u',r',q⟩:=hl j y v' e1 e2 e3
        refine ⟨u',r',?_⟩
        rcases q with q | ⟨k,c',e,z'⟩
        · exact .inl q
        · refine .inr ⟨k,c',e,z'.sameBut hs ?_⟩
          rintro rfl
          exact hj (nodup_ix hN e1 (I.ok.inj _ _ _ e hc ▸ hi))
    · by_cases hcc:c' = c
      · subst hcc; exact ⟨_,hc'⟩
      · obtain ⟨w2,z2⟩:=I.cell y c' e
        exact ⟨w2,z2.sameBut hs hcc⟩
    · obtain ⟨e,n,ne,nf,d⟩:=I.pin p hp
      refine ⟨(hs.2 p.1 ?_).trans e,n,ne,nf,d⟩
      intro q
      rw [q,hoc] at e
      have q':oc = p.2:=Option.some.inj e
      exact d w' (by rw [← q']; exact hocd)
theorem store_ok {M:Model} {A:Around} {E:Value → Shared → Prop} {i:Nat} {x:Str} {v:V} {u:Value} {Q:Unit → Shared → Prop} (I:Inv X pins σ H s) (hN:X.N.Nodup) (hi:X.N[i]? = some x) (hx:Loc X.env.scope x) (r:RelV v u)
    (h:∀ s',Inv X pins (σ.set i (some v)) H s' → Q () s') (hf:X.fn x = true ∨ X.env.scope.names.lookup x = some .local:=by first | exact .inl rfl | exact .inr rfl | assumption):wpAny M A (storeName X.env x u) Q E s :=
  store_ok2 I hN hi hx r (fun s' I' _ => h s' I') hf
theorem Inv.call' {s':Shared} {ch:List Addr} (I:Inv X pins σ H s) (ho:s'.os = s.os) (u:Un (frs X.stack) ch H H' s.heap s'.heap) (hok:HOk X.prog X.w H' s'.heap) (hg:AllBare s'.gens)
    (hch:∀ b ∈ ch,(b ∈ X.ex ∨ X.s₀.heap.objs.size ≤ b) ∧ b ≠ X.env.locals ∧ (∀ x c,X.env.cells.lookup x = some c → c ≠ b) ∧ ∀ p ∈ X.pn ++ pins,p.1 ≠ b):Inv X pins σ H' s':=by
  obtain ⟨h',g',d',t',o'⟩:=s'
  have e:o' = s.os:=ho
  subst e
  exact I.call (g':=g') (t':=t') (d':=d') u hok hg hch
end
abbrev XK:=Value → Option Addr → Hp → Prop
abbrev St:=List (Option V)
abbrev VK:=V → Hp → Prop
abbrev TE:=St → Hp → VK → Prop
abbrev TT:=St → Hp → (Bool → Hp → Prop) → Prop
abbrev TA:=St → Hp → (List V → Hp → Prop) → Prop
structure Ends where
  nx:St → Hp → Prop
  rt:VK
  bk:St → Hp → Prop:=fun _ _ => False
  ct:St → Hp → Prop:=fun _ _ => False
abbrev TS:=Ends → St → Hp → Prop
def EP (X:Cx) (pins:List (Addr × Obj)) (σ:St) (Q:VK) (u:Value) (s':Shared):Prop:=∃ v H',Inv X pins σ H' s' ∧ RelV v u ∧ Q v H'
def TP (X:Cx) (pins:List (Addr × Obj)) (σ:St) (Q:Bool → Hp → Prop) (b:Bool) (s':Shared):Prop:=∃ H',Inv X pins σ H' s' ∧ Q b H'
def AP (X:Cx) (pins:List (Addr × Obj)) (σ:St) (Q:List V → Hp → Prop) (us:List Value) (s':Shared):Prop:=∃ vs H',Inv X pins σ H' s' ∧ Vals vs us ∧ Q vs H'
def SP (X:Cx) (pins:List (Addr × Obj)) (D:Ends) (f:Flow) (s':Shared):Prop :=
  match f with
  | .next => ∃ σ' H',Inv X pins σ' H' s' ∧ D.nx σ' H'
  | .brk => ∃ σ' H',Inv X pins σ' H' s' ∧ D.bk σ' H'
  | .cont => ∃ σ' H',Inv X pins σ' H' s' ∧ D.ct σ' H'
  | .ret u => ∃ v σ' H',Inv X pins σ' H' s' ∧ RelV v u ∧ D.rt v H'
def PE (X:Cx) (e:Expr) (t:TE):Prop :=
  ∀ (pins:List (Addr × Obj)) (s:Shared) (σ:St) (H:Hp) (Q:VK),Inv X pins σ H s → t σ H Q → wpAny (model X.prog X.w) X.A (eval e X.env) (EP X pins σ Q) X.xe s
def PT (X:Cx) (e:Expr) (t:TT):Prop :=
  ∀ (pins:List (Addr × Obj)) (s:Shared) (σ:St) (H:Hp) (Q:Bool → Hp → Prop),Inv X pins σ H s → t σ H Q → wpAny (model X.prog X.w) X.A (isTrue e X.env (eval e X.env)) (TP X pins σ Q) X.xe s
def PW (X:Cx) (e:Expr) (t:TT):Prop :=
  ∀ (whole:Sem Value) (pins:List (Addr × Obj)) (s:Shared) (σ:St) (H:Hp) (Q:Bool → Hp → Prop),Inv X pins σ H s → t σ H Q → wpAny (model X.prog X.w) X.A (isTrue e X.env whole) (TP X pins σ Q) X.xe s
theorem PW.pt {X:Cx} {e:Expr} {t:TT} (h:PW X e t):PT X e t:=h _
def PA (X:Cx) (es:List Expr) (t:TA):Prop :=
  ∀ (pos:Pos) (pins:List (Addr × Obj)) (s:Shared) (σ:St) (H:Hp) (Q:List V → Hp → Prop),Inv X pins σ H s → t σ H Q → wpAny (model X.prog X.w) X.A (spliced (backTo pos (starEach es X.env))) (AP X pins σ Q) X.xe s
def PS (X:Cx) (st:Stmt) (t:TS):Prop :=
  ∀ (pins:List (Addr × Obj)) (s:Shared) (σ:St) (H:Hp) (D:Ends),Inv X pins σ H s → t D σ H → wpAny (model X.prog X.w) X.A (exec st X.env) (SP X pins D) X.xe s
def PSs (X:Cx) (st:List Stmt) (t:TS):Prop :=
  ∀ (pins:List (Addr × Obj)) (s:Shared) (σ:St) (H:Hp) (D:Ends),Inv X pins σ H s → t D σ H → wpAny (model X.prog X.w) X.A (execs st X.env) (SP X pins D) X.xe s
theorem thn {α:Type} {t:Sem α} {Q Q':α → Shared → Prop} {M:Model} {A:Around} {E:Value → Shared → Prop} {s:Shared} (h:wpAny M A t Q E s) (hQ:∀ a s,Q a s → Q' a s):wpAny M A t Q' E s:=wpAny_mono h hQ fun _ _ x => x
end L2
namespace L2
open PySem PySem.Spec PyProof.Rows
section
variable {X:Cx}
theorem bin {a b:Expr} {ta tb:TE} (ha:PE X a ta) (hb:PE X b tb) {pins:List (Addr × Obj)} {s:Shared} {σ:St} {H:Hp} {R:V → V → Hp → Prop} (I:Inv X pins σ H s) (h:ta σ H fun x H1 => tb σ H1 fun y H2 => R x y H2)
    {α:Type} {Q:α → Shared → Prop} {f:Value → Value → Sem α}
    (hf:∀ v u s2 x y H2,Inv X pins σ H2 s2 → RelV x v → RelV y u → R x y H2 → wpAny (model X.prog X.w) X.A (f v u) Q X.xe s2) :
    wpAny (model X.prog X.w) X.A (eval a X.env) (fun v s₁ => wpAny (model X.prog X.w) X.A (eval b X.env) (fun u s₂ => wpAny (model X.prog X.w) X.A (f v u) Q X.xe s₂) X.xe s₁) X.xe s:=by
  refine thn (ha pins s σ H _ I h) fun v s1 ⟨x,H1,I1,r1,q1⟩ => ?_
  refine thn (hb pins s1 σ H1 _ I1 q1) fun u s2 ⟨y,H2,I2,r2,q2⟩ => ?_
  exact hf v u s2 x y H2 I2 r1 r2 q2
def tVar (i:Nat):TE:=fun σ H Q => ∃ v,σ[i]? = some (some v) ∧ Q v H
def tC (v:V):TE:=fun _ H Q => Q v H
theorem pe_var {i:Nat} {x:Str} {pos:Pos} (hN:X.N[i]? = some x) (hv:Vis X.env.scope x) (hd:(x == ("__debug__" : Str)) = false:=by decide) (hcd:(x == ("__classdict__" : Str)) = false:=by decide):PE X (.Name x pos) (tVar i):=by
  intro pins s σ H Q I h
  obtain ⟨v,e,h⟩:=h
  obtain ⟨m,hn,hl⟩:=I.loc
  obtain ⟨u,r,l⟩:=hl i x v hN e hv
  have fin:EP X pins σ Q u s:=⟨v,H,I,r,h⟩
  rcases l with ⟨hk,hm⟩ | ⟨hk,c,hc,hcell⟩
  · exact wpAny_Name (wpAny_loadName_local I.ok.kind hk hn hm fin) hd
  · rcases hk with hk | hk
    · exact wpAny_Name (wpAny_loadName_cell I.ok.kind hk hc hcell fin) hd
    · exact wpAny_Name (wpAny_loadName_free I.ok.kind hk hc hcell fin hcd) hd
theorem pe_int {i j pos}:PE X (.Constant (.int i) j pos) (tC (.int i)):=fun _ _ _ H _ I h => wpAny_Constant_int ⟨.int i,H,I.tok _,⟨_,rfl⟩,h⟩
theorem pe_bl {b j pos}:PE X (.Constant (.bool b) j pos) (tC (.bl b)):=fun _ _ _ H _ I h => Constant_bool ⟨.bl b,H,I,rfl,h⟩
theorem pe_non {j pos}:PE X (.Constant .none j pos) (tC .non):=fun _ _ _ H _ I h => Constant_none ⟨.non,H,I,rfl,h⟩
theorem pe_str {x j pos}:PE X (.Constant (.str x) j pos) (tC (.str x)):=fun _ _ _ H _ I h => Calls.Constant_str ⟨.str x,H,I.tok _,⟨_,rfl⟩,h⟩
def Gl (X:Cx) (x:Str):Prop:=X.env.kindOf x = some .globalImplicit
theorem ld_glob {E:Value → Shared → Prop} {pins:List (Addr × Obj)} {s:Shared} {σ:St} {H:Hp} {x:Str} {u:Value} {pos:Pos} {Q:Value → Shared → Prop} (I:Inv X pins σ H s) (hg:Gl X x) (hm:X.mg x = some u) (h:Q u s)
    (hd:(x == ("__debug__" : Str)) = false:=by decide):wpAny (model X.prog X.w) X.A (eval (.Name x pos) X.env) Q E s :=
  Calls.Name_function_global I.ok.kind hg (Calls.loadGlobal_global (by rw [I.ok.glob]; exact I.mod.glob.keeps I.bk) hm h) hd
theorem ld_blt {E:Value → Shared → Prop} {pins:List (Addr × Obj)} {s:Shared} {σ:St} {H:Hp} {x:Str} {u:Value} {pos:Pos} {Q:Value → Shared → Prop} (I:Inv X pins σ H s) (hg:Gl X x) (hm:X.mg x = none) (hv:bootBuiltins x = some u) (h:Q u s)
    (hn:x ≠ "__name__" := by decide) (hd:(x == ("__debug__" : Str)) = false:=by decide):wpAny (model X.prog X.w) X.A (eval (.Name x pos) X.env) Q E s:=by
  obtain ⟨mb,h1,h2⟩:=I.mod.blt
  exact Calls.Name_function_global I.ok.kind hg (Calls.loadGlobal_builtin (by rw [I.ok.glob]; exact I.mod.glob.keeps I.bk) hm (by rw [I.ok.blt]; exact h1.keeps I.bk) ((h2 x hn).trans hv) h) hd
theorem pe_glob {x:Str} {v:V} {u:Value} {pos:Pos} (hg:Gl X x) (hm:X.mg x = some u) (r:RelV v u) (hd:(x == ("__debug__" : Str)) = false:=by decide):PE X (.Name x pos) (tC v) :=
  fun _ _ _ H _ I h => ld_glob I hg hm ⟨v,H,I,r,h⟩ hd
theorem pe_bltn {x:Str} {v:V} {u:Value} {pos:Pos} (hg:Gl X x) (hm:X.mg x = none) (hv:bootBuiltins x = some u) (r:RelV v u) (hn:x ≠ "__name__" := by decide) (hd:(x == ("__debug__" : Str)) = false:=by decide):PE X (.Name x pos) (tC v) :=
  fun _ _ _ H _ I h => ld_blt I hg hm hv ⟨v,H,I,r,h⟩ hn hd
variable {a b:Expr} {ta tb:TE} {pos:Pos}
def PC (X:Cx) (op:CmpOp) (a b:Expr) (t:TE):Prop :=
  ∀ (pins:List (Addr × Obj)) (s:Shared) (σ:St) (H:Hp) (Q:VK),Inv X pins σ H s → t σ H Q →
    wpAny (model X.prog X.w) X.A (eval a X.env) (fun v s₁ => wpAny (model X.prog X.w) X.A (eval b X.env) (fun u s₂ => wpAny (model X.prog X.w) X.A (compareOp op v u) (EP X pins σ Q) X.xe s₂) X.xe s₁) X.xe s
theorem nobehind (b:Expr) {op:CmpOp} (h:op ≠ .In) (h2:op ≠ .NotIn):behindInMarks op b = false:=by
  have e1:(op == CmpOp.In) = false:=by cases op <;> first | rfl | exact absurd rfl h
  have e2:(op == CmpOp.NotIn) = false:=by cases op <;> first | rfl | exact absurd rfl h2
  cases b <;> simp [behindInMarks,e1,e2]
def tB (t:TE):TT:=fun σ H Q => t σ H fun x H1 => ∃ c,x = .bl c ∧ Q c H1
theorem pt_cmp {op:CmpOp} {t:TE} (h:PC X op a b t) (h1:behindInMarks op b = false:=by first | exact nobehind _ (by decide) (by decide) | rfl):PT X (.Compare a [op] [b] pos) (tB t):=by
  intro pins s σ H Q I hw
  refine wpAny_isTrue_Compare1 (thn (h pins s σ H _ I hw) fun v s1 h1 => thn h1 fun u s2 h2 => thn h2 fun c s3 ⟨x,H1,I1,r1,q1⟩ => ?_) h1
  obtain ⟨d,rfl,q⟩:=q1
  cases r1
  exact wpAny_truthy_bool ⟨H1,I1,q⟩
theorem pt_val {e:Expr} {t:TE} (h:PE X e t) (he:∀ whole,isTrue e X.env whole = (do let v ← whole; standAt e.pos; holding [v] (truthy v)):=by intro _; rfl):PT X e (tB t):=by
  intro pins s σ H Q I hw
  refine isTrue_plain (thn (h pins s σ H _ I hw) fun v s1 ⟨x,H1,I1,r1,q1⟩ => ?_) (he _)
  obtain ⟨d,rfl,q⟩:=q1
  cases r1
  exact wpAny_truthy_bool ⟨H1,I1,q⟩
variable {tA tB':TT} {rest:List Expr}
def tAnd (t u:TT):TT:=fun σ H Q => t σ H fun c H1 => if c = true then u σ H1 Q else Q false H1
def tOr (t u:TT):TT:=fun σ H Q => t σ H fun c H1 => if c = true then Q true H1 else u σ H1 Q
def tNot (t:TT):TT:=fun σ H Q => t σ H fun c H1 => Q (!c) H1
theorem pw_and1 (ha:PT X a tA):PW X (.BoolOp .And [a] pos) tA:=by
  intro wh pins s σ H Q I h
  refine isTrue_and (thn (ha pins s σ H Q I h) fun c s1 e => ?_)
  cases c with
  | true => exact isTrue_and_nil e
  | false => exact e
theorem pw_or1 (ha:PT X a tA):PW X (.BoolOp .Or [a] pos) tA:=by
  intro wh pins s σ H Q I h
  refine isTrue_or (thn (ha pins s σ H Q I h) fun c s1 e => ?_)
  cases c with
  | false => exact isTrue_or_nil e
  | true => exact e
theorem pw_and (ha:PT X a tA) (hb:PW X (.BoolOp .And (b :: rest) pos) tB'):PW X (.BoolOp .And (a :: b :: rest) pos) (tAnd tA tB'):=by
  intro wh pins s σ H Q I h
  refine isTrue_and (thn (ha pins s σ H _ I h) fun c s1 ⟨H1,I1,q1⟩ => ?_)
  cases c with
  | true => exact hb wh pins s1 σ H1 Q I1 q1
  | false => exact ⟨H1,I1,q1⟩
theorem pw_or (ha:PT X a tA) (hb:PW X (.BoolOp .Or (b :: rest) pos) tB'):PW X (.BoolOp .Or (a :: b :: rest) pos) (tOr tA tB'):=by
  intro wh pins s σ H Q I h
  refine isTrue_or (thn (ha pins s σ H _ I h) fun c s1 ⟨H1,I1,q1⟩ => ?_)
  cases c with
  | true => exact ⟨H1,I1,q1⟩
  | false => exact hb wh pins s1 σ H1 Q I1 q1
theorem pt_not (ha:PT X a tA):PT X (.UnaryOp .Not a pos) (tNot tA):=by
  intro pins s σ H Q I h
  exact isTrue_not (ha pins s σ H (fun c H1 => Q (!c) H1) I h)
def tAndV (ta tb:TE):TE:=fun σ H Q => ta σ H fun x H1 => ∃ c,x = .bl c ∧ if c = true then tb σ H1 Q else Q (.bl false) H1
def tOrV (ta tb:TE):TE:=fun σ H Q => ta σ H fun x H1 => ∃ c,x = .bl c ∧ if c = true then Q (.bl true) H1 else tb σ H1 Q
def tNotV (ta:TE):TE:=fun σ H Q => ta σ H fun x H1 => ∃ c,x = .bl c ∧ Q (.bl (!c)) H1
theorem pe_one {op} {t:TE} (h:PE X a t):PE X (.BoolOp op [a] pos) t:=fun pins s σ H Q I hw => BoolOp_one (h pins s σ H Q I hw)
theorem pe_and (ha:PE X a ta) (hb:PE X (.BoolOp .And (b :: rest) pos) tb):PE X (.BoolOp .And (a :: b :: rest) pos) (tAndV ta tb):=by
  intro pins s σ H Q I h
  refine BoolOp_and (thn (ha pins s σ H _ I h) fun v s1 ⟨x,H1,I1,r1,q1⟩ => ?_)
  obtain ⟨c,rfl,q1⟩:=q1
  cases r1
  refine wpAny_truthy_bool ?_
  cases c with
  | true => exact hb pins s1 σ H1 Q I1 q1
  | false => exact ⟨.bl false,H1,I1,rfl,q1⟩
theorem pe_or (ha:PE X a ta) (hb:PE X (.BoolOp .Or (b :: rest) pos) tb):PE X (.BoolOp .Or (a :: b :: rest) pos) (tOrV ta tb):=by
  intro pins s σ H Q I h
  refine BoolOp_or (thn (ha pins s σ H _ I h) fun v s1 ⟨x,H1,I1,r1,q1⟩ => ?_)
  obtain ⟨c,rfl,q1⟩:=q1
  cases r1
  refine wpAny_truthy_bool ?_
  cases c with
  | false => exact hb pins s1 σ H1 Q I1 q1
  | true => exact ⟨.bl true,H1,I1,rfl,q1⟩
theorem pe_not (ha:PE X a ta):PE X (.UnaryOp .Not a pos) (tNotV ta):=by
  intro pins s σ H Q I h
  refine UnaryOp_ (thn (ha pins s σ H _ I h) fun v s1 ⟨x,H1,I1,r1,q1⟩ => ?_)
  obtain ⟨c,rfl,q1⟩:=q1
  cases r1
  exact not_of (wpAny_truthy_bool ⟨.bl (!c),H1,I1,rfl,q1⟩)
def tIf (t:TT) (ta tb:TE):TE:=fun σ H Q => t σ H fun c H1 => if c = true then ta σ H1 Q else tb σ H1 Q
theorem pe_ifExp {c:Expr} (hc:PT X c tA) (ha:PE X a ta) (hb:PE X b tb):PE X (.IfExp c a b pos) (tIf tA ta tb):=by
  intro pins s σ H Q I h
  refine wpAny_IfExp (thn (hc pins s σ H _ I h) fun d s1 ⟨H1,I1,q1⟩ => ?_)
  cases d with
  | true => exact ha pins s1 σ H1 Q I1 q1
  | false => exact hb pins s1 σ H1 Q I1 q1
end
end L2
namespace L2
open PySem PySem.Spec PyProof.Rows
def SqL (K:PySem.W.Frag) (H:Hp) (a:Addr) (xs:List V):Prop :=
  Rd H a (.lst xs) ∨
    ∃ (o:Obj) (its:Array Value) (n:Nat),K.lookup a = some o ∧ o.cls = .type "list" ∧ o.dict = none ∧ o.data = .seq its n ∧ its.size ≤ sizeLine ∧ Vals xs its.toList
def SqT (K:PySem.W.Frag) (H:Hp) (a:Addr) (xs:List V):Prop :=
  Rd H a (.tup xs) ∨
    ∃ (o:Obj) (its:Array Value) (n:Nat),K.lookup a = some o ∧ o.cls = .type "tuple" ∧ o.data = .seq its n ∧ its.size ≤ sizeLine ∧ Vals xs its.toList
def absV:Value → Option V
  | .none => some .non
  | .bool b => some (.bl b)
  | .int i _ => some (.int i)
  | .str x _ => some (.str x)
  | .bytes b _ => some (.byt b)
  | .float b _ => some (.flt b)
  | .ref a => some (.ref a)
  | .type n => some (.ty n)
  | _ => none
theorem RelV.abs {x:V} {u:Value} (r:RelV x u):absV u = some x:=by
  cases x with
  | non => cases r; rfl
  | bl _ => cases r; rfl
  | int _ => obtain ⟨t,rfl⟩:=r; rfl
  | str _ => obtain ⟨t,rfl⟩:=r; rfl
  | byt _ => obtain ⟨t,rfl⟩:=r; rfl
  | flt _ => obtain ⟨t,rfl⟩:=r; rfl
  | ref _ => cases r; rfl
  | ty _ => cases r; rfl
theorem RelV.inj {x y:V} {u:Value} (r:RelV x u) (q:RelV y u):x = y:=Option.some.inj (r.abs.symm.trans q.abs)
theorem Vals.inj:∀ {xs ys:List V} {us:List Value},Vals xs us → Vals ys us → xs = ys
  | _,_,_,.nil,.nil => rfl
  | _,_,_,.cons r t,.cons r' t' => by rw [r.inj r',Vals.inj t t']
section
variable {X:Cx} {pins:List (Addr × Obj)} {σ:St} {H:Hp} {s:Shared} {a:Addr} {xs ys:List V}
theorem SqL.of {K:PySem.W.Frag} (h:H a = some (.lst xs)):SqL K H a xs:=.inl (.inl h)
theorem SqT.of {K:PySem.W.Frag} (h:H a = some (.tup xs)):SqT K H a xs:=.inl (.inl h)
theorem Inv.list (I:Inv X pins σ H s) (h:SqL X.K H a xs):∃ its:List Value,Vals xs its ∧ PlainL s.heap a its.toArray ∧ xs.length ≤ sizeLine:=by
  rcases h with h | ⟨o,its,n,hk,hc,hd,hs,hz,r⟩
  · obtain ⟨z,its,n,r,e⟩:=h.ok I.hok
    exact ⟨its,r,⟨_,n,e,rfl,rfl,rfl⟩,z⟩
  · refine ⟨its.toList,r,⟨o,n,I.kIn a o hk,hc,hd,by simpa using hs⟩,?_⟩
    have e:=r.length
    simp only [Array.length_toList] at e
    omega
theorem Inv.tuple (I:Inv X pins σ H s) (h:SqT X.K H a xs):∃ its:List Value,Vals xs its ∧ IsTup s.heap a its.toArray ∧ xs.length ≤ sizeLine:=by
  rcases h with h | ⟨o,its,n,hk,hc,hs,hz,r⟩
  · obtain ⟨z,its,r,p⟩:=h.ok I.hok
    exact ⟨its,r,p,z⟩
  · refine ⟨its.toList,r,⟨o,I.kIn a o hk,hc,n,by simpa using hs⟩,?_⟩
    have e:=r.length
    simp only [Array.length_toList] at e
    omega
theorem Inv.list_inj (I:Inv X pins σ H s) (h:SqL X.K H a xs) (h':SqL X.K H a ys):xs = ys:=by
  obtain ⟨its,r,⟨o,n,e,_,_,d⟩,_⟩:=I.list h
  obtain ⟨its',r',⟨o',n',e',_,_,d'⟩,_⟩:=I.list h'
  rw [e] at e'; cases e'
  rw [d] at d'
  injection d' with d1 _
  have:its = its':=by simpa using congrArg Array.toList d1
  subst this
  exact r.inj r'
end
abbrev Cx.wish (X:Cx) (E:Value → Shared → Prop):Cx:={ X with xe:=E }
abbrev Cx.nox (X:Cx):Cx:=X.wish fun _ _ => False
theorem Cx.Ok.wish {X:Cx} (ok:X.Ok) (E:Value → Shared → Prop):(X.wish E).Ok :=
  ⟨ok.mod,ok.kind,ok.glob,ok.blt,ok.above,ok.inj,ok.has,ok.cab,ok.hd,ok.frames,ok.stk,ok.exf,ok.bs,ok.bsz,ok.noex,ok.exfs,ok.funs,ok.frf⟩
theorem Cx.Ok.unwish {X:Cx} {E:Value → Shared → Prop} (ok:(X.wish E).Ok):X.Ok :=
  ⟨ok.mod,ok.kind,ok.glob,ok.blt,ok.above,ok.inj,ok.has,ok.cab,ok.hd,ok.frames,ok.stk,ok.exf,ok.bs,ok.bsz,ok.noex,ok.exfs,ok.funs,ok.frf⟩
section
variable {X:Cx} {pins:List (Addr × Obj)} {σ:St} {H:Hp} {s:Shared} {E:Value → Shared → Prop}
theorem Inv.wish (I:Inv X pins σ H s) (E:Value → Shared → Prop):Inv (X.wish E) pins σ H s:=⟨I.ok.wish E,I.os,I.bare,I.base,I.loc,I.cell,I.free,I.freeC,I.pin,I.hok,I.len⟩
theorem Inv.unwish (I:Inv (X.wish E) pins σ H s):Inv X pins σ H s:=⟨I.ok.unwish,I.os,I.bare,I.base,I.loc,I.cell,I.free,I.freeC,I.pin,I.hok,I.len⟩
theorem SP.unwish {D:Ends} {f:Flow} {s':Shared} (h:SP (X.wish E) pins D f s'):SP X pins D f s':=by
  cases f with
  | next => obtain ⟨σ',H',I,q⟩:=h; exact ⟨σ',H',I.unwish,q⟩
  | brk => obtain ⟨σ',H',I,q⟩:=h; exact ⟨σ',H',I.unwish,q⟩
  | cont => obtain ⟨σ',H',I,q⟩:=h; exact ⟨σ',H',I.unwish,q⟩
  | ret u => obtain ⟨v,σ',H',I,r,q⟩:=h; exact ⟨v,σ',H',I.unwish,r,q⟩
theorem PSs.nox {st:List Stmt} {t:TS} (h:PSs X.nox st t):PSs X st t:=fun pins s σ H D I hw =>
  wpAny_mono (h pins s σ H D (I.wish _) hw) (fun _ _ q => q.unwish) fun _ _ z => False.elim z
end
section
variable {X:Cx} {st:Stmt} {rest:List Stmt} {t u:TS} {e:Expr} {te:TE} {pos:Pos}
def tNext:TS:=fun D σ H => D.nx σ H
def tSeq (t u:TS):TS:=fun D σ H => t { D with nx:=u D } σ H
theorem pss_nil:PSs X [] tNext:=fun _ _ σ H _ I h => wpAny_execs_nil ⟨σ,H,I,h⟩
theorem pss_cons (h1:PS X st t) (h2:PSs X rest u):PSs X (st :: rest) (tSeq t u):=by
  intro pins s σ H D I h
  refine wpAny_execs_cons (thn (h1 pins s σ H { D with nx:=u D } I h) fun f s1 q => ?_)
  cases f with
  | next =>
    obtain ⟨σ',H',I',q⟩:=q
    exact h2 pins s1 σ' H' D I' q
  | ret v => exact q
  | brk => exact q
  | cont => exact q
theorem pss_one (h1:PS X st t):PSs X [st] t:=by
  intro pins s σ H D I h
  refine wpAny_execs_cons (thn (h1 pins s σ H D I h) fun f s1 q => ?_)
  cases f with
  | next => exact wpAny_execs_nil q
  | ret v => exact q
  | brk => exact q
  | cont => exact q
theorem Inv.quiet {pins:List (Addr × Obj)} {σ:St} {H:Hp} {s:Shared} (I:Inv X pins σ H s):interactive X.env = false:=by simp [interactive,I.ok.kind]
def tDrop (te:TE):TS:=fun D σ H => te σ H fun _ H1 => D.nx σ H1
theorem ps_expr (he:PE X e te) (hs:swapsWith e none pos.line X.env = pure false:=by rfl):PS X (.Expr e pos) (tDrop te):=by
  intro pins s σ H D I h
  exact wpAny_Expr_any (thn (he pins s σ H _ I h) fun v s1 ⟨x,H1,I1,r1,q1⟩ => ⟨σ,H1,I1,q1⟩) I.quiet hs
def tRet (te:TE):TS:=fun D σ H => te σ H D.rt
theorem ps_ret (he:PE X e te):PS X (.Return (some e) pos) (tRet te):=by
  intro pins s σ H D I h
  exact wpAny_Return_some (thn (he pins s σ H _ I h) fun v s1 ⟨x,H1,I1,r1,q1⟩ => ⟨x,σ,H1,I1,r1,q1⟩)
def tIfS (c:TT) (t u:TS):TS:=fun D σ H => c σ H fun b H1 => if b = true then t D σ H1 else u D σ H1
theorem ps_if {c:Expr} {a b:List Stmt} {tc:TT} (hc:PT X c tc) (ha:PSs X a t) (hb:PSs X b u):PS X (.If c a b pos) (tIfS tc t u):=by
  intro pins s σ H D I h
  refine wpAny_If (thn (hc pins s σ H _ I h) fun d s1 ⟨H1,I1,q1⟩ => ?_)
  cases d with
  | true => exact ha pins s1 σ H1 D I1 q1
  | false => exact hb pins s1 σ H1 D I1 q1
def tNever:TS:=fun _ _ _ => False
theorem ps_never:PS X st tNever:=fun _ _ _ _ _ _ h => h.elim
end
abbrev TG:=V → St → Hp → (St → Hp → Prop) → Prop
abbrev TGs:=List V → St → Hp → (St → Hp → Prop) → Prop
def PG (X:Cx) (target:Expr) (t:TG):Prop :=
  ∀ (pins:List (Addr × Obj)) (s:Shared) (σ:St) (H:Hp) (v:V) (u:Value) (Q:St → Hp → Prop),Inv X pins σ H s → RelV v u → t v σ H Q →
    wpAny (model X.prog X.w) X.A (assign target X.env u) (fun _ s' => ∃ σ' H',Inv X pins σ' H' s' ∧ Q σ' H') X.xe s
def PGs (X:Cx) (ts:List Expr) (t:TGs):Prop :=
  ∀ (pins:List (Addr × Obj)) (s:Shared) (σ:St) (H:Hp) (vs:List V) (us:List Value) (Q:St → Hp → Prop),Inv X pins σ H s → Vals vs us → t vs σ H Q →
    wpAny (model X.prog X.w) X.A (assignInOrder ((assignEach ts X.env).map (·.2)) us) (fun _ s' => ∃ σ' H',Inv X pins σ' H' s' ∧ Q σ' H') X.xe s
abbrev TSet:=V → V → V → Hp → (Hp → Prop) → Prop
def PSet (X:Cx) (t:TSet):Prop :=
  ∀ (pins:List (Addr × Obj)) (s:Shared) (σ:St) (H:Hp) (o i v:V) (ov iv u:Value) (Q:Hp → Prop),Inv X pins σ H s → RelV o ov → RelV i iv → RelV v u → t o i v H Q →
    wpAny (model X.prog X.w) X.A (setItem ov iv u) (fun _ s' => ∃ H',Inv X pins σ H' s' ∧ Q H') X.xe s
abbrev TIp:=V → V → Hp → VK → Prop
def PIp (X:Cx) (op:Operator) (t:TIp):Prop :=
  ∀ (pins:List (Addr × Obj)) (s:Shared) (σ:St) (H:Hp) (x y:V) (v u:Value) (Q:VK),Inv X pins σ H s → RelV x v → RelV y u → t x y H Q →
    wpAny (model X.prog X.w) X.A (inplaceOp op v u) (EP X pins σ Q) X.xe s
section
variable {X:Cx} {pos:Pos}
def gName (i:Nat):TG:=fun v σ H Q => Q (σ.set i (some v)) H
theorem pg_name {i:Nat} {x:Str} (hN:X.N.Nodup) (hi:X.N[i]? = some x) (hx:Loc X.env.scope x) (hf:X.fn x = true ∨ X.env.scope.names.lookup x = some .local:=by first | exact .inl rfl | exact .inr rfl | assumption):PG X (.Name x pos) (gName i):=by
  intro pins s σ H v u Q I r h
  exact wpAny_assign_Name (store_ok I hN hi hx r (fun s' I' => ⟨_,H,I',h⟩) hf)
def gNil:TGs:=fun vs σ H Q => vs = [] ∧ Q σ H
def gCons (t:TG) (u:TGs):TGs:=fun vs σ H Q => ∃ v r,vs = v :: r ∧ t v σ H fun σ' H' => u r σ' H' Q
theorem pgs_nil:PGs X [] gNil:=by
  intro pins s σ H vs us Q I r h
  obtain ⟨e,h⟩:=h
  subst e
  cases r
  exact assignInOrder_nil ⟨σ,H,I,h⟩
theorem pgs_cons {e:Expr} {es:List Expr} {t:TG} {u:TGs} (h1:PG X e t) (h2:PGs X es u)
    (hs:(assignEach (e :: es) X.env).map (·.2) = assign e X.env :: (assignEach es X.env).map (·.2):=by rfl):PGs X (e :: es) (gCons t u):=by
  intro pins s σ H vs us Q I r h
  obtain ⟨v,vr,e1,h⟩:=h
  subst e1
  cases r with
  | cons r rr =>
    rw [hs]
    refine assignInOrder_cons (thn (h1 pins s σ H _ _ _ I r h) fun _ s1 ⟨σ1,H1,I1,q1⟩ => ?_)
    exact h2 pins s1 σ1 H1 _ _ Q I1 rr q1
def gTup (K:PySem.W.Frag) (n:Nat) (t:TGs):TG:=fun v σ H Q => ∃ a xs,v = .ref a ∧ SqT K H a xs ∧ xs.length = n ∧ t xs σ H Q
theorem pg_tup {es:List Expr} {k:Nat} {t:TGs} {n:Nat} (hc:X.calm = true) (h:PGs X es t)
    (hn:(assignEach es X.env).length = n:=by rfl) (hst:(assignEach es X.env).findIdx? (·.1) = none:=by rfl):PG X (.Tuple es k pos) (gTup X.K n t):=by
  intro pins s σ H v u Q I r hw
  obtain ⟨a,xs,e1,hq,hl,hw⟩:=hw
  subst e1
  cases r
  obtain ⟨its,rv,ht,hz⟩:=I.tuple hq
  refine assign_Tuple_tuple (I.ok.hd hc) ht (by simp [hn,← hl,rv.length]) hst fun h' hx => ?_
  have I1:Inv X pins σ H { s with heap:=h' }:=I.kept (t':=s.toks) fun b o e => hx b o (Nat.ne_of_lt (Heap.lt_size e)) e
  exact h pins _ σ H xs _ Q I1 (by simpa using rv) hw
def gSub (to ti:TE) (t:TSet):TG:=fun v σ H Q => to σ H fun o H1 => ti σ H1 fun i H2 => t o i v H2 fun H3 => Q σ H3
theorem pg_sub {o i:Expr} {to ti:TE} {t:TSet} (ho:PE X o to) (hi:PE X i ti) (hs:PSet X t)
    (ha:∀ v,assign (.Subscript o i pos) X.env v = (do
      let ov ← holding [v] (eval o X.env)
      let iv ← holding [v,ov] (eval i X.env)
      standAt pos
      holding [v,ov,iv] (setItem ov iv v)
      release [v,ov,iv] []):=by intro _; rfl):PG X (.Subscript o i pos) (gSub to ti t):=by
  intro pins s σ H v u Q I r h
  rw [ha]
  refine wpAny_bind (wpAny_holding (thn (ho pins s σ H _ I h) fun ov s1 ⟨x,H1,I1,r1,q1⟩ => ?_))
  refine wpAny_bind (wpAny_holding (thn (hi pins s1 σ H1 _ I1 q1) fun iv s2 ⟨y,H2,I2,r2,q2⟩ => ?_))
  refine wpAny_bind (wpAny_standAt (wpAny_bind (wpAny_holding (thn (hs pins s2 σ H2 x y v ov iv u _ I2 r1 r2 r q2) fun _ s3 ⟨H3,I3,q3⟩ => ?_))))
  exact wpAny_release ⟨σ,H3,I3,q3⟩
def tAsg (te:TE) (g:TG):TS:=fun D σ H => te σ H fun x H1 => g x σ H1 D.nx
theorem ps_asg {tg e:Expr} {te:TE} {g:TG} (he:PE X e te) (hg:PG X tg g) (hs:swapsWithSole [tg] e pos.line X.env = pure false:=by rfl) (hw:swappedStores [tg] e X.env = pure none:=by rfl)
    (h1:(assignEach [tg] X.env).map (·.2) = [assign tg X.env]:=by rfl):PS X (.Assign [tg] e pos) (tAsg te g):=by
  intro pins s σ H D I h
  refine wpAny_Assign_stores (thn (he pins s σ H _ I h) fun v s1 ⟨x,H1,I1,r1,q1⟩ => ?_) hs hw
  rw [h1]
  exact thn (hg pins s1 σ H1 x v _ I1 r1 q1) fun _ s2 q => q
theorem ps_set {i:Nat} {x:Str} {e:Expr} {te:TE} {pos':Pos} (hN:X.N.Nodup) (hi:X.N[i]? = some x) (hx:Loc X.env.scope x) (he:PE X e te) (hs:swapsWith e (some (.Name x pos')) pos.line X.env = pure false:=by rfl) (hf:X.fn x = true ∨ X.env.scope.names.lookup x = some .local:=by first | exact .inl rfl | exact .inr rfl | assumption) :
    PS X (.Assign [.Name x pos'] e pos) (tAsg te (gName i)):=by
  intro pins s σ H D I h
  refine wpAny_Assign_Name (thn (he pins s σ H _ I h) fun v s1 ⟨y,H1,I1,r1,q1⟩ => ?_) hs
  exact store_ok I1 hN hi hx r1 (fun s2 I2 => ⟨_,H1,I2,q1⟩) hf
def tAug (i:Nat) (te:TE) (ti:TIp):TS:=fun D σ H => ∃ x,σ[i]? = some (some x) ∧ te σ H fun y H1 => ti x y H1 fun z H2 => D.nx (σ.set i (some z)) H2
theorem ps_aug {i:Nat} {x:Str} {e:Expr} {te:TE} {op:Operator} {ti:TIp} {pos':Pos} (hN:X.N.Nodup) (hi:X.N[i]? = some x) (hx:Loc X.env.scope x) (he:PE X e te) (ho:PIp X op ti) (hf:X.fn x = true ∨ X.env.scope.names.lookup x = some .local:=by first | exact .inl rfl | exact .inr rfl | assumption) :
    PS X (.AugAssign (.Name x pos') op e pos) (tAug i te ti):=by
  intro pins s σ H D I h
  obtain ⟨v,e1,h⟩:=h
  obtain ⟨m,hn,hl⟩:=I.loc
  have vis:Vis X.env.scope x:=by rcases hx with k | k; exact .inl k; exact .inr (.inl k)
  obtain ⟨u,r,l⟩:=hl i x v hi e1 vis
  refine wpAny_AugAssign_Name ?_
  have go:wpAny (model X.prog X.w) X.A (eval e X.env) (fun w s₂ => wpAny (model X.prog X.w) X.A (inplaceOp op u w) (fun r s₃ => wpAny (model X.prog X.w) X.A (storeName X.env x r) (fun _ => SP X pins D .next) X.xe s₃) X.xe s₂) X.xe s:=by
    refine thn (he pins s σ H _ I h) fun w s1 ⟨y,H1,I1,r1,q1⟩ => ?_
    refine thn (ho pins s1 σ H1 v y u w _ I1 r r1 q1) fun z s2 ⟨zv,H2,I2,r2,q2⟩ => ?_
    exact store_ok I2 hN hi hx r2 (fun s3 I3 => ⟨_,H2,I3,q2⟩) hf
  rcases l with ⟨hk,hm⟩ | ⟨hk,c,hc,hcell⟩
  · exact wpAny_loadName_local I.ok.kind hk hn hm go
  · rcases hk with hk | hk
    · exact wpAny_loadName_cell I.ok.kind hk hc hcell go
    · rcases hx with k | k
      · have:X.env.scope.names.lookup x = some .free:=hk
        rw [k] at this; cases this
      · have:X.env.scope.names.lookup x = some .free:=hk
        rw [k] at this; cases this
def ipI (f:Int → Int → Int):TIp:=fun x y H Q => ∃ i j,x = .int i ∧ y = .int j ∧ Q (.int (f i j)) H
theorem ip_add:PIp X .Add (ipI fun i j => i + j):=by
  intro pins s σ H x y v u Q I r1 r2 h
  obtain ⟨i,j,e1,e2,q⟩:=h
  subst e1; subst e2
  obtain ⟨t,rfl⟩:=r1
  obtain ⟨t',rfl⟩:=r2
  exact iadd_int ⟨.int _,H,I.tok _,⟨_,rfl⟩,q⟩
end
section
variable {X:Cx} {pos:Pos}
def tWhile (c:TT) (tb:TS):TS:=fun D σ H => ∃ W:Nat → St → Hp → Prop,(∃ m,W m σ H) ∧ ∀ m σ H,W m σ H →
  c σ H fun b H1 => if b = true then ∃ N:St → Hp → Prop,(∀ σ' H',N σ' H' → ∃ m',m' < m ∧ W m' σ' H') ∧ tb { D with nx:=N,ct:=N,bk:=D.nx } σ H1 else D.nx σ H1
theorem ps_while {c:Expr} {body:List Stmt} {tc:TT} {tb:TS} (hp:PassesOwn (model X.prog X.w) X.A X.env X.xe) (hc:PT X c tc) (hb:PSs X body tb):PS X (.While c body [] pos) (tWhile tc tb):=by
  intro pins s σ H D I h
  obtain ⟨W,⟨m0,w0⟩,turn⟩:=h
  refine wpAny_While (codeAny_whileLoop (fun n s' => ∃ σ' H',Inv X pins σ' H' s' ∧ W n σ' H') ?_ m0 ⟨σ,H,I,w0⟩)
  rintro n s1 ⟨σ1,H1,I1,w1⟩
  refine wpAny_passesOwn hp (thn (hc pins s1 σ1 H1 _ I1 (turn n σ1 H1 w1)) fun b s2 ⟨H2,I2,q2⟩ => ?_)
  cases b with
  | true =>
    obtain ⟨N,hN,q2⟩:=q2
    rw [if_pos rfl]
    refine wpAny_passesOwn hp (thn (hb pins s2 σ1 H2 _ I2 q2) fun f s3 q3 => ?_)
    cases f with
    | next =>
      obtain ⟨σ3,H3,I3,n3⟩:=q3
      obtain ⟨m',hm,w3⟩:=hN σ3 H3 n3
      exact ⟨m',hm,σ3,H3,I3,w3⟩
    | cont =>
      obtain ⟨σ3,H3,I3,n3⟩:=q3
      obtain ⟨m',hm,w3⟩:=hN σ3 H3 n3
      exact ⟨m',hm,σ3,H3,I3,w3⟩
    | brk => exact q3
    | ret v => exact q3
  | false =>
    rw [if_neg Bool.false_ne_true]
    exact wpAny_execs_nil ⟨σ1,H2,I2,q2⟩
end
structure It where
  go:Nat → Hp → Prop
  yld:Nat → Hp → V → Hp → Prop
  stop:Nat → Hp → Prop
def FpOk (X:Cx) (pins:List (Addr × Obj)) (H:Hp) (b:Addr):Prop :=
  H b = none ∧ b ≠ X.env.locals ∧ b ∉ X.fs ∧ (b ∈ X.ex ∨ X.s₀.heap.objs.size ≤ b) ∧ (∀ x c,X.env.cells.lookup x = some c → c ≠ b) ∧ ∀ p ∈ X.pn ++ pins,p.1 ≠ b
theorem Inv.fpOk {X:Cx} {pins:List (Addr × Obj)} {σ:St} {H H':Hp} {s:Shared} {b:Addr} (I:Inv X pins σ H s) (hb:s.heap.objs.size ≤ b) (hn:H' b = none):FpOk X pins H' b:=by
  refine ⟨hn,Nat.ne_of_gt (Nat.lt_of_lt_of_le I.lt hb),I.nofs hb,.inr (Nat.le_trans I.sz hb),fun x c e z => ?_,fun p hp z => ?_⟩
  · obtain ⟨v,q⟩:=I.cell x c e
    exact absurd (Nat.lt_of_lt_of_le q.lt (by rw [z]; exact hb)) (Nat.lt_irrefl _)
  · exact absurd (Nat.lt_of_lt_of_le (Heap.lt_size (I.pin p hp).1) (by rw [z]; exact hb)) (Nat.lt_irrefl _)
structure Turn (P:Program) (w:World) (K:PySem.W.Frag) (tg:Expr) (J:It) (fp:List Addr) (it:Addr) (tn:Nat → Heap → Prop):Prop where
  mem:it ∈ fp
  obj:∀ i h,tn i h → ∀ b ∈ fp,∃ o,h.get? b = some o ∧ ∀ v,o.data ≠ .cell v
  keep:∀ i h h',tn i h → (∀ b ∈ fp,∀ o,h.get? b = some o → h'.get? b = some o) → tn i h'
  item:∀ (X:Cx),X.prog = P → X.w = w → X.K = K → X.calm = true → ∀ (i:Nat) (pins:List (Addr × Obj)) (s:Shared) (σ:St) (H:Hp) (E:Value → Shared → Prop),Inv X pins σ H s → (∀ b ∈ fp,FpOk X pins H b) → tn i s.heap → J.go i H →
    wpAny (model P w) X.A (pyNext (.ref it)) (fun r s1 => ∃ u,r = some u ∧
      wpAny (model P w) X.A (letOwnedTupleGo tg (.ref it) u) (fun _ s2 => ∃ x H',Inv X pins σ H' s2 ∧ RelV x u ∧ J.yld i H x H' ∧ tn (i + 1) s2.heap ∧ ∀ b ∈ fp,H' b = none) E s1) E s
  done:∀ (X:Cx),X.prog = P → X.w = w → X.K = K → X.calm = true → ∀ (i:Nat) (pins:List (Addr × Obj)) (s:Shared) (σ:St) (H:Hp) (E:Value → Shared → Prop),Inv X pins σ H s → (∀ b ∈ fp,FpOk X pins H b) → tn i s.heap → J.stop i H →
    wpAny (model P w) X.A (pyNext (.ref it)) (fun r s1 => r = none ∧ Inv X pins σ H s1) E s
  self:∀ (A:Around) (i:Nat) (s:Shared) (Q:Value → Shared → Prop) (E:Value → Shared → Prop),tn i s.heap → Q (.ref it) s → wpAny (model P w) A (pyIter (.ref it)) Q E s
abbrev TI:=St → Hp → (It → Hp → Prop) → Prop
def PIE (X:Cx) (pins:List (Addr × Obj)) (σ:St) (tg:Expr) (R:It → Hp → Prop) (itv:Value) (s2:Shared):Prop :=
  ∃ (it:Addr) (fp:List Addr) (tn:Nat → Heap → Prop) (J:It) (H':Hp),itv = .ref it ∧ Inv X pins σ H' s2 ∧ Turn X.prog X.w X.K tg J fp it tn ∧ tn 0 s2.heap ∧ (∀ b ∈ fp,FpOk X pins H' b) ∧ R J H'
def PI (X:Cx) (tg iter:Expr) (wi:TI):Prop :=
  ∀ (pins:List (Addr × Obj)) (s:Shared) (σ:St) (H:Hp) (R:It → Hp → Prop),Inv X pins σ H s → wi σ H R →
    wpAny (model X.prog X.w) X.A (eval iter X.env) (fun v s1 => wpAny (model X.prog X.w) X.A (pyIter v) (PIE X pins σ tg R) X.xe s1) X.xe s
theorem go_of {M:Model} {A:Around} {E:Value → Shared → Prop} {s:Shared} {tg:Expr} {it:Addr} {u:Value} {o:Obj} {n:String} {vs:Array Value} {Q:Unit → Shared → Prop} (ho:s.heap.get? it = some o) (hc:o.cls = .type n) (hd:o.data = .fields vs)
    (hn:["enumerate", "zip", "dict_itemiterator", "dict_reverseitemiterator", "odict_iterator", "itertools.zip_longest", "itertools.pairwise"].contains n = false) (hQ:Q () s):wpAny M A (letOwnedTupleGo tg (.ref it) u) Q E s:=by
  unfold letOwnedTupleGo
  cases tg <;> first
    | exact wpAny_pure hQ
    | (cases u <;> first
        | exact wpAny_pure hQ
        | (refine wpAny_bind (wpAny_load ho ?_)
           rw [hc,hd]
           show wpAny M A (if (["enumerate", "zip", "dict_itemiterator", "dict_reverseitemiterator", "odict_iterator", "itertools.zip_longest", "itertools.pairwise"].contains n && vs[0]? == some (rawInt _)) = true then _ else _) Q E s
           rw [if_neg (by intro h; rw [hn,Bool.false_and] at h; cases h)]
           exact wpAny_pure hQ))
def Itl (K:PySem.W.Frag) (a:Addr):It :=
  ⟨fun i H => ∃ xs x,SqL K H a xs ∧ xs[i]? = some x,fun i H x H' => H' = H ∧ ∀ xs,SqL K H a xs → xs[i]? = some x,fun i H => ∃ xs,SqL K H a xs ∧ xs.length ≤ i⟩
def Itr (lo:Int) (n:Nat):It:=⟨fun i _ => i < n,fun i H x H' => H' = H ∧ x = .int (lo + i),fun i _ => n ≤ i⟩
theorem turn_list {P:Program} {w:World} {K:PySem.W.Frag} {tg:Expr} (a it:Addr):Turn P w K tg (Itl K a) [it] it (fun i h => h.IsListIter it a i) where
  mem:=by simp
  obj:=fun i h st b hb => by
    have e:b = it:=by simpa using hb
    subst e
    obtain ⟨o,e,c,d⟩:=st
    exact ⟨o,e,fun v z => by rw [d] at z; cases z⟩
  keep:=fun i h h' st k => st.at fun o e => k it (by simp) o e
  item:=by
    intro X hP hw hK hc i pins s σ H E I hf st hg
    subst hP hw hK
    obtain ⟨xs,x,hq,hx⟩:=hg
    obtain ⟨its,rv,p,hz⟩:=I.list hq
    obtain ⟨u,hu,ru⟩:=rv.get hx
    obtain ⟨f0,f1,f2,f3,f4,f5⟩:=hf it (by simp)
    refine wpAny_pyNext_list_item st p.isList (x:=u) (by simpa using hu) fun h' st' sb => ?_
    have I1:Inv X pins σ H { s with heap:=h' }:=I.turned (t':=s.toks) (fun b o hb e => (sb.2 b hb).trans e) f0 f1 f3 f4 f5
    obtain ⟨o,e,c,d⟩:=id st'
    exact ⟨u,rfl,go_of (s:={ s with heap:=h' }) e c d (by decide) ⟨x,H,I1,ru,⟨rfl,fun ys hy => by rw [I.list_inj hy hq]; exact hx⟩,st',fun b hb => (hf b hb).1⟩⟩
  done:=by
    intro X hP hw hK hc i pins s σ H E I hf st hg
    subst hP hw hK
    obtain ⟨xs,hq,hx⟩:=hg
    obtain ⟨its,rv,p,hz⟩:=I.list hq
    obtain ⟨f0,f1,f2,f3,f4,f5⟩:=hf it (by simp)
    have hl:=rv.length
    exact wpAny_pyNext_list_end (I.ok.hd hc) st p.isList (by simp; omega) fun h' eb => ⟨rfl,I.turned (t':=s.toks) (fun b o hb e => eb b o hb e) f0 f1 f3 f4 f5⟩
  self:=fun _ _ _ _ _ st h => wpAny_pyIter_listiter st h
theorem turn_range {P:Program} {w:World} {K:PySem.W.Frag} {tg:Expr} (it:Addr) (lo:Int) (n:Nat):Turn P w K tg (Itr lo n) [it] it (fun i h => IsRangeIter h it (lo + (i:Nat) * 1) ((n:Int) - (i:Nat)) 1) where
  mem:=by simp
  obj:=fun i h st b hb => by
    have e:b = it:=by simpa using hb
    subst e
    exact ⟨_,st,fun v z => by
      have z':Data.fields _ = Data.cell v:=z
      cases z'⟩
  keep:=fun i h h' st k => k it (by simp) _ st
  item:=by
    intro X hP hw hK hc i pins s σ H E I hf st hg
    subst hP hw hK
    obtain ⟨f0,f1,f2,f3,f4,f5⟩:=hf it (by simp)
    have W:=Walks.range (prog:=X.prog) (w:=X.w) (I.ok.hd hc) it lo 1 n
    refine W.item i s _ _ hg st fun v h' tk hv st' kk => ?_
    obtain ⟨t,rfl⟩:=hv
    have I1:Inv X pins σ H { s with heap:=h',toks:=tk }:=I.turned (fun b o hb e => kk b o (by simpa using hb) e) f0 f1 f3 f4 f5
    refine ⟨_,rfl,go_of (s:={ s with heap:=h',toks:=tk }) (n := "range_iterator") st' rfl rfl (by decide) ⟨.int (lo + i),H,I1,⟨t,?_⟩,⟨rfl,rfl⟩,st',fun b hb => (hf b hb).1⟩⟩
    rw [Int.mul_one]
  done:=by
    intro X hP hw hK hc i pins s σ H E I hf st hg
    subst hP hw hK
    obtain ⟨f0,f1,f2,f3,f4,f5⟩:=hf it (by simp)
    exact wpAny_pyNext_range_end (I.ok.hd hc) st (by have:n ≤ i:=hg; omega) fun h' eb => ⟨rfl,I.turned (t':=s.toks) (fun b o hb e => eb b o hb e) f0 f1 f3 f4 f5⟩
  self:=fun _ _ _ _ _ st h => wpAny_pyIter_rangeiter st h
end L2
namespace L2
open PySem PySem.Spec PyProof.Rows
section
variable {X:Cx} {tg:Expr}
def iList (K:PySem.W.Frag) (tl:TE):TI:=fun σ H R => tl σ H fun x H1 => ∃ a,x = .ref a ∧ (∃ xs,SqL K H1 a xs) ∧ R (Itl K a) H1
theorem pi_list {l:Expr} {tl:TE} (hl:PE X l tl):PI X tg l (iList X.K tl):=by
  intro pins s σ H R I h
  refine thn (hl pins s σ H _ I h) fun v s1 ⟨x,H1,I1,r1,q1⟩ => ?_
  obtain ⟨a,e,⟨xs,hq⟩,q⟩:=q1
  subst e
  cases r1
  obtain ⟨its,rv,p,hz⟩:=I1.list hq
  refine wpAny_pyIter_list p.isList ?_
  refine ⟨s1.heap.objs.size,[s1.heap.objs.size],_,_,H1,rfl,I1.kept (t':=s1.toks) fun b o e => Heap.get?_push_of_some _ e,turn_list a _,⟨_,Heap.get?_push_size _ rfl,rfl,rfl⟩,fun b hb => ?_,q⟩
  have e:b = s1.heap.objs.size:=by simpa using hb
  subst e
  exact I1.fpOk (Nat.le_refl _) (I1.hok.fresh (Nat.le_refl _))
theorem range_it {pins:List (Addr × Obj)} {σ:St} {H:Hp} {s:Shared} {R:It → Hp → Prop} {E:Value → Shared → Prop} {lo hi:Int} {t u v:Tok} {tk:Nat} (I:Inv X pins σ H s) (h1:-(2 ^ 62) ≤ lo) (h2:lo < 2 ^ 62) (h3:-(2 ^ 62) ≤ hi) (h4:hi < 2 ^ 62)
    (q:R (Itr lo (hi - lo).toNat) H):wpAny (model X.prog X.w) X.A (pyIter (.ref s.heap.objs.size)) (PIE X pins σ tg R) E { s with heap:=s.heap.push { cls:=.type "range", data:=.fields #[.int lo t,.int hi u,.int 1 v] },toks:=tk }:=by
  refine wpAny_pyIter_range (IsRange.new ..) (small_one h1 h2 h3 h4) ?_
  have I1:Inv X pins σ H { s with heap:=s.heap.push { cls:=.type "range", data:=.fields #[.int lo t,.int hi u,.int 1 v] },toks:=tk }:=I.kept fun b o e => Heap.get?_push_of_some _ e
  refine ⟨(s.heap.push { cls:=.type "range", data:=.fields #[.int lo t,.int hi u,.int 1 v] }).objs.size,[(s.heap.push { cls:=.type "range", data:=.fields #[.int lo t,.int hi u,.int 1 v] }).objs.size],_,_,H,rfl,
    I1.kept (t':=tk) fun b o e => Heap.get?_push_of_some _ e,turn_range _ lo (hi - lo).toNat,?_,fun b hb => ?_,q⟩
  · have e1:lo + ((0:Nat):Int) * 1 = lo:=by simp
    have e2:(((hi - lo).toNat:Nat):Int) - ((0:Nat):Int) = Builtin.Range.rangeSize lo hi 1:=by rw [rangeSize_one]; split <;> omega
    show IsRangeIter _ _ (lo + ((0:Nat):Int) * 1) ((((hi - lo).toNat:Nat):Int) - ((0:Nat):Int)) 1
    rw [e1,e2]
    exact Heap.get?_push_size _ rfl
  · have e:b = (s.heap.push { cls:=.type "range", data:=.fields #[.int lo t,.int hi u,.int 1 v] }).objs.size:=by simpa using hb
    subst e
    exact I1.fpOk (Nat.le_refl _) (I1.hok.fresh (Nat.le_refl _))
def iRng1 (ta:TA):TI:=fun σ H R => ta σ H fun vs H1 => ∃ j:Int,vs = [.int j] ∧ -(2 ^ 62) ≤ j ∧ j < 2 ^ 62 ∧ R (Itr 0 j.toNat) H1
def iRng2 (ta:TA):TI:=fun σ H R => ta σ H fun vs H1 => ∃ i j:Int,vs = [.int i,.int j] ∧ (-(2 ^ 62) ≤ i ∧ i < 2 ^ 62 ∧ -(2 ^ 62) ≤ j ∧ j < 2 ^ 62) ∧ R (Itr i (j - i).toNat) H1
theorem pi_range1 {a:Expr} {ta:TA} {p pos:Pos} (hg:Gl X "range") (hm:X.mg "range" = none) (ha:PA X [a] ta) (hs:starEach [a] X.env = [(false,eval a X.env)]:=by rfl):PI X tg (.Call (.Name "range" p) [a] [] pos) (iRng1 ta):=by
  intro pins s σ H R I h
  refine Call_ (ld_blt I hg hm boot_range (PyProof.Rows.callWith_type1 (thn (ha pos pins s σ H _ I h) fun us s1 ⟨vs,H1,I1,r1,q1⟩ => ?_) hs rfl))
  obtain ⟨j,e,q1,q2,q⟩:=q1
  subst e
  cases r1 with
  | cons r rr =>
    cases rr
    obtain ⟨t,rfl⟩:=r
    exact call_range_1 (range_it I1 (by omega) (by omega) q1 q2 (by simpa using q))
theorem pi_range2 {a b:Expr} {ta:TA} {p pos:Pos} (hg:Gl X "range") (hm:X.mg "range" = none) (ha:PA X [a,b] ta) (hs:starEach [a,b] X.env = [(false,eval a X.env),(false,eval b X.env)]:=by rfl) (hs2:starEach [b] X.env = [(false,eval b X.env)]:=by rfl) :
    PI X tg (.Call (.Name "range" p) [a,b] [] pos) (iRng2 ta):=by
  intro pins s σ H R I h
  refine Call_ (ld_blt I hg hm boot_range (PyProof.Rows.callWith_type1 (thn (ha pos pins s σ H _ I h) fun us s1 ⟨vs,H1,I1,r1,q1⟩ => ?_) (by rw [hs,hs2]) (by rw [hs2]; rfl)))
  obtain ⟨i,j,e,⟨q1,q2,q3,q4⟩,q⟩:=q1
  subst e
  cases r1 with
  | cons r rr =>
    cases rr with
    | cons r' rr =>
      cases rr
      obtain ⟨t,rfl⟩:=r
      obtain ⟨t',rfl⟩:=r'
      exact call_range_2 (range_it I1 q1 q2 q3 q4 q)
def tFor (wi:TI) (g:TG) (tb:TS):TS:=fun D σ H => wi σ H fun J H1 => ∃ W:Nat → Nat → St → Hp → Prop,(∃ m,W 0 m σ H1) ∧ ∀ i m σ H,W i m σ H →
  (J.stop i H ∧ D.nx σ H) ∨ (J.go i H ∧ ∃ N:St → Hp → Prop,(∀ σ' H',N σ' H' → ∃ m',m' < m ∧ W (i + 1) m' σ' H') ∧ ∀ x H',J.yld i H x H' → g x σ H' fun σ2 H2 => tb { D with nx:=N,ct:=N,bk:=D.nx } σ2 H2)
def pinsAt (fp:List Addr) (h:Heap):List (Addr × Obj):=fp.filterMap fun b => (h.get? b).map fun o => (b,o)
theorem mem_pinsAt {fp:List Addr} {h:Heap} {b:Addr} {o:Obj} (hb:b ∈ fp) (e:h.get? b = some o):(b,o) ∈ pinsAt fp h:=List.mem_filterMap.mpr ⟨b,hb,by rw [e]; rfl⟩
theorem of_pinsAt {fp:List Addr} {h:Heap} {p:Addr × Obj} (hp:p ∈ pinsAt fp h):p.1 ∈ fp ∧ h.get? p.1 = some p.2:=by
  obtain ⟨b,hb,e⟩:=List.mem_filterMap.mp hp
  cases q:h.get? b with
  | none => rw [q] at e; cases e
  | some o =>
    rw [q] at e
    have e':(b,o) = p:=Option.some.inj e
    subst e'
    exact ⟨hb,q⟩
theorem Inv.pinned {pins:List (Addr × Obj)} {σ:St} {H:Hp} {s:Shared} {fp:List Addr} (I:Inv X pins σ H s) (hf:∀ b ∈ fp,FpOk X pins H b) (ho:∀ b ∈ fp,∃ o,s.heap.get? b = some o ∧ ∀ v,o.data ≠ .cell v):Inv X (pins ++ pinsAt fp s.heap) σ H s :=
  I.pins_of fun p hp => (List.mem_append.mp hp).elim (fun z => I.pin p (List.mem_append_right _ z)) fun z => by
    obtain ⟨hb,e⟩:=of_pinsAt z
    obtain ⟨f0,f1,f2,_⟩:=hf p.1 hb
    obtain ⟨o,e',d⟩:=ho p.1 hb
    rw [e] at e'; cases e'
    exact ⟨e,f0,f1,f2,d⟩
theorem Inv.unpinned {pins pl:List (Addr × Obj)} {σ:St} {H:Hp} {s:Shared} (I:Inv X (pins ++ pl) σ H s):Inv X pins σ H s:=I.pins_of fun p hp => I.pin p (List.mem_append_right _ (List.mem_append_left _ hp))
theorem ps_for {iter:Expr} {body:List Stmt} {wi:TI} {g:TG} {tb:TS} {pos:Pos} (hp:PassesOwn (model X.prog X.w) X.A X.env X.xe) (hc:X.calm = true) (hi:PI X tg iter wi) (hg:PG X tg g) (hb:PSs X body tb)
    (hs:∀ x,foldedSetIterable iter X.env x = pure x:=by intro _; rfl):PS X (.For tg iter body [] pos) (tFor wi g tb):=by
  intro pins s σ H D I h
  refine wpAny_For (thn (hi pins s σ H _ I h) fun v s1 h1 => thn h1 fun itv s2 h2 => ?_) hs
  obtain ⟨it,fp,tn,J,H2,e,I2,T,st2,f2,W,⟨m0,w0⟩,turn⟩:=h2
  subst e
  have stat:∀ {H':Hp},(∀ b ∈ fp,H' b = none) → ∀ b ∈ fp,FpOk X pins H' b:=fun hn b hb => ⟨hn b hb,(f2 b hb).2⟩
  refine codeAny_forLoop_any (fun n s' => ∃ i σ' H',Inv X pins σ' H' s' ∧ tn i s'.heap ∧ (∀ b ∈ fp,H' b = none) ∧ W i n σ' H') ?_ m0 ⟨0,σ,H2,I2,st2,fun b hb => (f2 b hb).1,w0⟩
  rintro n s3 ⟨i,σ3,H3,I3,st3,fr3,w3⟩
  rcases turn i n σ3 H3 w3 with ⟨stop,qn⟩ | ⟨go,N,hN,step⟩
  · refine wpAny_passesOwn hp (thn (T.done X rfl rfl rfl hc i pins s3 σ3 H3 X.xe I3 (stat fr3) st3 stop) fun r s4 ⟨hr,I4⟩ => ?_)
    subst hr
    exact wpAny_execs_nil ⟨σ3,H3,I4,qn⟩
  · refine wpAny_passesOwn hp (thn (T.item X rfl rfl rfl hc i pins s3 σ3 H3 X.xe I3 (stat fr3) st3 go) fun r s4 ⟨u,hr,h4⟩ => ?_)
    subst hr
    refine wpAny_passesOwn hp (thn h4 fun _ s5 ⟨x,H5,I5,r5,y5,st5,fr5⟩ => ?_)
    have I5':=I5.pinned (stat fr5) (T.obj _ _ st5)
    refine wpAny_passesOwn hp (thn (hg _ s5 σ3 H5 x u _ I5' r5 (step x H5 y5)) fun _ s6 ⟨σ6,H6,I6,q6⟩ => ?_)
    refine wpAny_passesOwn hp (thn (hb _ s6 σ6 H6 _ I6 q6) fun f s7 q7 => ?_)
    have again:∀ {σ7:St} {H7:Hp},Inv X (pins ++ pinsAt fp s5.heap) σ7 H7 s7 → N σ7 H7 → ∃ m,m < n ∧ ∃ i σ' H',Inv X pins σ' H' s7 ∧ tn i s7.heap ∧ (∀ b ∈ fp,H' b = none) ∧ W i m σ' H':=fun {σ7 H7} I7 n7 => by
      obtain ⟨m',hm,w7⟩:=hN σ7 H7 n7
      refine ⟨m',hm,i + 1,σ7,H7,I7.unpinned,T.keep _ _ _ st5 fun b hb o e => (I7.pin (b,o) (List.mem_append_right _ (List.mem_append_right _ (mem_pinsAt hb e)))).1,fun b hb => ?_,w7⟩
      obtain ⟨o,e,d⟩:=T.obj _ _ st5 b hb
      exact (I7.pin (b,o) (List.mem_append_right _ (List.mem_append_right _ (mem_pinsAt hb e)))).2.1
    cases f with
    | next => obtain ⟨σ7,H7,I7,n7⟩:=q7; exact again I7 n7
    | cont => obtain ⟨σ7,H7,I7,n7⟩:=q7; exact again I7 n7
    | brk => obtain ⟨σ7,H7,I7,q7⟩:=q7; exact ⟨σ7,H7,I7.unpinned,q7⟩
    | ret v => obtain ⟨x7,σ7,H7,I7,r7,q7⟩:=q7; exact ⟨x7,σ7,H7,I7.unpinned,r7,q7⟩
end
theorem for_list {K:PySem.W.Frag} {a:Addr} {xs:List V} {g:TG} {tb:TS} {D:Ends} {σ:St} {H:Hp} (Pv:Nat → St → Hp → Prop) (h0:Pv 0 σ H) (hl:∀ i σ H,i ≤ xs.length → Pv i σ H → SqL K H a xs)
    (hs:∀ i x σ H,xs[i]? = some x → Pv i σ H → g x σ H fun σ2 H2 => tb { D with nx:=Pv (i + 1),ct:=Pv (i + 1),bk:=D.nx } σ2 H2) (hd:∀ σ H,Pv xs.length σ H → D.nx σ H) :
    ∃ W:Nat → Nat → St → Hp → Prop,(∃ m,W 0 m σ H) ∧ ∀ i m σ H,W i m σ H →
      ((Itl K a).stop i H ∧ D.nx σ H) ∨ ((Itl K a).go i H ∧ ∃ N:St → Hp → Prop,(∀ σ' H',N σ' H' → ∃ m',m' < m ∧ W (i + 1) m' σ' H') ∧ ∀ x H',(Itl K a).yld i H x H' → g x σ H' fun σ2 H2 => tb { D with nx:=N,ct:=N,bk:=D.nx } σ2 H2):=by
  refine ⟨fun i m σ H => m = xs.length - i ∧ i ≤ xs.length ∧ Pv i σ H,⟨xs.length,by simp,Nat.zero_le _,h0⟩,?_⟩
  rintro i m σ H ⟨rfl,hi,p⟩
  have q:=hl i σ H hi p
  by_cases hlt:i < xs.length
  · refine .inr ⟨⟨xs,xs[i],q,by simp [hlt]⟩,Pv (i + 1),fun σ' H' p' => ⟨xs.length - (i + 1),by omega,rfl,hlt,p'⟩,fun x H' y => ?_⟩
    obtain ⟨e,y⟩:=y
    subst e
    exact hs i x σ _ (y xs q) p
  · have e:i = xs.length:=by omega
    subst e
    exact .inl ⟨⟨xs,q,Nat.le_refl _⟩,hd σ H p⟩
theorem for_range {lo:Int} {n:Nat} {g:TG} {tb:TS} {D:Ends} {σ:St} {H:Hp} (Pv:Nat → St → Hp → Prop) (h0:Pv 0 σ H)
    (hs:∀ i σ H,i < n → Pv i σ H → g (.int (lo + i)) σ H fun σ2 H2 => tb { D with nx:=Pv (i + 1),ct:=Pv (i + 1),bk:=D.nx } σ2 H2) (hd:∀ σ H,Pv n σ H → D.nx σ H) :
    ∃ W:Nat → Nat → St → Hp → Prop,(∃ m,W 0 m σ H) ∧ ∀ i m σ H,W i m σ H →
      ((Itr lo n).stop i H ∧ D.nx σ H) ∨ ((Itr lo n).go i H ∧ ∃ N:St → Hp → Prop,(∀ σ' H',N σ' H' → ∃ m',m' < m ∧ W (i + 1) m' σ' H') ∧ ∀ x H',(Itr lo n).yld i H x H' → g x σ H' fun σ2 H2 => tb { D with nx:=N,ct:=N,bk:=D.nx } σ2 H2):=by
  refine ⟨fun i m σ H => m = n - i ∧ i ≤ n ∧ Pv i σ H,⟨n,by simp,Nat.zero_le _,h0⟩,?_⟩
  rintro i m σ H ⟨rfl,hi,p⟩
  by_cases hlt:i < n
  · refine .inr ⟨hlt,Pv (i + 1),fun σ' H' p' => ⟨n - (i + 1),by omega,rfl,hlt,p'⟩,fun x H' y => ?_⟩
    obtain ⟨e,y⟩:=y
    subst e y
    exact hs i σ _ hlt p
  · have e:i = n:=by omega
    subst e
    exact .inl ⟨Nat.le_refl _,hd σ H p⟩
end L2
namespace L2
open PySem PySem.Spec PyProof.Rows
abbrev R2:=V → V → Hp → VK → Prop
def OpR (X:Cx) (f:Value → Value → Sem Value) (r:R2):Prop :=
  ∀ (pins:List (Addr × Obj)) (s:Shared) (σ:St) (H:Hp) (x y:V) (v u:Value) (Q:VK),Inv X pins σ H s → RelV x v → RelV y u → r x y H Q →
    wpAny (model X.prog X.w) X.A (f v u) (EP X pins σ Q) X.xe s
def UnR (X:Cx) (f:Value → Sem Value) (r:V → Hp → VK → Prop):Prop :=
  ∀ (pins:List (Addr × Obj)) (s:Shared) (σ:St) (H:Hp) (x:V) (v:Value) (Q:VK),Inv X pins σ H s → RelV x v → r x H Q →
    wpAny (model X.prog X.w) X.A (f v) (EP X pins σ Q) X.xe s
def CallR (X:Cx) (f:Value) (r:List V → Hp → VK → Prop):Prop :=
  ∀ (pins:List (Addr × Obj)) (s:Shared) (σ:St) (H:Hp) (xs:List V) (us:List Value) (Q:VK),Inv X pins σ H s → Vals xs us → r xs H Q →
    wpAny (model X.prog X.w) X.A (call f us) (EP X pins σ Q) X.xe s
def tOp (r:R2) (ta tb:TE):TE:=fun σ H Q => ta σ H fun x H1 => tb σ H1 fun y H2 => r x y H2 Q
def tUn (r:V → Hp → VK → Prop) (ta:TE):TE:=fun σ H Q => ta σ H fun x H1 => r x H1 Q
def rI (C:Int → Int → Prop) (g:Int → Int → V):R2:=fun x y H Q => ∃ i j,x = .int i ∧ y = .int j ∧ C i j ∧ Q (g i j) H
def rI0 (g:Int → Int → V):R2:=fun x y H Q => ∃ i j,x = .int i ∧ y = .int j ∧ Q (g i j) H
def rU (g:Int → V):V → Hp → VK → Prop:=fun x H Q => ∃ i,x = .int i ∧ Q (g i) H
section
variable {X:Cx} {a b c:Expr} {ta tb tc:TE} {pos:Pos}
theorem binT (ha:PE X a ta) (hb:PE X b tb) {pins:List (Addr × Obj)} {s:Shared} {σ:St} {H:Hp} {R:V → V → Hp → Prop} (I:Inv X pins σ H s)
    (h:ta σ H fun x H1 => tb σ H1 fun y H2 => R x y H2) {Q:Value → Shared → Prop} {f:Value → Value → Sem Value}
    (hf:∀ v u s2 x y H2,Inv X pins σ H2 s2 → RelV x v → RelV y u → R x y H2 → wpAny (model X.prog X.w) X.A (f v u) Q X.xe s2) :
    wpAny (model X.prog X.w) X.A (eval a X.env) (fun v s₁ => wpAny (model X.prog X.w) X.A (eval b X.env) (fun u s₂ => wpAny (model X.prog X.w) X.A (f v u) Q X.xe s₂) X.xe s₁) X.xe s:=by
  refine thn (ha pins s σ H _ I h) fun v s1 ⟨x,H1,I1,r1,q1⟩ => ?_
  refine thn (hb pins s1 σ H1 _ I1 q1) fun u s2 ⟨y,H2,I2,r2,q2⟩ => ?_
  exact hf v u s2 x y H2 I2 r1 r2 q2
theorem pe_op {op:Operator} {r:R2} (ho:OpR X (binaryOp op) r) (ha:PE X a ta) (hb:PE X b tb):PE X (.BinOp a op b pos) (tOp r ta tb):=by
  intro pins s σ H Q I h
  exact wpAny_BinOp (binT ha hb I h fun v u s2 x y H2 I2 rx ry q => ho pins s2 σ H2 x y v u Q I2 rx ry q)
theorem pe_un {op:UnaryOp} {r:V → Hp → VK → Prop} (ho:UnR X (unaryOp op) r) (ha:PE X a ta):PE X (.UnaryOp op a pos) (tUn r ta):=by
  intro pins s σ H Q I h
  exact UnaryOp_ (thn (ha pins s σ H _ I h) fun v s1 ⟨x,H1,I1,r1,q1⟩ => ho pins s1 σ H1 x v Q I1 r1 q1)
theorem opI {f:Value → Value → Sem Value} {C:Int → Int → Prop} {g:Int → Int → Int}
    (rule:∀ (i j:Int) (t u:Tok) (s:Shared) (Q:Value → Shared → Prop) (E:Value → Shared → Prop),C i j → Q (.int (g i j) s.toks) { s with toks:=s.toks + 1 } → wpAny (model X.prog X.w) X.A (f (.int i t) (.int j u)) Q E s) :
    OpR X f (rI C fun i j => .int (g i j)):=by
  intro pins s σ H x y v u Q I rx ry h
  obtain ⟨i,j,rfl,rfl,hc,q⟩:=h
  obtain ⟨t,rfl⟩:=rx
  obtain ⟨t',rfl⟩:=ry
  exact rule i j t t' s _ _ hc ⟨.int (g i j),H,I.tok _,⟨_,rfl⟩,q⟩
theorem opI0 {f:Value → Value → Sem Value} {g:Int → Int → Int}
    (rule:∀ (i j:Int) (t u:Tok) (s:Shared) (Q:Value → Shared → Prop) (E:Value → Shared → Prop),Q (.int (g i j) s.toks) { s with toks:=s.toks + 1 } → wpAny (model X.prog X.w) X.A (f (.int i t) (.int j u)) Q E s) :
    OpR X f (rI0 fun i j => .int (g i j)):=by
  intro pins s σ H x y v u Q I rx ry h
  obtain ⟨i,j,rfl,rfl,q⟩:=h
  obtain ⟨t,rfl⟩:=rx
  obtain ⟨t',rfl⟩:=ry
  exact rule i j t t' s _ _ ⟨.int (g i j),H,I.tok _,⟨_,rfl⟩,q⟩
theorem opB0 {f:Value → Value → Sem Value} {g:Int → Int → Bool}
    (rule:∀ (i j:Int) (t u:Tok) (s:Shared) (Q:Value → Shared → Prop) (E:Value → Shared → Prop),Q (.bool (g i j)) s → wpAny (model X.prog X.w) X.A (f (.int i t) (.int j u)) Q E s) :
    OpR X f (rI0 fun i j => .bl (g i j)):=by
  intro pins s σ H x y v u Q I rx ry h
  obtain ⟨i,j,rfl,rfl,q⟩:=h
  obtain ⟨t,rfl⟩:=rx
  obtain ⟨t',rfl⟩:=ry
  exact rule i j t t' s _ _ ⟨.bl (g i j),H,I,rfl,q⟩
def CDiv (i j:Int):Prop:=0 < j ∧ j < 1073741824
def CPow (i j:Int):Prop:=0 ≤ j ∧ j ≤ 1000000 ∧ i.natAbs < 2 ^ 64
def CMul (i j:Int):Prop:=(-(2 ^ 64) < i ∧ i < 2 ^ 64) ∨ (-(2 ^ 64) < j ∧ j < 2 ^ 64)
theorem CMul.ok {i j:Int} (h:CMul i j):IntMulOk i j:=by
  rcases h with ⟨h1,h2⟩ | ⟨h1,h2⟩
  · exact .of_left (intBits_le_64 h1 h2)
  · exact .of_right (intBits_le_64 h1 h2)
theorem two_pow_nn (k:Nat):(0:Int) ≤ 2 ^ k:=by
  rw [two_pow_cast]
  exact Int.natCast_nonneg _
theorem op_add:OpR X (binaryOp .Add) (rI0 fun i j => .int (i + j)):=opI0 fun _ _ _ _ _ _ _ q => add_int q
theorem op_sub:OpR X (binaryOp .Sub) (rI0 fun i j => .int (i - j)):=opI0 fun _ _ _ _ _ _ _ q => sub_int q
theorem op_mul:OpR X (binaryOp .Mult) (rI CMul fun i j => .int (i * j)):=opI fun _ _ _ _ _ _ _ hc q => mul_int q hc.ok
theorem op_fdiv:OpR X (binaryOp .FloorDiv) (rI CDiv fun i j => .int (i / j)):=opI fun i j _ _ _ _ _ hc q => by
  have h1:(0:Int) < j:=hc.1
  have h2:j < 1073741824:=hc.2
  exact floordiv_int (by omega) (by rw [Int.fdiv_eq_ediv_of_nonneg i (by omega)]; exact q) (.inl (PyProof.noPylong_small (by omega)))
theorem op_mod:OpR X (binaryOp .Mod) (rI (fun _ j => 0 < j) fun i j => .int (i % j)):=opI fun i j _ _ _ _ _ hc q => by
  have h1:(0:Int) < j:=hc
  exact mod_int' (by omega) (by rw [Int.fmod_eq_emod_of_nonneg i (by omega)]; exact q)
theorem op_modN:OpR X (binaryOp .Mod) (rI (fun _ j => j ≠ 0) fun i j => .int (i.fmod j)):=opI fun _ _ _ _ _ _ _ hc q => mod_int' hc q
theorem op_pow:OpR X (binaryOp .Pow) (rI CPow fun i j => .int (i ^ j.toNat)):=opI fun _ _ _ _ _ _ _ hc q => pow_int_small hc.1 hc.2.1 hc.2.2 q
theorem op_shr:OpR X (binaryOp .RShift) (rI (fun _ j => 0 ≤ j) fun i j => .int (i / 2 ^ j.toNat)):=opI fun i j _ _ _ _ _ hc q =>
  rshift_int hc (by rw [Int.fdiv_eq_ediv_of_nonneg i (two_pow_nn _)]; exact q)
theorem unI {f:Value → Sem Value} {g:Int → Int}
    (rule:∀ (i:Int) (t:Tok) (s:Shared) (Q:Value → Shared → Prop) (E:Value → Shared → Prop),Q (.int (g i) s.toks) { s with toks:=s.toks + 1 } → wpAny (model X.prog X.w) X.A (f (.int i t)) Q E s) :
    UnR X f (rU fun i => .int (g i)):=by
  intro pins s σ H x v Q I rx h
  obtain ⟨i,rfl,q⟩:=h
  obtain ⟨t,rfl⟩:=rx
  exact rule i t s _ _ ⟨.int (g i),H,I.tok _,⟨_,rfl⟩,q⟩
theorem un_neg:UnR X (unaryOp .USub) (rU fun i => .int (-i)):=unI fun _ _ _ _ _ q => neg_int q
end
def scal:V → V → Bool
  | .non,.non => true | .non,.int _ => true | .int _,.non => true | .non,.bl _ => true | .bl _,.non => true | .non,.str _ => true | .str _,.non => true
  | .int _,.int _ => true | .bl _,.bl _ => true | .str _,.str _ => true | .byt _,.byt _ => true
  | .int _,.str _ => true | .str _,.int _ => true | .bl _,.str _ => true | .str _,.bl _ => true
  | _,_ => false
def rEq:R2:=fun x y H Q => scal x y = true ∧ Q (.bl (decide (x = y))) H
def rNe:R2:=fun x y H Q => scal x y = true ∧ Q (.bl (!decide (x = y))) H
theorem dec_int {i j:Int}:decide (V.int i = V.int j) = (i == j):=by
  rw [Bool.eq_iff_iff]
  simp
theorem dec_bl {i j:Bool}:decide (V.bl i = V.bl j) = (i == j):=by
  rw [Bool.eq_iff_iff]
  simp
theorem dec_str {i j:Str}:decide (V.str i = V.str j) = (i == j):=by
  rw [Bool.eq_iff_iff]
  simp
theorem dec_byt {i j:Array UInt8}:decide (V.byt i = V.byt j) = (i.toList == j.toList):=by
  rw [Bool.eq_iff_iff]
  cases i
  cases j
  simp
section
variable {X:Cx} {a b c:Expr} {ta tb tc:TE} {pos:Pos}
theorem fin_bl {pins:List (Addr × Obj)} {σ:St} {H:Hp} {s:Shared} {Q:VK} {k k':Bool} (I:Inv X pins σ H s) (q:Q (.bl k) H) (e:k = k'):EP X pins σ Q (.bool k') s:=by
  subst e
  exact ⟨.bl k,H,I,rfl,q⟩
theorem op_eq:OpR X (compareOp .Eq) rEq:=by
  intro pins s σ H x y v u Q I rx ry h
  obtain ⟨hs,q⟩:=h
  cases x with
  | non =>
    cases rx
    cases y with
    | non => cases ry; exact PySem.EqNone.eq_none_none (fin_bl I q (by simp))
    | bl j => cases ry; exact PySem.EqNone.eq_none_bool (fin_bl I q (by simp))
    | int j => obtain ⟨t',rfl⟩:=ry; exact PySem.EqNone.eq_none_int (fin_bl I q (by simp))
    | str j => obtain ⟨t',rfl⟩:=ry; exact PySem.EqNone.eq_none_str (fin_bl I q (by simp))
    | _ => exact absurd (show false = true from hs) Bool.false_ne_true
  | bl i =>
    cases rx
    cases y with
    | non => cases ry; exact PySem.EqNone.eq_bool_none (fin_bl I q (by simp))
    | bl j => cases ry; exact eq_bool (fin_bl I q dec_bl)
    | str j => obtain ⟨t',rfl⟩:=ry; exact PySem.EqMixed.eq_bool_str (fin_bl I q (by simp))
    | _ => exact absurd (show false = true from hs) Bool.false_ne_true
  | int i =>
    obtain ⟨t,rfl⟩:=rx
    cases y with
    | non => cases ry; exact PySem.EqNone.eq_int_none (fin_bl I q (by simp))
    | int j => obtain ⟨t',rfl⟩:=ry; exact eq_int (fin_bl I q dec_int)
    | str j => obtain ⟨t',rfl⟩:=ry; exact PySem.EqMixed.eq_int_str (fin_bl I q (by simp))
    | _ => exact absurd (show false = true from hs) Bool.false_ne_true
  | str i =>
    obtain ⟨t,rfl⟩:=rx
    cases y with
    | non => cases ry; exact PySem.EqNone.eq_str_none (fin_bl I q (by simp))
    | bl j => cases ry; exact PySem.EqMixed.eq_str_bool (fin_bl I q (by simp))
    | int j => obtain ⟨t',rfl⟩:=ry; exact PySem.EqMixed.eq_str_int (fin_bl I q (by simp))
    | str j => obtain ⟨t',rfl⟩:=ry; exact eq_str (fin_bl I q dec_str)
    | _ => exact absurd (show false = true from hs) Bool.false_ne_true
  | byt i =>
    obtain ⟨t,rfl⟩:=rx
    cases y with
    | byt j => obtain ⟨t',rfl⟩:=ry; exact PySem.W.eq_bytes (fin_bl I q dec_byt)
    | _ => exact absurd (show false = true from hs) Bool.false_ne_true
  | _ => cases y <;> exact absurd (show false = true from hs) Bool.false_ne_true
theorem op_ne:OpR X (compareOp .NotEq) rNe:=by
  intro pins s σ H x y v u Q I rx ry h
  obtain ⟨hs,q⟩:=h
  cases x with
  | non =>
    cases rx
    cases y with
    | non => cases ry; exact PySem.EqNone.ne_none_none (fin_bl I q (by simp))
    | bl j => cases ry; exact PySem.EqNone.ne_none_bool (fin_bl I q (by simp))
    | int j => obtain ⟨t',rfl⟩:=ry; exact PySem.EqNone.ne_none_int (fin_bl I q (by simp))
    | str j => obtain ⟨t',rfl⟩:=ry; exact PySem.EqNone.ne_none_str (fin_bl I q (by simp))
    | _ => exact absurd (show false = true from hs) Bool.false_ne_true
  | bl i =>
    cases rx
    cases y with
    | non => cases ry; exact PySem.EqNone.ne_bool_none (fin_bl I q (by simp))
    | bl j => cases ry; exact ne_bool (fin_bl I q (congrArg not dec_bl))
    | str j => obtain ⟨t',rfl⟩:=ry; exact PySem.EqMixed.ne_bool_str (fin_bl I q (by simp))
    | _ => exact absurd (show false = true from hs) Bool.false_ne_true
  | int i =>
    obtain ⟨t,rfl⟩:=rx
    cases y with
    | non => cases ry; exact PySem.EqNone.ne_int_none (fin_bl I q (by simp))
    | int j => obtain ⟨t',rfl⟩:=ry; exact ne_int (fin_bl I q (congrArg not dec_int))
    | str j => obtain ⟨t',rfl⟩:=ry; exact PySem.EqMixed.ne_int_str (fin_bl I q (by simp))
    | _ => exact absurd (show false = true from hs) Bool.false_ne_true
  | str i =>
    obtain ⟨t,rfl⟩:=rx
    cases y with
    | non => cases ry; exact PySem.EqNone.ne_str_none (fin_bl I q (by simp))
    | bl j => cases ry; exact PySem.EqMixed.ne_str_bool (fin_bl I q (by simp))
    | int j => obtain ⟨t',rfl⟩:=ry; exact PySem.EqMixed.ne_str_int (fin_bl I q (by simp))
    | str j => obtain ⟨t',rfl⟩:=ry; exact ne_str (fin_bl I q (congrArg not dec_str))
    | _ => exact absurd (show false = true from hs) Bool.false_ne_true
  | byt i =>
    obtain ⟨t,rfl⟩:=rx
    cases y with
    | byt j => obtain ⟨t',rfl⟩:=ry; exact PySem.W.ne_bytes (fin_bl I q (congrArg not dec_byt))
    | _ => exact absurd (show false = true from hs) Bool.false_ne_true
  | _ => cases y <;> exact absurd (show false = true from hs) Bool.false_ne_true
theorem op_lt:OpR X (compareOp .Lt) (rI0 fun i j => .bl (decide (i < j))):=opB0 fun _ _ _ _ _ _ _ q => lt_int q
theorem op_le:OpR X (compareOp .LtE) (rI0 fun i j => .bl (decide (i ≤ j))):=opB0 fun _ _ _ _ _ _ _ q => le_int q
theorem op_gt:OpR X (compareOp .Gt) (rI0 fun i j => .bl (decide (j < i))):=opB0 fun _ _ _ _ _ _ _ q => gt_int q
theorem op_ge:OpR X (compareOp .GtE) (rI0 fun i j => .bl (decide (j ≤ i))):=opB0 fun _ _ _ _ _ _ _ q => ge_int q
theorem OpR.or {f:Value → Value → Sem Value} {r r':R2} (h:OpR X f r) (h':OpR X f r'):OpR X f (fun x y H Q => r x y H Q ∨ r' x y H Q):=by
  intro pins s σ H x y v u Q I rx ry q
  rcases q with q | q
  · exact h pins s σ H x y v u Q I rx ry q
  · exact h' pins s σ H x y v u Q I rx ry q
theorem nomark (b:Expr) {op:CmpOp} (h:op ≠ .In:=by decide) (h2:op ≠ .NotIn:=by decide):behindInMarks op b = false:=by
  have e1:(op == CmpOp.In) = false:=by cases op <;> first | rfl | exact absurd rfl h
  have e2:(op == CmpOp.NotIn) = false:=by cases op <;> first | rfl | exact absurd rfl h2
  cases b <;> simp [behindInMarks,e1,e2]
theorem pe_cmpR {op:CmpOp} {r:R2} (ho:OpR X (compareOp op) r) (ha:PE X a ta) (hb:PE X b tb) (hm:behindInMarks op b = false):PE X (.Compare a [op] [b] pos) (tOp r ta tb):=by
  intro pins s σ H Q I h
  exact wpAny_Compare1 (binT ha hb I h fun v u s2 x y H2 I2 rx ry q => ho pins s2 σ H2 x y v u Q I2 rx ry q) hm
def tTest (t:TE):TT:=fun σ H Q => t σ H fun x H' => ∃ k,x = .bl k ∧ Q k H'
theorem pt_cmpR {op:CmpOp} {r:R2} (ho:OpR X (compareOp op) r) (ha:PE X a ta) (hb:PE X b tb) (hm:behindInMarks op b = false):PT X (.Compare a [op] [b] pos) (tTest (tOp r ta tb)):=by
  intro pins s σ H Q I h
  refine wpAny_isTrue_Compare1 (thn (ha pins s σ H _ I h) fun v s1 ⟨x,H1,I1,r1,q1⟩ => thn (hb pins s1 σ H1 _ I1 q1) fun u s2 ⟨y,H2,I2,r2,q2⟩ =>
    thn (ho pins s2 σ H2 x y v u _ I2 r1 r2 q2) fun c s3 ⟨z,H3,I3,r3,k,e,q3⟩ => ?_) hm
  subst e
  cases r3
  exact wpAny_truthy_bool ⟨H3,I3,q3⟩
def tChain (r r':R2) (ta tb tc:TE):TE:=fun σ H Q => ta σ H fun x H1 => tb σ H1 fun y H2 => r x y H2 fun z H3 => ∃ k,z = .bl k ∧
  (if k = true then tc σ H3 fun w' H4 => r' y w' H4 Q else Q (.bl false) H3)
theorem pe_chain {op op':CmpOp} {r r':R2} (ho:OpR X (compareOp op) r) (ho':OpR X (compareOp op') r') (ha:PE X a ta) (hb:PE X b tb) (hc:PE X c tc)
    (hm:lastMarks [op,op'] [b,c] = false:=by with_unfolding_all rfl):PE X (.Compare a [op,op'] [b,c] pos) (tChain r r' ta tb tc):=by
  intro pins s σ H Q I h
  refine Compare_chain (thn (ha pins s σ H _ I h) fun v s1 ⟨x,H1,I1,r1,q1⟩ => chain_link (thn (hb pins s1 σ H1 _ I1 q1) fun u s2 ⟨y,H2,I2,r2,q2⟩ =>
    thn (ho pins s2 σ H2 x y v u _ I2 r1 r2 q2) fun d s3 ⟨z,H3,I3,r3,k,e,q3⟩ => ?_)) hm
  subst e
  cases r3
  refine wpAny_truthy_bool ?_
  cases k with
  | false => exact ite_ff ⟨.bl false,H3,I3,rfl,q3⟩
  | true => exact ite_tt (chain_last (thn (hc pins s3 σ H3 _ I3 q3) fun w' s4 ⟨z',H4,I4,r4,q4⟩ => ho' pins s4 σ H4 y z' u w' Q I4 r2 r4 q4))
theorem line63:(sizeLine:Nat) < 2 ^ 63:=by rw [sizeLine_eq]; decide
theorem vals1 {x:V} {us:List Value} (r:Vals [x] us):∃ u,us = [u] ∧ RelV x u:=by
  cases r with
  | cons r1 r2 => cases r2; exact ⟨_,rfl,r1⟩
theorem vals2 {x y:V} {us:List Value} (r:Vals [x,y] us):∃ u w',us = [u,w'] ∧ RelV x u ∧ RelV y w':=by
  cases r with
  | cons r1 r2 =>
    cases r2 with
    | cons r3 r4 => cases r4; exact ⟨_,_,rfl,r1,r3⟩
theorem call_int1:CallR X (.type "int") (fun xs H Q => (∃ i,xs = [.int i] ∧ Q (.int i) H) ∨ ∃ k,xs = [.bl k] ∧ Q (.int (if k then 1 else 0)) H):=by
  intro pins s σ H xs us Q I r h
  rcases h with ⟨i,rfl,q⟩ | ⟨k,rfl,q⟩
  · obtain ⟨u,rfl,t,rfl⟩:=vals1 r
    exact call_int_int ⟨.int i,H,I,⟨_,rfl⟩,q⟩
  · obtain ⟨u,rfl,r1⟩:=vals1 r
    cases r1
    exact call_int_bool ⟨.int (if k then 1 else 0),H,I.tok _,⟨_,rfl⟩,q⟩
end
end L2
namespace L2
open PySem PySem.Spec PyProof.Rows
structure ObjM (h:Heap) (x dx C:Addr) (mA:Str → Option Value):Prop where
  obj:h.get? x = some (PySem.W.instObj C dx)
  ns:h.Ns1 dx mA
  ne:dx ≠ x
theorem lookIn_ns {h:Heap} {dx:Addr} {mA:Str → Option Value} (n:h.Ns1 dx mA):∃ od,h.get? dx = some od ∧ ∀ name,PySem.W.lookIn name od = some (mA name):=by
  obtain ⟨o,es,ep,ho,hd,hk,_,hm⟩:=n
  refine ⟨o,ho,fun name => ?_⟩
  have e:=hm name
  unfold nsFind findBy at e
  rw [← Array.find?_toList] at e
  unfold PySem.W.lookIn
  rw [hd]
  dsimp only
  split
  · rename_i y q
    rw [q] at e
    exact congrArg some e
  · rename_i q
    rw [q] at e
    have a:es.toList.any (·.refKey) = false:=by
      rw [List.any_eq_false]
      intro y hy
      obtain ⟨z,t,hkey⟩:=hk y (Array.mem_toList_iff.mp hy)
      simp [DictEntry.refKey,hkey]
    have a':¬ es.toList.any (·.refKey) = true:=by rw [a]; exact Bool.false_ne_true
    rw [if_neg a']
    exact congrArg some e
theorem ObjM.look {h:Heap} {x dx C:Addr} {mA:Str → Option Value} (I:ObjM h x dx C mA):∃ od,PySem.W.InstAt h x (PySem.W.instObj C dx) C (some od) ∧ ∀ name,PySem.W.lookIn name od = some (mA name) :=
  let ⟨od,ho,hl⟩:=lookIn_ns I.ns
  ⟨od,⟨I.obj,rfl,rfl,ho⟩,hl⟩
section
variable {prog:Program} {w:World} {A:Around} {E:Value → Shared → Prop} {s:Shared} {K:PySem.W.Frag} {x dx C f:Addr} {mA:Str → Option Value} {name:Str} {v:Value}
theorem get_map {expr:Bool} {Q:Value → Shared → Prop} (X:K.In s.heap) (I:ObjM s.heap x dx C mA) (hg:PySem.W.plainGet K C name = true) (hh:PySem.W.hasDictIn K C = true)
    (ha:PySem.W.findIn K (.ref C) name = some none) (hv:mA name = some v) (hv':PySem.W.handedIn v = true) (h:Q v { s with toks:=s.toks + 1 }) :
    wpAny (model prog w) A (getAttr (.ref x) name expr) Q E s:=by
  obtain ⟨od,J,hl⟩:=I.look
  exact PySem.W.get_value X J (PySem.W.plainGet_of hg).1 (PySem.W.findObj_own hh ha rfl (by rw [hl,hv])) hv' h
theorem get_meth {pl:Sem Bool} {Q:Value × List Value → Shared → Prop} (X:K.In s.heap) (I:ObjM s.heap x dx C mA) (hg:PySem.W.plainGet K C name = true)
    (hf:PySem.W.findIn K (.ref C) name = some (some (.ref f))) (ht:PySem.W.isFn K (.ref f) = true) (hv:mA name = none) (h:Q (.ref f,[.ref x]) s) :
    wpAny (model prog w) A (getMethod (.ref x) name pl) Q E s:=by
  obtain ⟨od,J,hl⟩:=I.look
  exact PySem.W.method_fn X J (PySem.W.plainGet_of hg).1 (PySem.W.plainGet_of hg).2 hf (beq_iff_eq.mp ht) (by show (PySem.W.lookIn name od).map (·.isSome) = some false; rw [hl,hv]; rfl) h
theorem set_map {ns:List Str} {Q:Unit → Shared → Prop} (X:K.In s.heap) (I:ObjM s.heap x dx C mA)
    (hs:PySem.W.findIn K (.ref C) "__setattr__" = some (some (.builtin "object.__setattr__"))) (hp:PySem.W.plainOver K C = true) (ht:PySem.W.takerIn K C name = some none) (hh:PySem.W.hasDictIn K C = true)
    (hw:PySem.Within mA ns) (hsz:ns.length ≤ sizeLine)
    (h:∀ h',ObjM h' x dx C (fun y => if y = name then some v else mA y) → Heap.SameBut dx s.heap h' → Q () { s with heap:=h',toks:=s.toks + 2 }) :
    wpAny (model prog w) A (setAttr (.ref x) name v) Q E s:=by
  obtain ⟨od,J,hl⟩:=I.look
  refine PySem.W.set_plain X J hs (PySem.W.osa_open (s:={ s with toks:=s.toks + 1 }) (r:=none) X J hp ht fun b => ?_)
  obtain ⟨cd,hc,hd'⟩:=PySem.W.any_some hh
  have hx:s.heap.get? x = some ⟨.ref C,some dx,.plain,#[]⟩:=I.obj
  refine wpAny_bind (wpAny_pure (wpAny_bind (wpAny_bind (wpAny_loadPart hx (wpAny_bind (PySem.W.Looks.here (s:={ s with toks:=s.toks + 1 }) (PySem.W.looks_clsIn X hc) ?_))))))
  rw [hd']
  refine wpAny_pure (a:=some dx) (wpAny_bind (wpAny_pure (wpAny_bind ?_)))
  refine wpAny_nsSet1 (s:={ s with toks:=s.toks + 1 }) I.ns fun h' hn2 hs2 => ?_
  obtain ⟨oD,esD,epD,hoD,hdD,hcD⟩:=hn2.count (PySem.Within.cons name v hw)
  refine wpAny_bind (wpAny_lookBehind hoD (by rw [hdD]; exact pastItsLine_dict (Nat.le_trans hcD (by rw [List.length_cons]; omega))) ?_)
  exact wpAny_pure (h _ ⟨(hs2.2 _ (Ne.symm I.ne)).trans I.obj,hn2,I.ne⟩ hs2)
theorem make_map {R:Result → Shared → Prop} {vs:List Value} {kw:List (Str × Value)} (X:K.In s.heap) (hm:PySem.W.makesIn K C = true)
    (hi:PySem.W.findIn K (.ref C) "__init__" = some (some (.ref f))) (hf:PySem.W.typeIn K (.ref f) = some (.type "function"))
    (h:codeAny (model prog w) (A.under (.builtin "type.__call__" ⟨.ref C :: vs,kw⟩)) (.call (.ref f) ⟨.ref (s.heap.objs.size + 1) :: vs,kw⟩) (PySem.W.InitBack (s.heap.objs.size + 1) R)
      { s with heap:=(s.heap.push PySem.W.emptyDict).push (PySem.W.instObj C s.heap.objs.size) }) :
    codeAny (model prog w) A (.call (.ref C) ⟨vs,kw⟩) R s:=by
  obtain ⟨hh,g,d,t,os⟩:=s
  exact PySem.W.make_core (PySem.W.makes_of X hm) (PySem.W.looks_findIn X hi) (fun self => PySem.W.bind_fn X self hf) (.inl rfl) h
end
def putF (f:Str) (v:V):List (Str × V) → List (Str × V)
  | [] => [(f,v)]
  | (g,x) :: r => if g = f then (g,v) :: r else (g,x) :: putF f v r
theorem lookup_putF (f g:Str) (v:V):∀ fs:List (Str × V),(putF f v fs).lookup g = if g = f then some v else fs.lookup g
  | [] => by
    show List.lookup g [(f,v)] = _
    by_cases h:g = f
    · have hb:(g == f) = true:=beq_iff_eq.mpr h
      simp only [List.lookup,hb,if_pos h]
    · have hb:(g == f) = false:=beq_eq_false_iff_ne.mpr h
      simp only [List.lookup,hb,if_neg h]
  | (k,x) :: r => by
    have ih:=lookup_putF f g v r
    rw [show putF f v ((k,x) :: r) = (if k = f then (k,v) :: r else (k,x) :: putF f v r) from rfl]
    by_cases hk:k = f
    · rw [if_pos hk]
      by_cases h:g = k
      · have hb:(g == k) = true:=beq_iff_eq.mpr h
        simp only [List.lookup,hb,if_pos (h.trans hk)]
      · have hb:(g == k) = false:=beq_eq_false_iff_ne.mpr h
        simp only [List.lookup,hb,if_neg (fun e:g = f => h (e.trans hk.symm))]
    · rw [if_neg hk]
      by_cases h:g = k
      · have hb:(g == k) = true:=beq_iff_eq.mpr h
        simp only [List.lookup,hb,if_neg (fun e:g = f => hk (h.symm.trans e))]
      · have hb:(g == k) = false:=beq_eq_false_iff_ne.mpr h
        simp only [List.lookup,hb]
        exact ih
theorem keys_putF (f:Str) (v:V):∀ fs:List (Str × V),f ∈ (putF f v fs).map (·.1) ∧ ∀ g,g ∈ fs.map (·.1) → g ∈ (putF f v fs).map (·.1)
  | [] => ⟨by simp [putF],fun g h => by simp at h⟩
  | (k,x) :: r => by
    obtain ⟨i1,i2⟩:=keys_putF f v r
    rw [show putF f v ((k,x) :: r) = (if k = f then (k,v) :: r else (k,x) :: putF f v r) from rfl]
    by_cases hk:k = f
    · rw [if_pos hk]
      subst hk
      exact ⟨by simp,fun g h => by simpa using h⟩
    · rw [if_neg hk]
      refine ⟨?_,fun g h => ?_⟩
      · rw [List.map_cons]
        exact List.mem_cons_of_mem _ i1
      · rw [List.map_cons] at h ⊢
        rcases List.mem_cons.mp h with e | e
        · exact List.mem_cons.mpr (.inl e)
        · exact List.mem_cons_of_mem _ (i2 g e)
theorem length_putF (f:Str) (v:V):∀ fs:List (Str × V),(putF f v fs).length ≤ fs.length + 1
  | [] => by simp [putF]
  | (k,x) :: r => by
    have ih:=length_putF f v r
    rw [show putF f v ((k,x) :: r) = (if k = f then (k,v) :: r else (k,x) :: putF f v r) from rfl]
    by_cases hk:k = f
    · rw [if_pos hk,List.length_cons,List.length_cons]; omega
    · rw [if_neg hk,List.length_cons,List.length_cons]; omega
theorem RelO.some_of {v:V} {o:Option Value} (r:RelO (some v) o):∃ u,o = some u ∧ RelV v u:=by
  cases o with
  | none => exact (show False from r).elim
  | some u => exact ⟨u,rfl,r⟩
theorem RelO.none_of {o:Option Value} (r:RelO none o):o = none:=by
  cases o with
  | none => rfl
  | some u => exact (show False from r).elim
theorem handed_of {v:V} {u:Value} (r:RelV v u):PySem.W.handedIn u = true:=by
  cases v with
  | non => cases (show u = Value.none from r); rfl
  | bl b => cases (show u = Value.bool b from r); rfl
  | int i => obtain ⟨t,e⟩:=(show ∃ t,u = Value.int i t from r); cases e; rfl
  | str x => obtain ⟨t,e⟩:=(show ∃ t,u = Value.str x t from r); cases e; rfl
  | byt b => obtain ⟨t,e⟩:=(show ∃ t,u = Value.bytes b t from r); cases e; rfl
  | flt b => obtain ⟨t,e⟩:=(show ∃ t,u = Value.float b t from r); cases e; rfl
  | ref a => cases (show u = Value.ref a from r); rfl
  | ty n => cases (show u = Value.type n from r); rfl
section
variable {P:Program} {w:World} {H H':Hp} {h h':Heap} {a C dx:Addr} {fs fs':List (Str × V)}
theorem ins_get (hok:HOk P w H h) (e:H a = some (.ins C dx fs)):∃ mA,ObjM h a dx C mA ∧ (∀ f,RelO (fs.lookup f) (mA f)) ∧ PySem.Within mA (fs.map (·.1)) ∧ fs.length ≤ 1000 ∧ H dx = some (.own a):=by
  obtain ⟨d,z,ne,ob,mA,n,r,q⟩:=(show ObjOk P w H h a (.ins C dx fs) from hok a _ e)
  exact ⟨mA,⟨ob,n,ne⟩,r,q,z,d⟩
end
structure Cls (K:PySem.W.Frag) (C:Addr):Prop where
  pg:PySem.W.plainGet K C Str.empty = true
  hd:PySem.W.hasDictIn K C = true
  po:PySem.W.plainOver K C = true
  sa:PySem.W.findIn K (.ref C) "__setattr__" = some (some (.builtin "object.__setattr__"))
theorem Cls.get {K:PySem.W.Frag} {C:Addr} (c:Cls K C) (f:Str):PySem.W.plainGet K C f = true:=c.pg
def NoAttr (K:PySem.W.Frag) (C:Addr) (f:Str):Prop:=PySem.W.findIn K (.ref C) f = some none
theorem NoAttr.taker {K:PySem.W.Frag} {C:Addr} {f:Str} (n:NoAttr K C f):PySem.W.takerIn K C f = some none:=by
  unfold PySem.W.takerIn
  rw [show PySem.W.findIn K (.ref C) f = some none from n]
  rfl
structure Con (K:PySem.W.Frag) (C:Addr) (f:Str) (v:V) (u:Value):Prop where
  at_:PySem.W.findIn K (.ref C) f = some (some u)
  rel:RelV v u
  get:PySem.W.specialIn K u "__get__" = some none
  cp:PySem.W.copiedNames.contains f = false
structure Meth (K:PySem.W.Frag) (C:Addr) (m:Str) (f:Addr):Prop where
  at_:PySem.W.findIn K (.ref C) m = some (some (.ref f))
  fn:PySem.W.isFn K (.ref f) = true
  kp:PySem.W.keepIn K (.ref f) = true
section
variable {X:Cx} {pins:List (Addr × Obj)} {σ:St} {H:Hp} {s:Shared} {a C dx:Addr} {fs:List (Str × V)} {f:Str} {v:V} {A:Around} {E:Value → Shared → Prop}
theorem getattr_ok {b:Bool} {Q:Value → Shared → Prop} (I:Inv X pins σ H s) (e:H a = some (.ins C dx fs)) (c:Cls X.K C) (n:NoAttr X.K C f) (l:fs.lookup f = some v)
    (h:∀ u s',Inv X pins σ H s' → RelV v u → Q u s'):wpAny (model X.prog X.w) A (getAttr (.ref a) f b) Q E s:=by
  obtain ⟨mA,O,r,_,_,_⟩:=ins_get I.hok e
  obtain ⟨u,hu,ru⟩:=RelO.some_of (v:=v) (o:=mA f) (by rw [← l]; exact r f)
  exact get_map I.kIn O (c.get f) c.hd n hu (handed_of ru) (h u _ (I.tok _) ru)
theorem getmeth_ok {m:Str} {g:Addr} {pl:Sem Bool} {Q:Value × List Value → Shared → Prop} (I:Inv X pins σ H s) (e:H a = some (.ins C dx fs)) (c:Cls X.K C) (k:Meth X.K C m g) (l:fs.lookup m = none)
    (h:Q (.ref g,[.ref a]) s):wpAny (model X.prog X.w) A (getMethod (.ref a) m pl) Q E s:=by
  obtain ⟨mA,O,r,_,_,_⟩:=ins_get I.hok e
  have hn:mA m = none:=RelO.none_of (by rw [← l]; exact r m)
  exact get_meth I.kIn O (c.get m) k.at_ k.fn hn h
theorem setattr_ok {y:V} {u:Value} {Q:Unit → Shared → Prop} (I:Inv X pins σ H s) (e:H a = some (.ins C dx fs)) (c:Cls X.K C) (n:NoAttr X.K C f) (hl:fs.length < 1000) (ry:RelV y u)
    (h:∀ s',Inv X pins σ (upd H a (.ins C dx (putF f y fs))) s' → Q () s'):wpAny (model X.prog X.w) A (setAttr (.ref a) f u) Q E s:=by
  obtain ⟨mA,O,r,wi,_,ho⟩:=ins_get I.hok e
  have hz:(fs.map (·.1)).length ≤ sizeLine:=by rw [List.length_map,sizeLine_eq]; omega
  refine set_map I.kIn O c.sa c.po n.taker c.hd wi hz fun h' O' sb => h _ ?_
  have hd:∃ o,h'.get? dx = some o:=let ⟨o,_,_,e',_⟩:=O'.ns; ⟨o,e'⟩
  refine I.write (x:=a) (e:=dx) (by rw [e]; exact True.intro) (.inr ho) (fun b q hb z => (sb.2 b hb).trans z) hd ?_
  refine ⟨by rw [upd_ne O.ne]; exact ho,?_,O.ne,O'.obj,_,O'.ns,fun g => ?_,fun g hg => ?_⟩
  · have:=length_putF f y fs; omega
  · show RelO ((putF f y fs).lookup g) (if g = f then some u else mA g)
    rw [lookup_putF]
    by_cases q:g = f
    · rw [if_pos q,if_pos q]; exact ry
    · rw [if_neg q,if_neg q]; exact r g
  · by_cases q:g = f
    · rw [q]; exact (keys_putF f y fs).1
    · refine (keys_putF f y fs).2 g (wi g fun z => hg ?_)
      show (if g = f then some u else mA g) = none
      rw [if_neg q]; exact z
theorem Inv.made (I:Inv X pins σ H s):Inv X pins σ (upd (upd H s.heap.objs.size (.own (s.heap.objs.size + 1))) (s.heap.objs.size + 1) (.ins C s.heap.objs.size []))
    { s with heap:=(s.heap.push PySem.W.emptyDict).push (PySem.W.instObj C s.heap.objs.size) }:=by
  have e1:(s.heap.push PySem.W.emptyDict).get? s.heap.objs.size = some PySem.W.emptyDict:=Heap.get?_push_size s.heap rfl
  have e2:((s.heap.push PySem.W.emptyDict).push (PySem.W.instObj C s.heap.objs.size)).get? (s.heap.objs.size + 1) = some (PySem.W.instObj C s.heap.objs.size):=by
    have:=Heap.get?_push_size (s.heap.push PySem.W.emptyDict) (o:=PySem.W.instObj C s.heap.objs.size) rfl
    rwa [Heap.size_push] at this
  have e3:(s.heap.push PySem.W.emptyDict).Ns s.heap.objs.size (fun _ => none):=⟨PySem.W.emptyDict,#[],_,e1,rfl,(fun e he => absurd he (by simp)),fun _ => rfl⟩
  have I1:=I.laid (a:=s.heap.objs.size) (o:=.own (s.heap.objs.size + 1)) (h':=s.heap.push PySem.W.emptyDict) (t':=s.toks) (fun b u q => Heap.get?_push_of_some _ q) (Nat.le_refl _) ⟨_,e1⟩
  refine I1.laid (a:=s.heap.objs.size + 1) (o:=.ins C s.heap.objs.size []) (t':=s.toks) (fun b u q => Heap.get?_push_of_some _ q) (Nat.le_of_eq (Heap.size_push _ _)) ?_
  have ne:s.heap.objs.size ≠ s.heap.objs.size + 1:=Nat.ne_of_lt (Nat.lt_succ_self _)
  refine ⟨by rw [upd_ne ne,upd_same],Nat.zero_le _,ne,e2,fun _ => none,(Heap.Ns1.of_empty e3).at fun o q => Heap.get?_push_of_some _ q,fun _ => True.intro,fun y hy => absurd rfl hy⟩
theorem attr_of {prog:Program} {w:World} {env:Env} {e:Expr} {f:Str} {pos:Pos} {s:Shared} {Q:Value → Shared → Prop} (hb:attributeBase e f env (eval e env) = eval e env)
    (h:wpAny (model prog w) A (eval e env) (fun o s₁ => wpAny (model prog w) A (getAttr o f true) Q E s₁) E s):wpAny (model prog w) A (eval (.Attribute e f pos) env) Q E s :=
  Attribute_any_ h (by rw [arm_eval_Attribute,hb])
end
def tFld (K:PySem.W.Frag) (ta:TE) (f:Str):TE:=fun σ H Q => ta σ H fun x H1 => ∃ a C dx fs v,x = .ref a ∧ H1 a = some (.ins C dx fs) ∧ Cls K C ∧ NoAttr K C f ∧ fs.lookup f = some v ∧ Q v H1
def sFld (K:PySem.W.Frag) (ta tv:TE) (f:Str):TS:=fun D σ H => tv σ H fun y H1 => ta σ H1 fun x H2 => ∃ a C dx fs,x = .ref a ∧ H2 a = some (.ins C dx fs) ∧ Cls K C ∧ NoAttr K C f ∧ fs.length < 1000 ∧
  D.nx σ (upd H2 a (.ins C dx (putF f y fs)))
section
variable {X:Cx} {o e value:Expr} {f:Str} {pos pos' tpos:Pos} {ta tv:TE}
theorem pe_fld (he:PE X e ta) (hb:attributeBase e f X.env (eval e X.env) = eval e X.env):PE X (.Attribute e f pos) (tFld X.K ta f):=by
  intro pins s σ H Q I h
  refine attr_of hb (thn (he pins s σ H _ I h) fun u s1 ⟨x,H1,I1,rx,a,C,dx,fs,v,ex,ea,c,n,l,q⟩ => ?_)
  subst ex
  obtain rfl:u = Value.ref a:=rx
  exact getattr_ok I1 ea c n l fun u' s2 I2 ru => ⟨v,H1,I2,ru,q⟩
theorem ps_fld (ha:PE X o ta) (hv:PE X value tv) (hs:swapsWith value (some (.Attribute o f pos')) pos.line X.env = pure false):PS X (.Assign [.Attribute o f pos'] value pos) (sFld X.K ta tv f):=by
  intro pins s σ H D I h
  refine plainObj_wpAny_Assign_Attribute (thn (hv pins s σ H _ I h) fun u s1 ⟨y,H1,I1,ry,q⟩ => thn (ha pins s1 σ H1 _ I1 q) fun ov s2 ⟨x,H2,I2,rx,a,C,dx,fs,ex,ea,c,n,l,q2⟩ => ?_) hs
  subst ex
  obtain rfl:ov = Value.ref a:=rx
  exact setattr_ok I2 ea c n l ry fun s3 I3 => ⟨σ,_,I3,q2⟩
end
section
variable {X:Cx} {pins:List (Addr × Obj)} {σ:St} {H:Hp} {s:Shared} {A:Around} {E:Value → Shared → Prop} {Q:Value → Shared → Prop} {c:Value} {b:Bool}
inductive TyOf (K:PySem.W.Frag) (H:Hp):V → Value → Prop where
  | non:TyOf K H .non (.type "NoneType")
  | bl (x:Bool):TyOf K H (.bl x) (.type "bool")
  | int (i:Int):TyOf K H (.int i) (.type "int")
  | str (x:Str):TyOf K H (.str x) (.type "str")
  | flt (x:UInt64):TyOf K H (.flt x) (.type "float")
  | lst {a:Addr} {xs:List V} (e:H a = some (.lst xs)):TyOf K H (.ref a) (.type "list")
  | frz {a:Addr} {o:Obj} {xs:List V} (e:H a = some (.frz o (.lst xs))):TyOf K H (.ref a) (.type "list")
  | tup {a:Addr} {xs:List V} (e:H a = some (.tup xs)):TyOf K H (.ref a) (.type "tuple")
  | dK {a:Addr} {kvs:List (Key × V)} (e:H a = some (.dK kvs)):TyOf K H (.ref a) (.type "dict")
  | dT {a:Addr} {kvs:List (List Key × V)} (e:H a = some (.dT kvs)):TyOf K H (.ref a) (.type "dict")
  | ins {a C dx:Addr} {fs:List (Str × V)} (e:H a = some (.ins C dx fs)) (cl:Cls K C) (ha:PySem.W.findIn K (.ref C) "__class__" = some (some (.builtin "object.__class__")))
      (hn:PySem.W.specialIn K (.builtin "object.__class__") "__get__" = some (some (.builtin "getset_descriptor.__get__"))) (htk:PySem.W.takesIn K (.builtin "object.__class__") = some true)
      (hm:PySem.W.mroIn K C (.type "object") = some true):TyOf K H (.ref a) (.ref C)
theorem isinst_ok {x:V} {u t:Value} (I:Inv X pins σ H s) (rx:RelV x u) (ty:TyOf X.K H x t) (e:PySem.W.kitOne X.K t c = some b) (h:∀ tk,Q (.bool b) { s with toks:=tk }) :
    wpAny (model X.prog X.w) A (call (.builtin "isinstance") [u,c]) Q E s:=by
  cases ty with
  | non => cases (show u = Value.none from rx); exact PySem.W.kia_one PySem.W.kitx_none I.kIn True.intro e (fun z => nomatch z) h
  | bl y => cases (show u = Value.bool y from rx); exact PySem.W.kia_one PySem.W.kitx_bool I.kIn True.intro e (fun z => nomatch z) h
  | int i => obtain ⟨t,q⟩:=(show ∃ t,u = Value.int i t from rx); cases q; exact PySem.W.kia_one PySem.W.kitx_int I.kIn True.intro e (fun z => nomatch z) h
  | str y => obtain ⟨t,q⟩:=(show ∃ t,u = Value.str y t from rx); cases q; exact PySem.W.kia_one PySem.W.kitx_str I.kIn True.intro e (fun z => nomatch z) h
  | flt y => obtain ⟨t,q⟩:=(show ∃ t,u = Value.float y t from rx); cases q; exact PySem.W.kia_one PySem.W.kitx_float I.kIn True.intro e (fun z => nomatch z) h
  | @lst a xs ea =>
    cases (show u = Value.ref a from rx)
    obtain ⟨_,_,n,_,h1⟩:=(show ObjOk X.prog X.w H s.heap a (.lst xs) from I.hok a _ ea)
    exact PySem.W.kia_one PySem.W.kitx_list I.kIn ⟨_,h1,rfl⟩ e (fun z => nomatch z) h
  | @frz a ob xs ea =>
    cases (show u = Value.ref a from rx)
    obtain ⟨_,_,_,n,_,h1⟩:=(show ObjOk X.prog X.w H s.heap a (.frz ob (.lst xs)) from I.hok a _ ea)
    exact PySem.W.kia_one PySem.W.kitx_list I.kIn ⟨_,h1,rfl⟩ e (fun z => nomatch z) h
  | @tup a xs ea =>
    cases (show u = Value.ref a from rx)
    obtain ⟨_,_,_,p⟩:=(show ObjOk X.prog X.w H s.heap a (.tup xs) from I.hok a _ ea)
    obtain ⟨o,h1,h2,_⟩:=p
    exact PySem.W.kia_one PySem.W.kitx_tuple I.kIn ⟨o,h1,h2⟩ e (fun z => nomatch z) h
  | @dK a kvs ea =>
    cases (show u = Value.ref a from rx)
    obtain ⟨_,_,vs,_,p⟩:=(show ObjOk X.prog X.w H s.heap a (.dK kvs) from I.hok a _ ea)
    obtain ⟨o,es,ep,h1,h2,_⟩:=p
    exact PySem.W.kia_one PySem.W.kitx_dict I.kIn ⟨o,h1,h2.1⟩ e (fun z => nomatch z) h
  | @dT a kvs ea =>
    cases (show u = Value.ref a from rx)
    obtain ⟨_,_,xs,_,o,es,ep,h1,h2,_⟩:=(show ObjOk X.prog X.w H s.heap a (.dT kvs) from I.hok a _ ea)
    exact PySem.W.kia_one PySem.W.kitx_dict I.kIn ⟨o,h1,h2.1⟩ e (fun z => nomatch z) h
  | @ins a C dx fs ea cl ha hn htk hm =>
    cases (show u = Value.ref a from rx)
    obtain ⟨mA,O,_⟩:=ins_get I.hok ea
    obtain ⟨od,J,_⟩:=O.look
    exact PySem.W.kia_one (PySem.W.kitx_own (cl.get _) cl.hd ha hn htk hm) I.kIn J e (fun z => nomatch z) h
end
end L2
namespace L2
open PySem PySem.Spec PyProof.Rows
structure Room (k:Nat) (A:Around):Prop where
  hd:A.handled = none
  dp:A.depth + 3 * k + 5 < recursionLimit
  un:A.units + 16 * k + 200 < cLine
theorem Room.mono {j k:Nat} {A:Around} (r:Room k A) (h:j ≤ k):Room j A:=⟨r.hd,by have:=r.dp; omega,by have:=r.un; omega⟩
theorem Room.deeper {k:Nat} {A:Around} (r:Room (k + 1) A) (env:Env):Room k (A.deeper env) :=
  ⟨r.hd,by have:=r.dp; show A.depth + 1 + 3 * k + 5 < _; omega,by have:=r.un; show A.units + 3 + 16 * k + 200 < _; omega⟩
theorem Room.in1 {k:Nat} {A:Around} (r:Room (k + 1) A):Room k A.in1 :=
  ⟨r.hd,by have:=r.dp; show A.depth + 3 * k + 5 < _; omega,by have:=r.un; show A.units + 1 + 16 * k + 200 < _; omega⟩
theorem make_depth {A:Around} {C:Addr} {us:List Value} {kw:List (Str × Value)}:(A.under (.builtin "type.__call__" ⟨.ref C :: us,kw⟩)).depth = A.depth + 1:=by
  first | rfl | simp [Around.under,Code.weight,Code.isCreation,Code.isGuard,Code.isCaller,Code.frames,Code.isFrame,guardIds]
theorem make_units {A:Around} {C:Addr} {us:List Value} {kw:List (Str × Value)}:(A.under (.builtin "type.__call__" ⟨.ref C :: us,kw⟩)).units = A.units + 1:=by
  first | rfl | simp [Around.under,Code.cUnits,Code.frames,Code.isFrame]
theorem Room.make {k:Nat} {A:Around} (r:Room (k + 1) A) (C:Addr) (us:List Value) (kw:List (Str × Value)):Room k (A.under (.builtin "type.__call__" ⟨.ref C :: us,kw⟩)) :=
  ⟨r.hd,by have:=r.dp; rw [make_depth]; omega,by have:=r.un; rw [make_units]; omega⟩
theorem Room.depth {k:Nat} {A:Around} (r:Room k A):A.depth < recursionLimit:=by have:=r.dp; omega
theorem Room.units {k:Nat} {A:Around} (r:Room k A):A.units + 64 < cLine:=by have:=r.un; omega
def tNil:TA:=fun _ H Q => Q [] H
def tCons (ta:TE) (tr:TA):TA:=fun σ H Q => ta σ H fun x H1 => tr σ H1 fun xs H2 => Q (x :: xs) H2
section
variable {X:Cx} {e:Expr} {es:List Expr} {te:TE} {t:TA} {pos:Pos}
theorem pa_nil:PA X [] tNil:=fun _ _ _ _ H Q I h => Calls.spliced_nil ⟨[],H,I,.nil,h⟩
theorem pa_cons (ha:PE X e te) (hr:PA X es t) (hs:starEach (e :: es) X.env = (false,eval e X.env) :: starEach es X.env:=by rfl):PA X (e :: es) (tCons te t):=by
  intro pos pins s σ H Q I h
  rw [hs]
  show wpAny _ _ (spliced ((false,eval e X.env) :: backTo pos (starEach es X.env))) _ _ s
  refine Calls.spliced_cons (thn (ha pins s σ H _ I h) fun u s1 ⟨x,H1,I1,r1,q1⟩ => ?_)
  exact thn (hr pos pins s1 σ H1 _ I1 q1) fun us s2 ⟨xs,H2,I2,r2,q2⟩ => ⟨x :: xs,H2,I2,.cons r1 r2,q2⟩
def tTup (t:TA):TE:=fun σ H Q => t σ H fun xs H1 => xs.length ≤ sizeLine ∧ ∀ p,H1 p = none → Q (.ref p) (upd H1 p (.tup xs))
def tLst (t:TA):TE:=fun σ H Q => t σ H fun xs H1 => xs.length ≤ sizeLine ∧ ∀ p,H1 p = none → Q (.ref p) (upd H1 p (.lst xs))
theorem pe_tup {x1} (h:PA X es t):PE X (.Tuple es x1 pos) (tTup t):=by
  intro pins s σ H Q I hq
  refine wpAny_Tuple_spliced (thn (h pos pins s σ H _ I hq) fun us s1 ⟨xs,H1,I1,r,z,q⟩ => ⟨by rw [← r.length]; exact z,?_⟩)
  have hf:H1 s1.heap.objs.size = none:=I1.hok.fresh (Nat.le_refl _)
  refine ⟨.ref s1.heap.objs.size,upd H1 s1.heap.objs.size (.tup xs),I1.laid (t':=s1.toks) (fun b u e => Heap.get?_push_of_some _ e) (Nat.le_refl _) ?_,rfl,q _ hf⟩
  exact ⟨z,us,r,⟨_,Heap.get?_push_size _ rfl,rfl,_,rfl⟩⟩
theorem pe_lst (h:PA X es t):PE X (.List es pos) (tLst t):=by
  intro pins s σ H Q I hq
  refine wpAny_List_spliced (thn (h pos pins s σ H _ I hq) fun us s1 ⟨xs,H1,I1,r,z,q⟩ => ⟨by rw [← r.length]; exact z,?_⟩)
  have hf:H1 s1.heap.objs.size = none:=I1.hok.fresh (Nat.le_refl _)
  refine ⟨.ref s1.heap.objs.size,upd H1 s1.heap.objs.size (.lst xs),I1.laid (t':=s1.toks) (fun b u e => Heap.get?_push_of_some _ e) (Nat.le_refl _) ?_,rfl,q _ hf⟩
  exact ⟨z,us,0,r,Heap.get?_push_size _ rfl⟩
end
abbrev Sp:=List V → Hp → VK → XK → Prop
abbrev CXT:=List Env → Hp → Shared → XK → Value → Shared → Prop
structure Env0 (P:Program) (w:World) (K:PySem.W.Frag) (mg:Str → Option Value) (base:Heap) (A:Around) (outer:List Env) (s:Shared) (H:Hp):Prop where
  frames:A.frames = some outer
  mod:Mod K mg base
  bs:∀ b o,base.get? b = some o → s.heap.get? b = some o ∧ H b = none
  bsz:base.objs.size ≤ s.heap.objs.size
  funs:s.heap.FunFrames base outer
  frf:∀ b ∈ frs outer,H b = none
  hok:HOk P w H s.heap
  bare:AllBare s.gens
def CE (outer:List Env) (P:Program) (w:World) (H:Hp) (s:Shared) (Q:VK) (u:Value) (s':Shared):Prop :=
  ∃ v H',s'.os = s.os ∧ AllBare s'.gens ∧ Un (frs outer) [] H H' s.heap s'.heap ∧ HOk P w H' s'.heap ∧ RelV v u ∧ Q v H'
def CR (CX:CXT) (outer:List Env) (P:Program) (w:World) (H:Hp) (s:Shared) (Q:VK) (E:XK) (r:Result) (s':Shared):Prop :=
  match r with
  | .ok (.ret u) => CE outer P w H s Q u s'
  | .ok _ => False
  | .error e => CX outer H s E e s'
structure FnOk (P:Program) (w:World) (K:PySem.W.Frag) (mg:Str → Option Value) (base:Heap) (CX:CXT) (k:Nat) (f:Addr) (fd:FuncData) (ps:List Str) (sp:Sp):Prop where
  len:∀ vs H Q E,sp vs H Q E → vs.length = ps.length
  run:∀ (A:Around) (outer:List Env) (s:Shared) (H:Hp) (args:Args) (us:List Value) (vs:List V) (Q:VK) (E:XK),Room k A → Env0 P w K mg base A outer s H → BindsTo s fd args (ps.zip us) → Vals vs us → sp vs H Q E →
    codeAny (model P w) A (.call (.ref f) args) (CR CX outer P w H s Q E) s
theorem FnOk.mono {P:Program} {w:World} {K:PySem.W.Frag} {mg:Str → Option Value} {base:Heap} {CX:CXT} {j k:Nat} {f:Addr} {fd:FuncData} {ps:List Str} {sp:Sp} (F:FnOk P w K mg base CX j f fd ps sp) (h:j ≤ k) :
    FnOk P w K mg base CX k f fd ps sp:=⟨F.len,fun A outer s H args us vs Q E hr => F.run A outer s H args us vs Q E (hr.mono h)⟩
theorem Env0.make {P:Program} {w:World} {K:PySem.W.Frag} {mg:Str → Option Value} {base:Heap} {A:Around} {outer:List Env} {s:Shared} {H:Hp} (e:Env0 P w K mg base A outer s H) (C:Addr) (us:List Value) (kw:List (Str × Value)) :
    Env0 P w K mg base (A.under (.builtin "type.__call__" ⟨.ref C :: us,kw⟩)) outer s H:=⟨by first | exact e.frames | (simpa [Around.under,Code.envs,Code.isFrame,pushEnvs] using e.frames),e.mod,e.bs,e.bsz,e.funs,e.frf,e.hok,e.bare⟩
theorem Env0.in1 {P:Program} {w:World} {K:PySem.W.Frag} {mg:Str → Option Value} {base:Heap} {A:Around} {outer:List Env} {s:Shared} {H:Hp} (e:Env0 P w K mg base A outer s H) :
    Env0 P w K mg base A.in1 outer s H:=⟨e.frames,e.mod,e.bs,e.bsz,e.funs,e.frf,e.hok,e.bare⟩
section
variable {X:Cx} {pins:List (Addr × Obj)} {σ:St} {H:Hp} {s s':Shared}
theorem Inv.env0 (I:Inv X pins σ H s):Env0 X.prog X.w X.K X.mg X.base X.A X.stack s H :=
  ⟨I.ok.frames,I.ok.mod,I.bs,Nat.le_trans I.ok.bsz I.sz,I.stack,I.stkFree,I.hok,I.bare⟩
theorem Inv.after {Q:VK} {u:Value} (I:Inv X pins σ H s) (h:CE X.stack X.prog X.w H s Q u s'):EP X pins σ Q u s':=by
  obtain ⟨v,H',os,bare,un,hok,r,q⟩:=h
  obtain ⟨hh,g,d,t,os'⟩:=s'
  obtain rfl:os' = s.os:=os
  exact ⟨v,H',I.call (h':=hh) (g':=g) (d':=d) (t':=t) (ch:=[]) un hok bare (fun b z => absurd z (by simp)),r,q⟩
end
def tCall (sp:Sp) (dvs:List V) (E:XK) (t:TA):TE:=fun σ H Q => t σ H fun vs H1 => sp (vs ++ dvs) H1 Q E
def tMake (C:Addr) (sp:Sp) (dvs:List V) (E:XK) (t:TA):TE:=fun σ H Q => t σ H fun vs H1 => ∀ x dx,H1 x = none → H1 dx = none → dx ≠ x →
  sp (.ref x :: (vs ++ dvs)) (upd (upd H1 dx (.own x)) x (.ins C dx [])) (fun v H2 => v = .non ∧ Q (.ref x) H2) E
def Binds (K:PySem.W.Frag) (fd:FuncData) (ps:List Str) (ds:List Value):Prop :=
  ∀ (s:Shared) (us:List Value),K.In s.heap → (us ++ ds).length = ps.length → BindsTo s fd ⟨us,[]⟩ (ps.zip (us ++ ds))
theorem Binds.all {K:PySem.W.Frag} {fd:FuncData} {ps:List Str} (h:∀ us:List Value,us.length = ps.length → bindArgs fd ⟨us,[]⟩ = pure (ps.zip us)):Binds K fd ps []:=fun s us _ hl => by
  rw [List.append_nil] at hl ⊢
  exact .of_eq (h us hl)
def Passes (CX:CXT) (X:Cx) (E:XK):Prop:=∀ (pins:List (Addr × Obj)) (σ:St) (H:Hp) (s:Shared) (e:Value) (s':Shared),Inv X pins σ H s → CX X.stack H s E e s' → X.xe e s'
section
variable {X:Cx} {CX:CXT} {k:Nat} {f C:Addr} {fd:FuncData} {ps:List Str} {sp:Sp} {dvs:List V} {ds:List Value} {E:XK} {x m:Str} {p pos apos:Pos} {e o:Expr} {es:List Expr} {ta:TE} {t:TA}
theorem run_fn {pins:List (Addr × Obj)} {σ:St} {H:Hp} {s:Shared} {Q:VK} {us:List Value} {vs:List V} (F:FnOk X.prog X.w X.K X.mg X.base CX k f fd ps sp) (hr:Room k X.A) (hb:Binds X.K fd ps ds) (hd:Vals dvs ds) (hx:Passes CX X E)
    (I:Inv X pins σ H s) (r:Vals vs us) (h:sp (vs ++ dvs) H Q E):wpAny (model X.prog X.w) X.A (call (.ref f) us) (EP X pins σ Q) X.xe s:=by
  have r2:Vals (vs ++ dvs) (us ++ ds):=r.append hd
  have hl:(us ++ ds).length = ps.length:=by rw [← r2.length]; exact F.len _ _ _ _ h
  refine wpAny_call (codeAny_mono (F.run X.A X.stack s H ⟨us,[]⟩ (us ++ ds) (vs ++ dvs) Q E hr I.env0 (hb s us I.kIn hl) r2 h) fun r s' hq => ?_)
  cases r with
  | error e => exact hx pins σ H s e s' I hq
  | ok fl =>
    cases fl with
    | ret u => exact I.after hq
    | next => exact False.elim hq
    | brk => exact False.elim hq
    | cont => exact False.elim hq
theorem pe_call (F:FnOk X.prog X.w X.K X.mg X.base CX k f fd ps sp) (hr:Room k X.A) (hg:Gl X x) (hm:X.mg x = some (.ref f)) (hk:PySem.W.keepIn X.K (.ref f) = true) (hb:Binds X.K fd ps ds) (hd:Vals dvs ds) (hx:Passes CX X E)
    (ha:PA X (e :: es) t) (hdb:(x == ("__debug__" : Str)) = false:=by decide) (he:starEach (e :: es) X.env = (false,eval e X.env) :: starEach es X.env:=by rfl) (hpl:(backTo pos (starEach es X.env)).any (·.1) = false:=by rfl) :
    PE X (.Call (.Name x p) (e :: es) [] pos) (tCall sp dvs E t):=by
  intro pins s σ H Q I h
  refine wpAny_Call_Name_kw (ld_glob I hg hm ?_ hdb)
  refine PySem.W.callWith_K (h₀:=X.base) I.ok.mod.kin hk (thn (ha pos pins s σ H _ I h) fun us s1 ⟨vs,H1,I1,r,q⟩ => ⟨I1.kIn,?_⟩) he hpl
  exact run_fn F hr hb hd hx I1 r q
structure Mk (K:PySem.W.Frag) (C f:Addr):Prop where
  makes:PySem.W.makesIn K C = true
  init:PySem.W.findIn K (.ref C) "__init__" = some (some (.ref f))
  fn:PySem.W.isFn K (.ref f) = true
  kp:PySem.W.keepIn K (.ref C) = true
theorem run_make {pins:List (Addr × Obj)} {σ:St} {H:Hp} {s:Shared} {Q:VK} {us:List Value} {vs:List V} (M:Mk X.K C f) (F:FnOk X.prog X.w X.K X.mg X.base CX k f fd ps sp) (hr:Room (k + 1) X.A) (hb:Binds X.K fd ps ds) (hd:Vals dvs ds)
    (hx:Passes CX X E) (I:Inv X pins σ H s) (r:Vals vs us)
    (h:∀ x dx,H x = none → H dx = none → dx ≠ x → sp (.ref x :: (vs ++ dvs)) (upd (upd H dx (.own x)) x (.ins C dx [])) (fun v H2 => v = .non ∧ Q (.ref x) H2) E) :
    wpAny (model X.prog X.w) X.A (call (.ref C) us) (EP X pins σ Q) X.xe s:=by
  have hq:=h (s.heap.objs.size + 1) s.heap.objs.size (I.hok.fresh (Nat.le_succ _)) (I.hok.fresh (Nat.le_refl _)) (Nat.ne_of_lt (Nat.lt_succ_self _))
  have I2:=Inv.made (C:=C) I
  have r2:Vals (V.ref (s.heap.objs.size + 1) :: (vs ++ dvs)) (Value.ref (s.heap.objs.size + 1) :: (us ++ ds)):=.cons rfl (r.append hd)
  have hl:(Value.ref (s.heap.objs.size + 1) :: us ++ ds).length = ps.length:=by
    have e:=r2.length
    rw [F.len _ _ _ _ hq] at e
    exact e.symm
  refine wpAny_call (make_map (f:=f) I.kIn M.makes M.init (beq_iff_eq.mp M.fn) (codeAny_mono (F.run _ X.stack _ _ ⟨Value.ref (s.heap.objs.size + 1) :: us,[]⟩ (Value.ref (s.heap.objs.size + 1) :: (us ++ ds)) _ _ E (hr.make C us [])
    (I2.env0.make C us []) (hb _ (Value.ref (s.heap.objs.size + 1) :: us) I2.kIn hl) r2 hq) fun r s' hq' => ?_))
  cases r with
  | error e => exact hx pins σ _ _ e s' I2 hq'
  | ok fl =>
    cases fl with
    | ret u =>
      obtain ⟨v,H',I3,rv,ev,q3⟩:=I2.after hq'
      subst ev
      exact ⟨rv,⟨V.ref (s.heap.objs.size + 1),H',I3,rfl,q3⟩⟩
    | next => exact False.elim hq'
    | brk => exact False.elim hq'
    | cont => exact False.elim hq'
theorem pe_make (M:Mk X.K C f) (F:FnOk X.prog X.w X.K X.mg X.base CX k f fd ps sp) (hr:Room (k + 1) X.A) (hg:Gl X x) (hm:X.mg x = some (.ref C)) (hb:Binds X.K fd ps ds) (hd:Vals dvs ds) (hx:Passes CX X E)
    (ha:PA X (e :: es) t) (hdb:(x == ("__debug__" : Str)) = false:=by decide) (he:starEach (e :: es) X.env = (false,eval e X.env) :: starEach es X.env:=by rfl) (hpl:(backTo pos (starEach es X.env)).any (·.1) = false:=by rfl) :
    PE X (.Call (.Name x p) (e :: es) [] pos) (tMake C sp dvs E t):=by
  intro pins s σ H Q I h
  refine wpAny_Call_Name_kw (ld_glob I hg hm ?_ hdb)
  refine PySem.W.callWith_K (h₀:=X.base) I.ok.mod.kin M.kp (thn (ha pos pins s σ H _ I h) fun us s1 ⟨vs,H1,I1,r,q⟩ => ⟨I1.kIn,?_⟩) he hpl
  exact run_make M F hr hb hd hx I1 r q
end
def PK (X:Cx) (kws:List Keyword) (t:TA):Prop :=
  ∀ (pos:Pos) (pins:List (Addr × Obj)) (s:Shared) (σ:St) (H:Hp) (Q:List V → Hp → Prop),Inv X pins σ H s → t σ H Q → wpAny (model X.prog X.w) X.A (evalAll ((backToKw pos (keywordEach kws X.env)).map (·.2))) (AP X pins σ Q) X.xe s
section
variable {X:Cx} {CX:CXT} {k:Nat} {f C:Addr} {fd:FuncData} {ps ks:List Str} {sp:Sp} {E:XK} {x m:Str} {p pos apos kpos:Pos} {e o:Expr} {es:List Expr} {kws:List Keyword} {te ta:TE} {t tk:TA} {nm:Option Str}
structure KBinds (K:PySem.W.Frag) (fd:FuncData) (ps ks:List Str) (g:List Value → List Value → List Value) (gV:List V → List V → List V):Prop where
  to:∀ (s:Shared) (us ws:List Value),K.In s.heap → (g us ws).length = ps.length → BindsTo s fd ⟨us,ks.zip ws⟩ (ps.zip (g us ws))
  rel:∀ {vs:List V} {us:List Value} {zs:List V} {ws:List Value},Vals vs us → Vals zs ws → Vals (gV vs zs) (g us ws)
variable {g:List Value → List Value → List Value} {gV:List V → List V → List V}
end
structure FnScope (N P:List Str) (sc:Scope):Prop where
  kind:sc.kind = .function
  co:sc.isCoroutine = false
  gen:sc.isGenerator = false
  nd:N.Nodup
  pre:N.take P.length = P
  par:∀ x ∈ P,sc.names.lookup x = some .local ∨ sc.names.lookup x = some .cell
  nofree:∀ y ∈ sc.names,y.2 ≠ .free
theorem bindL_out {kindOf:Str → Option NameKind} {x:Str}:∀ {binds:List (Str × Value)} {m:Str → Option Value},(∀ v,(x,v) ∉ binds) → bindL kindOf binds m x = m x
  | [],_,_ => rfl
  | (n,v) :: r,m,h => by
    unfold bindL
    rw [bindL_out fun w hw => h w (List.mem_cons_of_mem _ hw)]
    split
    · have:x ≠ n:=by rintro rfl; exact h v List.mem_cons_self
      simp [this]
    · rfl
theorem bindC_out {kindOf:Str → Option NameKind} {x:Str}:∀ {binds:List (Str × Value)} {m:Str → Option Value},(∀ v,(x,v) ∉ binds) → bindC kindOf binds m x = m x
  | [],_,_ => rfl
  | (n,v) :: r,m,h => by
    unfold bindC
    rw [bindC_out fun w hw => h w (List.mem_cons_of_mem _ hw)]
    split
    · rfl
    · have:x ≠ n:=by rintro rfl; exact h v List.mem_cons_self
      simp [this]
theorem bindL_get {kindOf:Str → Option NameKind} {x:Str} {v:Value}:∀ {P:List Str} {vs:List Value} {i:Nat} {m:Str → Option Value},P.Nodup → P[i]? = some x → vs[i]? = some v → kindOf x = some .local →
    bindL kindOf (P.zip vs) m x = some v
  | [],_,_,_,_,h,_,_ => by simp at h
  | _ :: _,[],_,_,_,_,h,_ => by simp at h
  | p :: P,w :: vs,0,m,nd,h1,h2,hk => by
    simp at h1 h2; subst h1; subst h2
    show bindL kindOf ((p,w) :: P.zip vs) m p = _
    unfold bindL
    rw [bindL_out fun v hv => (List.nodup_cons.mp nd).1 (List.of_mem_zip hv).1,if_pos hk]
    simp
  | p :: P,w :: vs,i + 1,m,nd,h1,h2,hk => by
    show bindL kindOf ((p,w) :: P.zip vs) m x = _
    unfold bindL
    exact bindL_get (i:=i) (List.nodup_cons.mp nd).2 (by simpa using h1) (by simpa using h2) hk
theorem bindC_get {kindOf:Str → Option NameKind} {x:Str} {v:Value}:∀ {P:List Str} {vs:List Value} {i:Nat} {m:Str → Option Value},P.Nodup → P[i]? = some x → vs[i]? = some v → kindOf x ≠ some .local →
    bindC kindOf (P.zip vs) m x = some v
  | [],_,_,_,_,h,_,_ => by simp at h
  | _ :: _,[],_,_,_,_,h,_ => by simp at h
  | p :: P,w :: vs,0,m,nd,h1,h2,hk => by
    simp at h1 h2; subst h1; subst h2
    show bindC kindOf ((p,w) :: P.zip vs) m p = _
    unfold bindC
    rw [bindC_out fun v hv => (List.nodup_cons.mp nd).1 (List.of_mem_zip hv).1,if_neg hk]
    simp
  | p :: P,w :: vs,i + 1,m,nd,h1,h2,hk => by
    show bindC kindOf ((p,w) :: P.zip vs) m x = _
    unfold bindC
    exact bindC_get (i:=i) (List.nodup_cons.mp nd).2 (by simpa using h1) (by simpa using h2) hk
def start (N:List Str) (vs:List V):St:=vs.map some ++ List.replicate (N.length - vs.length) none
def cxOf (CX:CXT) (P:Program) (w:World) (K:PySem.W.Frag) (mg:Str → Option Value) (base:Heap) (N:List Str) (qual:Str) (scope:Scope) (f:Addr) (cd:Value) (A:Around) (outer:List Env) (s:Shared) (H:Hp) (E:XK):Cx where
  prog:=P
  w:=w
  K:=K
  mg:=mg
  base:=base
  A:=A.deeper (envOfC qual scope s.heap.objs.size f cd)
  N:=N
  s₀:=s
  H₀:=H
  env:=envOfC qual scope s.heap.objs.size f cd
  outer:=outer
  stack:=envOfC qual scope s.heap.objs.size f cd :: outer
  ex:=[]
  calm:=true
  fn:=fun _ => true
  pn:=[]
  xe:=fun e s' => wpAny (model P w) (A.deeper (envOfC qual scope s.heap.objs.size f cd)) (leaving (envOfC qual scope s.heap.objs.size f cd) e) (fun _ s'' => CX outer H s E e s'') (fun e' s'' => CX outer H s E e' s'') s'
theorem cell_has {sc:Scope} {n:Nat} {x:Str} (h:sc.names.lookup x = some .cell):∃ c,(cellsFrom n sc.names []).lookup x = some c:=by
  have q:=PySem.W.cellsFrom_some sc.names n [] (.inl h)
  exact Option.isSome_iff_exists.mp q
theorem inv_start {CX:CXT} {P:Program} {w:World} {K:PySem.W.Frag} {mg:Str → Option Value} {base:Heap} {N ps:List Str} {qual:Str} {scope:Scope} {f:Addr} {cd:Value} {A:Around} {outer:List Env} {s s1:Shared} {H:Hp} {E:XK} {us:List Value} {vs:List V}
    (S:FnScope N ps scope) (hd:A.handled = none) (e0:Env0 P w K mg base A outer s H) (hl:vs.length = ps.length) (r:Vals vs us)
    (x:InCallC s s.heap.objs.size (bindL (envOfC qual scope s.heap.objs.size f cd).kindOf (ps.zip us) fun _ => none) (cellsFrom (s.heap.objs.size + 1) scope.names []) (bindC (envOfC qual scope s.heap.objs.size f cd).kindOf (ps.zip us) fun _ => none) s1) :
    Inv (cxOf CX P w K mg base N qual scope f cd A outer s H E) [] (start N vs) H s1:=by
  have hpl:ps.length ≤ N.length:=by have:=congrArg List.length S.pre; rw [List.length_take] at this; omega
  obtain ⟨h1,tk,rfl,hk⟩:=x.done
  have noA:∀ b:Addr,b ∉ (cxOf CX P w K mg base N qual scope f cd A outer s H E).ex:=fun b z => absurd (show b ∈ ([]:List Addr) from z) (by simp)
  refine ⟨⟨e0.mod,S.kind,rfl,rfl,Nat.le_refl _,fun y z c h1 h2 => ?_,fun y hy => ?_,fun y c _ h => ?_,fun _ => hd,Around.frames_deeper e0.frames,.inr ⟨rfl,rfl⟩,fun b z => absurd z (noA b),e0.bs,e0.bsz,fun b _ _ => noA b,fun b z => absurd z (noA b),e0.funs,e0.frf⟩,
    rfl,e0.bare,Un.kept hk,⟨_,x.toInCall.ns,fun i y v h1 h2 h3 => ?_⟩,fun y c h => ⟨_,x.cell y c h⟩,e0.hok.fresh (Nat.le_refl _),fun y c h => ?_,fun p hp => absurd (show p ∈ ([]:List (Addr × Obj)) from hp) (by simp),e0.hok.kept hk,?_⟩
  · exact name_of_addr x.apart (PySem.mem_of_lookup h1) (PySem.mem_of_lookup h2)
  · have hy:scope.names.lookup y = some .cell ∨ scope.names.lookup y = some .free:=hy
    rcases hy with hy | hy
    · exact cell_has hy
    · exact absurd rfl (S.nofree _ (PySem.mem_of_lookup hy))
  · exact Nat.le_of_lt (x.above y c (PySem.mem_of_lookup h))
  · have hi:i < vs.length:=by
      unfold start at h2
      by_cases hi:i < vs.length
      · exact hi
      · rw [List.getElem?_append_right (by simpa using hi)] at h2
        rw [List.getElem?_replicate] at h2
        split at h2 <;> cases h2
    have ha:vs[i]? = some v:=by
      unfold start at h2
      rw [List.getElem?_append_left (by simpa using hi),List.getElem?_map] at h2
      cases e:vs[i]? with
      | none => rw [e] at h2; cases h2
      | some a => rw [e] at h2; cases h2; rfl
    obtain ⟨u,hu,rv⟩:=r.get ha
    have hp:ps[i]? = some y:=by
      rw [← S.pre,List.getElem?_take_of_lt (by omega)]; exact h1
    have ndP:ps.Nodup:=by rw [← S.pre]; exact S.nd.sublist (List.take_sublist _ _)
    refine ⟨u,rv,?_⟩
    rcases S.par y (List.mem_of_getElem? hp) with k | k
    · exact .inl ⟨k,bindL_get ndP hp hu k⟩
    · obtain ⟨c,e⟩:=cell_has (n:=s.heap.objs.size + 1) k
      refine .inr ⟨.inl k,c,e,?_⟩
      have q:=x.cell y c e
      rw [bindC_get ndP hp hu (by show scope.names.lookup y ≠ _; rw [k]; decide)] at q
      exact q
  · exact e0.hok.fresh (Nat.le_of_lt (x.above y c (PySem.mem_of_lookup h)))
  · unfold start
    show _ = N.length
    rw [List.length_append,List.length_map,List.length_replicate]
    omega
theorem fn_of {CX:CXT} {P:Program} {w:World} {K:PySem.W.Frag} {mg:Str → Option Value} {base:Heap} {k:Nat} {f:Addr} {name qual:Str} {params:Arguments} {body:List Stmt} {scope:Scope} {dV kV doc pm cdv ct oc:Value} {an od:Option Addr}
    {osl:Array (Option Value)} {N ps:List Str} {sp:Sp} (lk:K.lookup f = some ⟨oc,od,.func (PySem.W.fnOf name qual params body scope dV kV doc pm an cdv ct),osl⟩) (hcd:PySem.W.codeIn K cdv qual = true) (S:FnScope N ps scope)
    (len:∀ vs H Q E,sp vs H Q E → vs.length = ps.length)
    (hbody:∀ (A:Around) (outer:List Env) (s:Shared) (H:Hp) (vs:List V) (Q:VK) (E:XK),Room k (A.deeper (envOfC qual scope s.heap.objs.size f cdv)) → sp vs H Q E →
      ∃ t,PSs (cxOf CX P w K mg base N qual scope f cdv A outer s H E) body t ∧ t { nx:=fun _ H' => Q .non H',rt:=Q } (start N vs) H) :
    FnOk P w K mg base CX (k + 1) f (PySem.W.fnOf name qual params body scope dV kV doc pm an cdv ct) ps sp:=by
  refine ⟨len,fun A outer s H args us vs Q E hr e0 hb r hsp => ?_⟩
  have hl:=len _ _ _ _ hsp
  have KX:K.In s.heap:=e0.mod.kin.keeps fun b o e => (e0.bs b o e).1
  have lim:s.heap.NoLimit:=e0.mod.nolimit.keeps fun b o e => (e0.bs b o e).1
  have hkind:∀ y ∈ ps.zip us,scope.names.lookup y.1 = some .local ∨ (scope.names.lookup y.1 = some .cell ∧ ((cellsFrom (s.heap.objs.size + 1) scope.names []).lookup y.1).isSome = true):=fun ⟨n,v⟩ hy => by
    rcases S.par n (List.of_mem_zip hy).1 with q | q
    · exact .inl q
    · exact .inr ⟨q,PySem.W.cellsFrom_some _ _ _ (.inl q)⟩
  refine codeAny_call_function hr.depth (KX _ _ lk) rfl S.co S.gen rfl (PySem.W.codeRec_of KX hcd) (hb _ _ _ _ ?_)
  refine wpAny_newFunctionEnv_cells S.kind hkind fun env he s1 x => ?_
  subst he
  refine ⟨lim.keeps x.toInCall.keep,codeAny_func ?_⟩
  obtain ⟨t,ht,hq⟩:=hbody A outer s H vs Q E (hr.deeper _) hsp
  have I:Inv (cxOf CX P w K mg base N qual scope f cdv A outer s H E) [] (start N vs) H s1:=inv_start S hr.hd e0 hl r x
  refine wpAny_mono (ht [] s1 (start N vs) H _ I hq) (fun fl s' hs => ?_) fun e s' hs => hs
  have fin:∀ {σ':St} {H':Hp} {v:V} {u:Value},Inv (cxOf CX P w K mg base N qual scope f cdv A outer s H E) [] σ' H' s' → RelV v u → Q v H' → CE outer P w H s Q u s' :=
    fun {σ' H' v u} J rv q => ⟨v,H',J.os,J.bare,J.base,J.hok,rv,q⟩
  cases fl with
  | ret u =>
    obtain ⟨v,σ',H',J,rv,q⟩:=hs
    exact fin J rv q
  | next =>
    obtain ⟨σ',H',J,q⟩:=hs
    exact fin (v:=V.non) (u:=Value.none) J rfl q
  | brk =>
    obtain ⟨_,_,_,q⟩:=hs
    exact False.elim q
  | cont =>
    obtain ⟨_,_,_,q⟩:=hs
    exact False.elim q
end L2
namespace L2
open PySem PySem.Spec PyProof.Rows
section
variable {X:Cx} {x:Str} {p pos:Pos} {e:Expr} {es:List Expr} {t:TA} {id T:String} {r:List V → Hp → VK → Prop}
def tCB (r:List V → Hp → VK → Prop) (t:TA):TE:=fun σ H Q => t σ H fun vs H1 => r vs H1 Q
theorem pe_callB (hc:CallR X (.builtin id) r) (hg:Gl X x) (hm:X.mg x = none) (hv:bootBuiltins x = some (.builtin id)) (ha:PA X (e :: es) t) (hn:x ≠ "__name__" := by decide) (hdb:(x == ("__debug__" : Str)) = false:=by decide)
    (he:starEach (e :: es) X.env = (false,eval e X.env) :: starEach es X.env:=by rfl) (hpl:(backTo pos (starEach es X.env)).any (·.1) = false:=by rfl):PE X (.Call (.Name x p) (e :: es) [] pos) (tCB r t):=by
  intro pins s σ H Q I h
  refine wpAny_Call_Name_kw (ld_blt I hg hm hv ?_ hn hdb)
  exact PyProof.Rows.callWith_builtin1 (thn (ha pos pins s σ H _ I h) fun us s1 ⟨vs,H1,I1,r1,q1⟩ => hc pins s1 σ H1 vs us Q I1 r1 q1) he hpl
theorem pe_callTy (hc:CallR X (.type T) r) (hg:Gl X x) (hm:X.mg x = none) (hv:bootBuiltins x = some (.type T)) (ha:PA X (e :: es) t) (hn:x ≠ "__name__" := by decide) (hdb:(x == ("__debug__" : Str)) = false:=by decide)
    (he:starEach (e :: es) X.env = (false,eval e X.env) :: starEach es X.env:=by rfl) (hpl:(backTo pos (starEach es X.env)).any (·.1) = false:=by rfl):PE X (.Call (.Name x p) (e :: es) [] pos) (tCB r t):=by
  intro pins s σ H Q I h
  refine wpAny_Call_Name_kw (ld_blt I hg hm hv ?_ hn hdb)
  exact PyProof.Rows.callWith_type1 (thn (ha pos pins s σ H _ I h) fun us s1 ⟨vs,H1,I1,r1,q1⟩ => hc pins s1 σ H1 vs us Q I1 r1 q1) he hpl
end
end L2
namespace HT
open PySem PyProof.Rows
section
open PySem.SeqAt
open PySem.AutoSeq1 (wpAny_loadPart')
open PySem.MeetsSeq PySem.MeetsSeq2 PySem.MeetsSeq3
end
section
variable {prog:Program} {w:World} {A:Around} {E:Value → Shared → Prop} {s:Shared}
def sIx (n d:Nat):Option Int → Nat
  | none => d
  | some v => if v < 0 then (v + (n:Int)).toNat else min v.toNat n
theorem sIx_none (n d:Nat):sIx n d none = d:=rfl
theorem sIx_nat (n d k:Nat):sIx n d (some (k:Int)) = min k n:=by
  show (if (k:Int) < 0 then ((k:Int) + (n:Int)).toNat else min (k:Int).toNat n) = min k n
  rw [if_neg (by omega),Int.toNat_natCast]
end
end HT
namespace L2
open PySem PySem.Spec PyProof.Rows
abbrev TO:=St → Hp → (Option Int → Hp → Prop) → Prop
def PO (X:Cx) (e:Option Expr) (t:TO):Prop :=
  ∀ (pins:List (Addr × Obj)) (s:Shared) (σ:St) (H:Hp) (Q:Option Int → Hp → Prop),Inv X pins σ H s → t σ H Q →
    wpAny (model X.prog X.w) X.A (evalPart e X.env) (fun u s' => ∃ o H',Inv X pins σ H' s' ∧ IsPart u o ∧ Q o H') X.xe s
def tNoPart:TO:=fun _ H Q => Q none H
def tPart (t:TE):TO:=fun σ H Q => t σ H fun x H1 => ∃ i,x = .int i ∧ Q (some i) H1
section
variable {X:Cx} {e:Expr} {te:TE} {lo hi:Option Expr} {tl th:TO} {pos p2:Pos}
theorem po_none:PO X none tNoPart:=by
  intro pins s σ H Q I h
  rw [evalPart_none]
  exact wpAny_pure ⟨none,H,I,.none,h⟩
theorem po_some (h:PE X e te):PO X (some e) (tPart te):=by
  intro pins s σ H Q I hw
  rw [evalPart_some]
  refine thn (h pins s σ H _ I hw) fun u s1 ⟨x,H1,I1,r1,q1⟩ => ?_
  obtain ⟨i,rfl,q⟩:=q1
  obtain ⟨t,rfl⟩:=r1
  exact ⟨some i,H1,I1,.int i t,q⟩
def SlR (X:Cx) (r:V → Option Int → Option Int → Hp → VK → Prop):Prop :=
  ∀ (pins:List (Addr × Obj)) (s:Shared) (σ:St) (H:Hp) (x:V) (v vl vu:Value) (lo hi:Option Int) (sl:Addr) (Q:VK),Inv X pins σ H s → RelV x v → s.heap.IsSliceOf sl vl vu .none → IsPart vl lo → IsPart vu hi → r x lo hi H Q →
    ∃ T id,typeLookup (.type T) "__getitem__" = pure (some (.builtin id)) ∧ s.TypeIs v T ∧ wpAny (model X.prog X.w) X.A (getItem v (.ref sl)) (EP X pins σ Q) X.xe s
theorem SlR.or {r r':V → Option Int → Option Int → Hp → VK → Prop} (h:SlR X r) (h':SlR X r'):SlR X (fun x lo hi H Q => r x lo hi H Q ∨ r' x lo hi H Q):=by
  intro pins s σ H x v vl vu lo hi sl Q I rx hs pl pu q
  rcases q with q | q
  · exact h pins s σ H x v vl vu lo hi sl Q I rx hs pl pu q
  · exact h' pins s σ H x v vl vu lo hi sl Q I rx hs pl pu q
def tSl (r:V → Option Int → Option Int → Hp → VK → Prop) (te:TE) (tl th:TO):TE:=fun σ H Q => te σ H fun x H1 => tl σ H1 fun l H2 => th σ H2 fun u H3 => r x l u H3 Q
theorem pe_slice {r:V → Option Int → Option Int → Hp → VK → Prop} (hr:SlR X r) (he:PE X e te) (hl:PO X lo tl) (hu:PO X hi th):PE X (.Subscript e (.Slice lo hi none p2) pos) (tSl r te tl th):=by
  intro pins s σ H Q I h
  refine Subscript_ (thn (he pins s σ H _ I h) fun v s1 ⟨x,H1,I1,r1,q1⟩ => ?_)
  refine wpAny_Slice (thn (hl pins s1 σ H1 _ I1 q1) fun vl s2 ⟨l,H2,I2,pl,q2⟩ => thn (hu pins s2 σ H2 _ I2 q2) fun vu s3 ⟨u,H3,I3,pu,q3⟩ => ?_)
  rw [evalPart_none]
  refine wpAny_pure ?_
  have I4:Inv X pins σ H3 { s3 with heap:=s3.heap.push { cls:=.type "slice", data:=.fields #[vl,vu,.none] } }:=I3.kept (t':=s3.toks) fun b ob q => Heap.get?_push_of_some _ q
  obtain ⟨T,id,hT,ht,hg⟩:=hr pins { s3 with heap:=s3.heap.push { cls:=.type "slice", data:=.fields #[vl,vu,.none] } } σ H3 x v vl vu l u s3.heap.objs.size Q I4 r1 (Heap.IsSliceOf.new ..) pl pu q3
  show wpAny (model X.prog X.w) X.A (subscriptTail e (.Slice lo hi none p2) v (.ref s3.heap.objs.size)) (EP X pins σ Q) X.xe { s3 with heap:=s3.heap.push { cls:=.type "slice", data:=.fields #[vl,vu,.none] } }
  exact tail_any (ops:=[.ref s3.heap.objs.size,v]) ht hT hg (by with_unfolding_all rfl)
def cutV (xs:List V) (lo hi:Option Int):List V:=(xs.drop (HT.sIx xs.length 0 lo)).take (HT.sIx xs.length xs.length hi - HT.sIx xs.length 0 lo)
theorem cutV_length (xs:List V) (lo hi:Option Int):(cutV xs lo hi).length ≤ xs.length:=by
  unfold cutV
  rw [List.length_take,List.length_drop]
  omega
end
end L2
namespace L2
open PySem PySem.Spec PyProof.Rows
def ixN (n:Nat) (i:Int):Option Nat:=if 0 ≤ i then (if i < n then some i.toNat else none) else if -(n:Int) ≤ i then some (i + n).toNat else none
def atI {α:Type} (xs:List α) (i:Int):Option α:=(ixN xs.length i).bind fun j => xs[j]?
theorem ixN_seq {n:Nat} {i:Int} {j:Nat} (h:ixN n i = some j):seqIndex? i n = some j ∧ j < n ∧ -(n:Int) ≤ i ∧ i < n:=by
  unfold ixN at h
  by_cases h0:0 ≤ i
  · rw [if_pos h0] at h
    by_cases h1:i < n
    · rw [if_pos h1] at h
      have e:i.toNat = j:=Option.some.inj h
      exact ⟨by rw [seqIndex_of h0 h1,e],by omega,by omega,h1⟩
    · rw [if_neg h1] at h; cases h
  · rw [if_neg h0] at h
    by_cases h1:-(n:Int) ≤ i
    · rw [if_pos h1] at h
      have e:(i + n).toNat = j:=Option.some.inj h
      exact ⟨by rw [seqIndex_neg (by omega) h1,e],by omega,h1,by omega⟩
    · rw [if_neg h1] at h; cases h
theorem atI_get {α:Type} {xs:List α} {i:Int} {v:α} (h:atI xs i = some v):∃ j,seqIndex? i xs.length = some j ∧ xs[j]? = some v ∧ j < xs.length ∧ -(xs.length:Int) ≤ i ∧ i < xs.length:=by
  unfold atI at h
  cases e:ixN xs.length i with
  | none => rw [e] at h; cases h
  | some j =>
    rw [e] at h
    obtain ⟨h1,h2,h3,h4⟩:=ixN_seq e
    exact ⟨j,h1,h,h2,h3,h4⟩
theorem atI_nat {α:Type} {xs:List α} {j:Nat} {v:α} (h:xs[j]? = some v):atI xs (j:Int) = some v:=by
  have hj:j < xs.length:=(List.getElem?_eq_some_iff.mp h).1
  have e:ixN xs.length (j:Int) = some j:=by
    unfold ixN
    rw [if_pos (by omega),if_pos (by omega)]; simp
  unfold atI; rw [e]; exact h
def PlainIx (b:Expr):Prop:=∀ o i,subscripted b false o i = operate [o,i] (getItem o i)
def IxR (X:Cx) (r:R2):Prop :=
  ∀ (value slice:Expr) (pins:List (Addr × Obj)) (s:Shared) (σ:St) (H:Hp) (x y:V) (v u:Value) (Q:VK),Inv X pins σ H s → RelV x v → RelV y u → r x y H Q →
    subscripted slice false v u = operate [v,u] (getItem v u) → wpAny (model X.prog X.w) X.A (subscriptTail value slice v u) (EP X pins σ Q) X.xe s
def MtR (X:Cx) (id:String) (r:V → List V → Hp → VK → Prop):Prop :=
  ∀ (pins:List (Addr × Obj)) (s:Shared) (σ:St) (H:Hp) (x:V) (xs:List V) (v:Value) (us:List Value) (Q:VK),Inv X pins σ H s → RelV x v → Vals xs us → r x xs H Q →
    wpAny (model X.prog X.w) X.A (call (.builtin id) (v :: us)) (EP X pins σ Q) X.xe s
section
variable {X:Cx} {a b:Expr} {ta tb:TE} {pos:Pos}
theorem IxR.or {r r':R2} (h:IxR X r) (h':IxR X r'):IxR X (fun x y H Q => r x y H Q ∨ r' x y H Q):=by
  intro value slice pins s σ H x y v u Q I rx ry q hs
  rcases q with q | q
  · exact h value slice pins s σ H x y v u Q I rx ry q hs
  · exact h' value slice pins s σ H x y v u Q I rx ry q hs
theorem MtR.or {id:String} {r r':V → List V → Hp → VK → Prop} (h:MtR X id r) (h':MtR X id r'):MtR X id (fun x xs H Q => r x xs H Q ∨ r' x xs H Q):=by
  intro pins s σ H x xs v us Q I rx rs q
  rcases q with q | q
  · exact h pins s σ H x xs v us Q I rx rs q
  · exact h' pins s σ H x xs v us Q I rx rs q
theorem pe_ix {r:R2} (hr:IxR X r) (ha:PE X a ta) (hb:PE X b tb) (hs:PlainIx b):PE X (.Subscript a b pos) (tOp r ta tb):=by
  intro pins s σ H Q I h
  exact Subscript_ (binT ha hb I h fun v u s2 x y H2 I2 rx ry q => hr a b pins s2 σ H2 x y v u Q I2 rx ry q (hs _ _))
def rIxL (K:PySem.W.Frag):R2:=fun x y H Q => ∃ p xs i v,x = .ref p ∧ y = .int i ∧ SqL K H p xs ∧ atI xs i = some v ∧ Q v H
def rIxT (K:PySem.W.Frag):R2:=fun x y H Q => ∃ p xs i v,x = .ref p ∧ y = .int i ∧ SqT K H p xs ∧ atI xs i = some v ∧ Q v H
theorem ix_list:IxR X (rIxL X.K):=by
  intro value slice pins s σ H x y v u Q I rx ry h hs
  obtain ⟨p,xs,i,z,rfl,rfl,hq,he,q⟩:=h
  cases rx
  obtain ⟨t,rfl⟩:=ry
  obtain ⟨its,r,pl,hz⟩:=I.list hq
  obtain ⟨j,h1,h2,h3,h4,h5⟩:=atI_get he
  obtain ⟨w,ew,rw'⟩:=r.get h2
  have hl:=r.length
  have hn:=line63
  have fin:EP X pins σ Q w s:=⟨z,H,I,rw',q⟩
  by_cases h0:0 ≤ i
  · have hj:i.toNat = j:=by
      rw [seqIndex_of h0 h5] at h1
      exact Option.some.inj h1
    exact item_listR pl.isList h0 (by omega) (by rw [hj]; simpa using ew) fin hs
  · have hj:(i + (its.toArray.size:Int)).toNat = j:=by
      rw [seqIndex_neg (by omega) h4] at h1
      rw [List.size_toArray,← hl]
      exact Option.some.inj h1
    exact subscriptTail_builtinR (x:=w) pl.isList.typeIs slot_list_getitem.lookup
      (wpAny_getItem_list_neg (Q:=fun r s' => r = w ∧ EP X pins σ Q r s') pl.isList (by omega) (by rw [List.size_toArray] <;> omega) (by omega) (by rw [hj]; simpa using ew) ⟨rfl,fin⟩) hs
theorem ix_tup:IxR X (rIxT X.K):=by
  intro value slice pins s σ H x y v u Q I rx ry h hs
  obtain ⟨p,xs,i,z,rfl,rfl,hq,he,q⟩:=h
  cases rx
  obtain ⟨t,rfl⟩:=ry
  obtain ⟨its,r,pl,hz⟩:=I.tuple hq
  obtain ⟨j,h1,h2,h3,h4,h5⟩:=atI_get he
  obtain ⟨w,ew,rw'⟩:=r.get h2
  have hl:=r.length
  have hn:=line63
  have fin:EP X pins σ Q w s:=⟨z,H,I,rw',q⟩
  exact subscriptTail_builtinR (x:=w) pl.typeIs slot_tuple_getitem.lookup
    (getItem_tuple (j:=j) (Q:=fun r s' => r = w ∧ EP X pins σ Q r s') pl (by omega) (by omega) (by rw [List.size_toArray,← hl]; exact h1) (by simpa using ew) ⟨rfl,fin⟩) hs
theorem mapSeq_set (its:List Value) (n j:Nat) (u:Value):Obj.mapSeq (·.setIfInBounds j u) { cls:=.type "list", data:=.seq its.toArray n } = { cls:=.type "list", data:=.seq (its.set j u).toArray n }:=by
  simp [Obj.mapSeq]
theorem Inv.lst {pins:List (Addr × Obj)} {σ:St} {H:Hp} {s:Shared} {p:Addr} {xs:List V} (I:Inv X pins σ H s) (h:H p = some (.lst xs)) :
    ∃ (its:List Value) (n:Nat),Vals xs its ∧ s.heap.get? p = some { cls:=.type "list", data:=.seq its.toArray n } ∧ xs.length ≤ sizeLine:=by
  obtain ⟨z,its,n,r,e⟩:=I.hok p _ h
  exact ⟨its,n,r,e,z⟩
theorem Inv.lstUpd {pins:List (Addr × Obj)} {σ:St} {H:Hp} {s:Shared} {p:Addr} {xs ys:List V} {its its':List Value} {n n':Nat} {f:Obj → Obj} (I:Inv X pins σ H s) (h:H p = some (.lst xs))
    (ho:s.heap.get? p = some { cls:=.type "list", data:=.seq its.toArray n }) (hf:f { cls:=.type "list", data:=.seq its.toArray n } = { cls:=.type "list", data:=.seq its'.toArray n' }) (r:Vals ys its') (hz:ys.length ≤ sizeLine) (t:Nat) :
    Inv X pins σ (upd H p (.lst ys)) { s with heap:=s.heap.update p f,toks:=t }:=by
  have e:(s.heap.update p f).get? p = some { cls:=.type "list", data:=.seq its'.toArray n' }:=by
    rw [Heap.get?_update_self f ho (by rw [hf] <;> rfl),hf]
  refine I.write (x:=p) (e:=p) (by rw [h]; trivial) (.inl rfl) (fun b u hb q => (Heap.get?_update_other _ _ (Ne.symm hb)).trans q) ⟨_,e⟩ ?_
  exact ⟨hz,its',n',r,e⟩
def rSetL:V → V → V → Hp → (Hp → Prop) → Prop:=fun o i v H Q => ∃ p xs k j,o = .ref p ∧ i = .int k ∧ H p = some (.lst xs) ∧ ixN xs.length k = some j ∧ Q (upd H p (.lst (xs.set j v)))
theorem set_list:PSet X rSetL:=by
  intro pins s σ H o i v ov iv u Q I ro ri rv h
  obtain ⟨p,xs,k,j,rfl,rfl,hp,hj,q⟩:=h
  cases ro
  obtain ⟨t,rfl⟩:=ri
  obtain ⟨its,n,r,ho,hz⟩:=I.lst hp
  obtain ⟨h1,h2,h3,h4⟩:=ixN_seq hj
  have hl:=r.length
  have hn:=line63
  have I':Inv X pins σ (upd H p (.lst (xs.set j v))) { s with heap:=s.heap.update p (Obj.mapSeq (·.setIfInBounds j u)) } :=
    I.lstUpd hp ho (mapSeq_set its n j u) (r.set rv j) (by rw [List.length_set]; exact hz) s.toks
  by_cases h0:0 ≤ k
  · have hk:k.toNat = j:=by
      rw [seqIndex_of h0 h4] at h1
      exact Option.some.inj h1
    exact PySem.W.ki_setAt ho h0 (by omega) (by rw [List.size_toArray,← hl]; exact h4) (by rw [hk]; exact ⟨_,I',q⟩)
  · have hk:(k + (its.toArray.size:Int)).toNat = j:=by
      rw [seqIndex_neg (by omega) h3] at h1
      rw [List.size_toArray,← hl]
      exact Option.some.inj h1
    exact PySem.W.ki_setBack ho (by omega) (by rw [List.size_toArray,← hl]; exact h3) (by omega) (by rw [hk]; exact ⟨_,I',q⟩)
theorem slice_bounds (lo hi:Option Int) (n:Nat):(sliceBounds lo hi none n).1 = ((HT.sIx n 0 lo:Nat):Int) ∧ (sliceBounds lo hi none n).2.1 = ((HT.sIx n n hi:Nat):Int) ∧ (sliceBounds lo hi none n).2.2 = 1:=by
  refine ⟨?_,?_,rfl⟩
  · cases lo with
    | none => simp [sliceBounds,HT.sIx]
    | some i =>
      simp only [sliceBounds,HT.sIx,Option.getD_none,show (1:Int) > 0 by decide,if_true]
      by_cases h:i < 0
      · simp only [h,if_true] <;> omega
      · simp only [h,if_false] <;> omega
  · cases hi with
    | none => simp [sliceBounds,HT.sIx]
    | some i =>
      simp only [sliceBounds,HT.sIx,Option.getD_none,show (1:Int) > 0 by decide,if_true]
      by_cases h:i < 0
      · simp only [h,if_true] <;> omega
      · simp only [h,if_false] <;> omega
theorem slicePick_cut (its:List Value) (lo hi:Option Int):slicePick its.toArray lo hi none = ((its.drop (HT.sIx its.length 0 lo)).take (HT.sIx its.length its.length hi - HT.sIx its.length 0 lo)).toArray:=by
  obtain ⟨h1,h2,h3⟩:=slice_bounds lo hi its.toArray.size
  unfold slicePick
  rw [h1,h2,h3]
  simp only [sliceRange_one,pick_run,List.size_toArray] <;> rfl
def rSlL (K:PySem.W.Frag):V → Option Int → Option Int → Hp → VK → Prop:=fun x lo hi H Q => ∃ a xs,x = .ref a ∧ SqL K H a xs ∧ ∀ p,H p = none → Q (.ref p) (upd H p (.lst (cutV xs lo hi)))
theorem sl_list:SlR X (rSlL X.K):=by
  intro pins s σ H x v vl vu lo hi sl Q I rx hs pl pu h
  obtain ⟨a,xs,rfl,hx,q⟩:=h
  cases rx
  obtain ⟨its,r,ht,hz⟩:=I.list hx
  have hlen:=r.length
  refine ⟨"list", _,slot_list_getitem.lookup,ht.isList.typeIs,?_⟩
  refine wpAny_getItem_list_slice ht.isList hs pl pu .none (by simp) ?_ (by rw [List.size_toArray] <;> omega)
  rw [slicePick_cut,← hlen]
  refine ⟨.ref s.heap.objs.size,_,I.laid (t':=s.toks) (o:=.lst (cutV xs lo hi)) (fun b ob q => Heap.get?_push_of_some _ q) (Nat.le_refl _) ?_,rfl,q _ (I.hok.fresh (Nat.le_refl _))⟩
  exact ⟨Nat.le_trans (cutV_length xs lo hi) hz,_,0,(r.drop (HT.sIx xs.length 0 lo)).take (HT.sIx xs.length xs.length hi - HT.sIx xs.length 0 lo),Heap.get?_push_size _ rfl⟩
theorem call_len_seq:CallR X (.builtin "len") (fun xs H Q => ∃ p ys,xs = [.ref p] ∧ (SqL X.K H p ys ∨ SqT X.K H p ys) ∧ Q (.int ys.length) H):=by
  intro pins s σ H xs us Q I r h
  obtain ⟨p,ys,rfl,hq,q⟩:=h
  obtain ⟨u,rfl,rx⟩:=vals1 r
  cases rx
  have hn:=line63
  rcases hq with hq | hq
  · obtain ⟨its,r',pl,hz⟩:=I.list hq
    have hlen:=r'.length
    exact Calls.call_len_list pl.isList (by simp only [List.size_toArray] <;> omega) ⟨.int ys.length,H,I.tok _,⟨s.toks + 1,by rw [List.size_toArray,hlen]⟩,q⟩
  · obtain ⟨its,r',pl,hz⟩:=I.tuple hq
    have hlen:=r'.length
    exact len_tuple pl (by simp only [List.size_toArray] <;> omega) ⟨.int ys.length,H,I.tok _,⟨s.toks + 1,by rw [List.size_toArray,hlen]⟩,q⟩
theorem CallR.or {f:Value} {r r':List V → Hp → VK → Prop} (h:CallR X f r) (h':CallR X f r'):CallR X f (fun xs H Q => r xs H Q ∨ r' xs H Q):=by
  intro pins s σ H xs us Q I rs q
  rcases q with q | q
  · exact h pins s σ H xs us Q I rs q
  · exact h' pins s σ H xs us Q I rs q
theorem call_list_of:CallR X (.type "list") (fun xs H Q => ∃ p ys,xs = [.ref p] ∧ (SqL X.K H p ys ∨ SqT X.K H p ys) ∧ ∀ l,H l = none → Q (.ref l) (upd H l (.lst ys))):=by
  intro pins s σ H xs us Q I r h
  obtain ⟨p,ys,rfl,hq,q⟩:=h
  obtain ⟨u,rfl,rx⟩:=vals1 r
  cases rx
  have fin:∀ (its:List Value),Vals ys its → ys.length ≤ sizeLine → ∀ (h':Heap) (c':Nat),(∀ b o',s.heap.get? b = some o' → h'.get? b = some o') →
      h'.get? s.heap.objs.size = some { cls:=.type "list", dict:=none,data:=.seq its.toArray c',slots:=#[] } → EP X pins σ Q (.ref s.heap.objs.size) { s with heap:=h' }:=fun its r' hz h' c' kp e =>
    ⟨.ref s.heap.objs.size,_,I.laid (t':=s.toks) kp (Nat.le_refl _) (show ObjOk X.prog X.w _ h' _ (.lst ys) from ⟨hz,its,c',r',e⟩),rfl,q _ (I.hok.fresh (Nat.le_refl _))⟩
  rcases hq with hq | hq
  · obtain ⟨its,r',pl,hz⟩:=I.list hq
    have hlen:=r'.length
    obtain ⟨o,ho,hc,n,hd⟩:=pl.isList
    exact call_list_seq p (.inl rfl) ho hc hd (fun h' c' kp e => fin its r' hz h' c' kp e) (by simp only [List.size_toArray] <;> omega)
  · obtain ⟨its,r',pl,hz⟩:=I.tuple hq
    have hlen:=r'.length
    obtain ⟨o,ho,hc,n,hd⟩:=pl
    exact call_list_seq p (.inr rfl) ho hc hd (fun h' c' kp e => fin its r' hz h' c' kp e) (by simp only [List.size_toArray] <;> omega)
def tyV (K:PySem.W.Frag) (T:String) (x:V) (H:Hp):Prop:=match x with
  | .str _ => T = "str"
  | .int _ => T = "int"
  | .ref p => (T = "list" ∧ ∃ xs,SqL K H p xs) ∨ (T = "tuple" ∧ ∃ o,K.lookup p = some o ∧ o.cls = .type "tuple" ∧ o.dict = none) ∨
      (T = "dict" ∧ ((∃ kvs,H p = some (.dK kvs)) ∨ ∃ kvs,H p = some (.dT kvs))) ∨ (T = "set" ∧ ∃ S n,H p = some (.set S n))
  | _ => False
theorem tyV_is {pins:List (Addr × Obj)} {σ:St} {H:Hp} {s:Shared} {T:String} {x:V} {v:Value} (I:Inv X pins σ H s) (r:RelV x v) (ty:tyV X.K T x H) :
    s.TypeIs v T ∧ ∀ a,v = .ref a → ∃ ob,s.heap.get? a = some ob ∧ ob.dict = none:=by
  cases x with
  | str z =>
    obtain ⟨t,rfl⟩:=r
    cases (show T = "str" from ty)
    exact ⟨typeIs_str s z t,fun _ e => nomatch e⟩
  | int i =>
    obtain ⟨t,rfl⟩:=r
    cases (show T = "int" from ty)
    exact ⟨typeIs_int s i t,fun _ e => nomatch e⟩
  | ref p =>
    cases r
    rcases ty with ⟨rfl,xs,hq⟩ | ⟨rfl,o,hk,hc,hd⟩ | ⟨rfl,hk⟩ | ⟨rfl,S,n,hk⟩
    · obtain ⟨its,_,pl,_⟩:=I.list hq
      refine ⟨pl.isList.typeIs,fun a e => ?_⟩
      cases e
      obtain ⟨o,n,e,c,hd,_⟩:=pl
      exact ⟨o,e,hd⟩
    · refine ⟨⟨o,I.kIn p o hk,hc⟩,fun a e => ?_⟩
      cases e
      exact ⟨o,I.kIn _ o hk,hd⟩
    · have z:∃ o,s.heap.get? p = some o ∧ o.ExactDict:=by
        rcases hk with ⟨kvs,hk⟩ | ⟨kvs,hk⟩
        · obtain ⟨_,_,_,_,o,_,_,e,ex,_⟩:=I.hok p _ hk
          exact ⟨o,e,ex⟩
        · obtain ⟨_,_,_,_,o,_,_,e,ex,_⟩:=I.hok p _ hk
          exact ⟨o,e,ex⟩
      obtain ⟨o,e,ex⟩:=z
      refine ⟨⟨o,e,ex.1⟩,fun a e2 => ?_⟩
      cases e2
      exact ⟨o,e,ex.2.1⟩
    · obtain ⟨o,_,_,_,e,ex,_⟩:=I.hok p _ hk
      refine ⟨⟨o,e,ex.1⟩,fun a e2 => ?_⟩
      cases e2
      exact ⟨o,e,ex.2.1⟩
  | _ => exact False.elim ty
def tBM0 (K:PySem.W.Frag) (T:String) (r:V → List V → Hp → VK → Prop) (to:TE):TE:=fun σ H Q => to σ H fun x H1 => tyV K T x H1 ∧ r x [] H1 Q
def tBM (K:PySem.W.Frag) (T:String) (r:V → List V → Hp → VK → Prop) (to:TE) (t:TA):TE:=fun σ H Q => to σ H fun x H1 => tyV K T x H1 ∧ t σ H1 fun xs H2 => r x xs H2 Q
variable {o e:Expr} {es:List Expr} {to:TE} {t:TA} {name:Str} {apos cpos:Pos} {T id:String} {r:V → List V → Hp → VK → Prop}
theorem pe_bm0 (pa:PlainAttrs T) (slot:Slot T name id) (hty:typeOf (.builtin id) = pure (.type "method_descriptor")) (hm:MtR X id r) (ho:PE X o to)
    (hbase:attributeBase o name X.env (eval o X.env) = eval o X.env:=by rfl) (hline:(apos.endLine == cpos.line) = true:=by rfl):PE X (.Call (.Attribute o name apos) [] [] cpos) (tBM0 X.K T r to):=by
  intro pins s σ H Q I h
  refine wpAny_Call_method0_late hbase hline (thn (ho pins s σ H _ I h) fun v s1 ⟨x,H1,I1,r1,ty,q1⟩ => ?_)
  obtain ⟨h1,h2⟩:=tyV_is I1 r1 ty
  exact ⟨T,id,pa,slot,hty,h1,h2,Calls.callWith_builtin rfl (PySem.evalArgs_none (hm pins s1 σ H1 x [] v [] Q I1 r1 .nil q1))⟩
theorem pe_bm (pa:PlainAttrs T) (slot:Slot T name id) (hty:typeOf (.builtin id) = pure (.type "method_descriptor")) (hm:MtR X id r) (ho:PE X o to) (ha:PA X (e :: es) t)
    (hbase:attributeBase o name X.env (eval o X.env) = eval o X.env:=by rfl)
    (hfew:((backTo cpos (starEach (e :: es) X.env)).all (fun x => !x.1) && (backToKw cpos (keywordEach [] X.env)).all (fun x => x.1.isSome)
      && decide ((e :: es).length + ([]:List Keyword).length + (if ([]:List Keyword).isEmpty then 0 else 1) < 30)) = true:=by rfl)
    (hline:(apos.endLine == cpos.line) = true:=by rfl) (hs:starEach (e :: es) X.env = (false,eval e X.env) :: starEach es X.env:=by rfl) (hplain:(backTo cpos (starEach es X.env)).any (·.1) = false:=by rfl) :
    PE X (.Call (.Attribute o name apos) (e :: es) [] cpos) (tBM X.K T r to t):=by
  intro pins s σ H Q I h
  refine wpAny_Call_method_late hbase hfew hline rfl (thn (ho pins s σ H _ I h) fun v s1 ⟨x,H1,I1,r1,ty,q1⟩ => ?_)
  obtain ⟨h1,h2⟩:=tyV_is I1 r1 ty
  refine ⟨T,id,pa,slot,hty,h1,h2,?_⟩
  have hA:=ha cpos pins s1 σ H1 _ I1 q1
  rw [hs] at hA ⊢
  refine Calls.callWith_builtin (by show (false || (backTo cpos (starEach es X.env)).any (·.1)) = false; rw [hplain] <;> rfl) (Calls.evalArgs_plain ?_)
  exact thn hA fun us s2 ⟨vs,H2,I2,r2,q2⟩ => hm pins s2 σ H2 x vs v us Q I2 r1 r2 q2
/- xs.append(e),list.index on a module's tuple .. are MtR facts of 06m -/
end
end L2
namespace L2
open PySem PySem.Spec PyProof.Rows
def MtM (X:Cx) (id:String) (r:V → List V → Hp → VK → Prop):Prop :=
  ∀ (pins:List (Addr × Obj)) (s:Shared) (σ:St) (H:Hp) (x:V) (xs:List V) (v:Value) (us:List Value) (Q:VK),Inv X pins σ H s → RelV x v → Vals xs us → r x xs H Q →
    wpAny (model X.prog X.w) X.A (call (.builtin id) (v :: us)) (EP X pins σ Q) X.xe s
theorem Vals.one:∀ {x:V} {us:List Value},Vals [x] us → ∃ u,us = [u] ∧ RelV x u
  | _,_,.cons r .nil => ⟨_,rfl,r⟩
theorem Vals.eraseIdx:∀ {xs:List V} {us:List Value} (i:Nat),Vals xs us → Vals (xs.eraseIdx i) (us.eraseIdx i)
  | _,_,_,.nil => .nil
  | _,_,0,.cons _ t => t
  | _,_,i + 1,.cons r t => .cons r (Vals.eraseIdx i t)
theorem Vals.reverse {xs:List V} {us:List Value} (h:Vals xs us):Vals xs.reverse us.reverse:=by
  induction h with
  | nil => exact .nil
  | cons r t ih => rw [List.reverse_cons,List.reverse_cons]; exact Vals.append ih (.cons r .nil)
theorem len_erase {α:Type}:∀ (l:List α) (i:Nat),(l.eraseIdx i).length ≤ l.length
  | [],_ => Nat.le_refl _
  | _ :: _,0 => Nat.le_succ _
  | _ :: r,i + 1 => Nat.succ_le_succ (len_erase r i)
section
variable {X:Cx} {pins:List (Addr × Obj)} {σ:St} {H:Hp} {s:Shared} {l b:Addr} {xs ys zs:List V}
theorem Inv.lset {its its':List Value} {n:Nat} {f:Array Value → Array Value} {t':Nat} (I:Inv X pins σ H s) (hH:H l = some (.lst xs))
    (e:s.heap.get? l = some { cls:=.type "list", data:=.seq its.toArray n }) (hf:f its.toArray = its'.toArray) (hv:Vals ys its') (hz:ys.length ≤ sizeLine) :
    Inv X pins σ (upd H l (.lst ys)) { s with heap:=s.heap.update l (Obj.mapSeq f),toks:=t' }:=by
  have q:=PySem.IsL.update e f
  rw [hf] at q
  refine I.write (x:=l) (e:=l) (by rw [hH]; exact trivial) (.inl rfl) (fun b' u hb hu => (Heap.get?_update_other s.heap (Obj.mapSeq f) (Ne.symm hb)).trans hu) ⟨_,q⟩ ?_
  exact ⟨hz,its',_,hv,q⟩
theorem Inv.lnew {its:List Value} {t':Nat} (I:Inv X pins σ H s) (hv:Vals ys its) (hz:ys.length ≤ sizeLine) :
    Inv X pins σ (upd H s.heap.objs.size (.lst ys)) { s with heap:=s.heap.push { cls:=.type "list", data:=.seq its.toArray },toks:=t' } :=
  I.laid (fun _ _ q => Heap.get?_push_of_some _ q) (Nat.le_refl _) ⟨hz,its,0,hv,Heap.get?_push_size _ rfl⟩
theorem Inv.fresh (I:Inv X pins σ H s):H s.heap.objs.size = none:=I.hok.fresh (Nat.le_refl _)
theorem Inv.lstM (I:Inv X pins σ H s) (hH:H l = some (.lst xs)):xs.length ≤ sizeLine ∧ ∃ (its:List Value) (n:Nat),Vals xs its ∧ xs.length = its.length ∧ s.heap.get? l = some { cls:=.type "list", data:=.seq its.toArray n }:=by
  obtain ⟨z,its,n,r,e⟩:=I.hok l _ hH
  exact ⟨z,its,n,r,r.length,e⟩
theorem notLongL {n:Nat} (h:n ≤ sizeLine):Builtin.List.listTooLong n = false:=by
  unfold Builtin.List.listTooLong
  exact decide_eq_false (by omega)
end
section
variable {X:Cx}
def rAppend:V → List V → Hp → VK → Prop:=fun x vs H Q => ∃ l xs y,x = .ref l ∧ vs = [y] ∧ H l = some (.lst xs) ∧ xs.length < sizeLine ∧ Q .non (upd H l (.lst (xs ++ [y])))
theorem mt_append:MtM X "list.append" rAppend:=by
  intro pins s σ H x vs v us Q I rx rv h
  obtain ⟨l,xs,y,rfl,rfl,hH,hz,q⟩:=h
  cases rx
  obtain ⟨u,rfl,ru⟩:=rv.one
  obtain ⟨z,its,n,r,hl,e⟩:=I.lstM hH
  refine call_meets F.slot_list_append ⟨_,e,rfl⟩ F.entry_list_append (F.args_list_append_2 _ _) (PySem.list_append l its.toArray n u (by rw [List.size_toArray]; omega)) ⟨e,?_⟩
  refine ⟨.non,_,I.lset (its':=its ++ [u]) hH e (by simp) (r.append (.cons ru .nil)) ?_,rfl,q⟩
  rw [List.length_append,List.length_singleton]
  omega
def rExtend:V → List V → Hp → VK → Prop:=fun x vs H Q => ∃ l b xs zs,x = .ref l ∧ vs = [.ref b] ∧ H l = some (.lst xs) ∧ H b = some (.lst zs) ∧ xs.length + zs.length ≤ sizeLine ∧ Q .non (upd H l (.lst (xs ++ zs)))
theorem mt_extend:MtM X "list.extend" rExtend:=by
  intro pins s σ H x vs v us Q I rx rv h
  obtain ⟨l,b,xs,zs,rfl,rfl,hH,hB,hz,q⟩:=h
  cases rx
  obtain ⟨u,rfl,ru⟩:=rv.one
  cases ru
  obtain ⟨z,its,n,r,hl,e⟩:=I.lstM hH
  obtain ⟨z2,its2,n2,r2,hl2,e2⟩:=I.lstM hB
  have hsz:its.toArray.size + its2.toArray.size ≤ sizeLine:=by rw [List.size_toArray,List.size_toArray]; omega
  have hlong:¬ (!its.toArray.isEmpty && Builtin.List.listTooLong (its.toArray.size + its2.toArray.size)) = true:=by
    rw [notLongL hsz,Bool.and_false]
    exact Bool.false_ne_true
  refine call_meets F.slot_list_extend ⟨_,e,rfl⟩ F.entry_list_extend (F.args_list_extend_2 _ _)
    (AutoSeq1.list_extend_list_list_0 l its.toArray n b its2.toArray n2 hlong (by rw [List.size_toArray]; omega) (by omega)) ⟨e,e2,?_⟩
  refine ⟨.non,_,I.lset (its':=its ++ its2) hH e (by simp) (r.append r2) ?_,rfl,q⟩
  rw [List.length_append]
  omega
def rPopAt:V → List V → Hp → VK → Prop:=fun x vs H Q => ∃ l xs i k y,x = .ref l ∧ vs = [.int i] ∧ H l = some (.lst xs) ∧ -(2 ^ 63) ≤ i ∧ i < 2 ^ 63 ∧ seqIndex? i xs.length = some k ∧ xs[k]? = some y ∧ Q y (upd H l (.lst (xs.eraseIdx k)))
theorem mt_popAt:MtM X "list.pop" rPopAt:=by
  intro pins s σ H x vs v us Q I rx rv h
  obtain ⟨l,xs,i,k,y,rfl,rfl,hH,h1,h2,hk,hy,q⟩:=h
  cases rx
  obtain ⟨u,rfl,ru⟩:=rv.one
  obtain ⟨t,rfl⟩:=ru
  obtain ⟨z,its,n,r,hl,e⟩:=I.lstM hH
  obtain ⟨w,hw,rw'⟩:=r.get hy
  refine call_meets F.slot_list_pop ⟨_,e,rfl⟩ F.entry_list_pop (F.args_list_pop_2 _ _)
    (MeetsSeq.list_pop_at l its.toArray n i t k w (fitsIndex_both h1 h2) (by rw [List.size_toArray,← hl]; exact hk) (by rw [← Array.getElem?_toList]; exact hw) (by rw [List.size_toArray]; omega)) ⟨e,?_⟩
  refine ⟨y,_,I.lset (its':=its.eraseIdx k) hH e ?_ (r.eraseIdx k) ?_,rw',q⟩
  · show its.toArray.eraseIdxIfInBounds k = (its.eraseIdx k).toArray
    rw [List.eraseIdxIfInBounds_toArray]
  · have:=len_erase xs k
    omega
def rCat:R2:=fun x y H Q => ∃ l b xs zs,x = .ref l ∧ y = .ref b ∧ H l = some (.lst xs) ∧ H b = some (.lst zs) ∧ xs.length + zs.length ≤ sizeLine ∧ ∀ p,H p = none → Q (.ref p) (upd H p (.lst (xs ++ zs)))
theorem op_cat:OpR X (binaryOp .Add) rCat:=by
  intro pins s σ H x y v u Q I rx ry h
  obtain ⟨l,b,xs,zs,rfl,rfl,hH,hB,hz,q⟩:=h
  cases rx
  cases ry
  obtain ⟨z,its,n,r,hl,e⟩:=I.lstM hH
  obtain ⟨z2,its2,n2,r2,hl2,e2⟩:=I.lstM hB
  refine PySem.P.add_list e e2 ?_ (by rw [List.size_toArray,List.size_toArray]; omega)
  have ea:its.toArray ++ its2.toArray = (its ++ its2).toArray:=by simp
  rw [ea]
  exact ⟨.ref _,_,I.lnew (t':=s.toks) (r.append r2) (by rw [List.length_append]; omega),rfl,q _ I.fresh⟩
end
section
variable {prog:Program} {w:World} {A:Around} {E:Value → Shared → Prop} {s:Shared}
end
section
variable {X:Cx}
end
end L2
namespace Att
open PySem PySem.W PySem.Calls PyProof.Rows
theorem ints_of_wellAll {P:Params} {h:Heap}:∀ (ns:List Int) (vs:List Value),WellAll P h vs (ns.map WData.int) → IntsAre vs ns:=by
  intro ns
  induction ns with
  | nil =>
    intro vs w
    rw [List.map_nil] at w
    cases w
    exact .nil
  | cons n ns ih =>
    intro vs w
    rw [List.map_cons] at w
    cases w with
    | cons a b =>
      cases a
      exact .cons _ _ (ih _ b)
theorem script_of {l:OpenLaw} {n:Nat} (hn:l.most = some n) {P:Params} {h:Heap} {args:List WData} {vals:List Value}
    (hpre:l.row.toRowW.claim.pre args = true) (hwl:WellAll P h vals args) :
    ∃ a vs ns,vals = [Value.ref a] ∧ args = [WData.list (ns.map WData.int)] ∧ h.get? a = some { cls:=.type "list", data:=.seq vs.toArray } ∧ IntsAre vs ns ∧ ns.length ≤ n:=by
  have hsh:WShape.hasAll [] args [.list .int] = true:=(pre_splitW hpre).1
  have hc:l.pre.holds [] { args:=args } = true:=(pre_splitW hpre).2
  obtain ⟨d,r,rfl,h1,h2⟩:=hasAllW_cons hsh
  obtain rfl:=hasAllW_nil h2
  obtain ⟨xs,rfl,h3⟩:=hasW_list h1
  obtain ⟨ns,rfl⟩:=items_int h3
  have hlen:ns.length ≤ n:=by
    unfold OpenLaw.pre at hc
    have h4:(WTm.not (.lt (.lit (.int (n:Int))) (.len (.arg 0)))).holds [] { args:=[.list (ns.map .int)] } = true:=by
      have h4:=(holds_andW hc).1
      rw [hn] at h4
      exact h4
    have h5:=condW_of h4 (w_not (w_lt w_lit (w_len_list (w_arg rfl))))
    rw [List.length_map] at h5
    refine Nat.le_of_not_lt fun q => ?_
    have q':(n:Int) < ((ns.length:Nat):Int):=by omega
    first
      | (rw [decide_eq_true q'] at h5; exact absurd h5 (by decide))
      | (simp at h5; omega)
  cases hwl with
  | cons w1 w2 =>
    cases w2
    cases w1 with
    | list ho hall => exact ⟨_,_,ns,rfl,rfl,ho,ints_of_wellAll ns _ hall,hlen⟩
theorem post_true (l:OpenLaw) (args:List WData):l.row.toRowW.claim.post args (.bool true) args = true :=
  postW_of (r:=l.row.toRowW) (X:=(true == true))
    (show WShape.has [] (.bool true) .bool = true by first | rfl | decide | simp [WShape.has,WShape.arms,WShape.armsAll])
    (show (WTm.eq .res (.lit (.bool true))).value [] { args:=args,res:=some (.bool true),after:=args } = some (.bool (true == true)) from w_eq_bool (w_res rfl) w_lit) rfl
theorem attach_call {l:OpenLaw} {n:Nat} {q:Program} {loose:List Str} {XP:(Str → Option Value) → Heap → Prop} {YP:World → Heap → Prop} {d:DefRec}
    (hn:l.most = some n) (hdf:d.params.defaults = [])
    (call:∀ (w:World) (s₀ s₁:Shared) (mg mb:Str → Option Value) (fa:Addr) (o:Obj) (pm cd doc:Value) (a:Addr) (vs:List Value) (ns:List Int),
      Ground q loose [] XP w s₀ mg mb s₁.heap → YP w s₁.heap →
      s₁.heap.get? fa = some o → o.data = .func (docDef d.name d.params d.body d.scope pm cd doc) → s₁.heap.CodeRec cd d.name → mg d.name = some (.ref fa) →
      s₁.heap.get? a = some { cls:=.type "list", data:=.seq vs.toArray } → IntsAre vs ns → ns.length ≤ n → s₁.gens = #[] →
      codeAny (model l.prog w) callerA (.call (.ref fa) ⟨[.ref a],[]⟩) (fun r s' => r = .ok (.ret (.bool true)) ∧ OldK s₁.heap s'.heap ∧ s'.os = s₁.os ∧ AllBare s'.gens) s₁) :
    WalkO q loose XP YP l.row.toRowW d [] (fun f vs => PySem.call f vs):=by
  intro w s₀ s₁ mg mb G Y fa o pm cd doc dV kV ho hd hcd hD hmg hg args vals as hpre hlay hrd hwl hlo
  obtain rfl:dV = .none:=Dflts.none hD hdf
  obtain rfl:kV = .none:=Dflts.noKw hD
  obtain ⟨a,vs,ns,rfl,rfl,hobj,hints,hlen⟩:=script_of hn hpre hwl
  refine enter_call (codeAny_mono (call w s₀ s₁ mg mb fa o pm cd doc a vs ns G Y ho (fd_plain hd) hcd hmg hobj hints hlen hg) fun r s' hq => ?_)
  obtain ⟨rfl,h2,h3,h4⟩:=hq
  exact ⟨.inl ⟨.bool true,.bool true,[],rfl,fun _ => rfl,.bool true,post_true l _,fun _ => ⟨List.Pairwise.nil,fun _ hm => (nomatch hm)⟩⟩,h2,h3,h4⟩
section
variable {prog:Program} {w:World} {A:Around} {E:Value → Shared → Prop} {s:Shared} {K:Frag}
def ledger (h:Heap) (L d:Addr):List (Addr × Obj):=(List.range h.objs.size).filterMap fun a => if a = L ∨ a = d then none else (h.get? a).map fun o => (a,o)
end
end Att
namespace L2
open PySem PySem.Spec PyProof.Rows
theorem vals_ints:∀ {vs:List Value} {ns:List Int},IntsAre vs ns → Vals (ns.map V.int) vs
  | _,_,.nil => .nil
  | _,_,.cons n t h => .cons ⟨t,rfl⟩ (vals_ints h)
def Only (H:Hp):Prop:=∀ b,H b = none ∨ ∃ o xs,H b = some (.frz o (.lst xs))
theorem law_call {P:Program} {w:World} {K:PySem.W.Frag} {mg mb:Str → Option Value} {CX:CXT} {k:Nat} {fa a:Addr} {fd:FuncData} {x:Str} {sp:Sp} {s₁:Shared} {vs:List Value} {ns:List Int}
    (KX:K.In s₁.heap) (hns:s₁.heap.Ns mainGlobals mg) (hb:s₁.heap.Ns builtinsNs mb) (hbb:∀ x:Str,x ≠ "__name__" → mb x = bootBuiltins x) (hlim:s₁.heap.NoLimit) (hg:s₁.gens = #[])
    (ha:s₁.heap.get? a = some { cls:=.type "list", data:=.seq vs.toArray }) (hi:IntsAre vs ns) (hl:ns.length ≤ sizeLine) (hr:Room k callerA)
    (F:∀ base:Heap,K.In base → base.Ns mainGlobals mg → FnOk P w K mg base CX k fa fd [x] sp) (hbind:∀ (s:Shared) (u:Value),BindsTo s fd ⟨[u],[]⟩ [(x,u)])
    (hsp:∀ H:Hp,Only H → SqL K H a (ns.map V.int) → sp [.ref a] H (fun v _ => v = .bl true) fun _ _ _ => False)
    (hCX:∀ H e s',CX [] H s₁ (fun _ _ _ => False) e s' → False) :
    codeAny (model P w) callerA (.call (.ref fa) ⟨[.ref a],[]⟩) (fun r s' => r = .ok (.ret (.bool true)) ∧ OldK s₁.heap s'.heap ∧ s'.os = s₁.os ∧ AllBare s'.gens) s₁:=by
  have rv:=vals_ints hi
  have lenV:=hi.length
  have core:∀ H:Hp,Only H → SqL K H a (ns.map V.int) → HOk P w H s₁.heap → (∀ b,H b ≠ none → b = a) → (H a ≠ none → K.lookup a = none) →
      codeAny (model P w) callerA (.call (.ref fa) ⟨[.ref a],[]⟩) (fun r s' => r = .ok (.ret (.bool true)) ∧ OldK s₁.heap s'.heap ∧ s'.os = s₁.os ∧ AllBare s'.gens) s₁:=by
    intro H hO hS hok hA hK
    have base_of:∀ {b:Addr} {o:Obj},s₁.heap.get? b = some o → H b = none → (hidT s₁.heap H).get? b = some o:=fun e n => hidT_get e n
    have noA:∀ {b:Addr} {o:Obj} {es:Array DictEntry} {ep:Nat},s₁.heap.get? b = some o → o.data = .dict es ep → H b = none:=fun {b o es ep} e d => by
      cases q:H b with
      | none => rfl
      | some u =>
        have e':b = a:=hA b (by rw [q]; simp)
        subst e'
        rw [ha] at e; cases e
        have d':Data.seq vs.toArray _ = Data.dict es ep:=d
        cases d'
    have nsK:∀ {b:Addr} {m:Str → Option Value},s₁.heap.Ns b m → (hidT s₁.heap H).Ns b m:=fun {b m} ⟨o,es,ep,e,d,r⟩ => ⟨o,es,ep,base_of e (noA e d),d,r⟩
    have hKb:K.In (hidT s₁.heap H):=fun b o e => base_of (KX b o e) (by
      cases q:H b with
      | none => rfl
      | some u =>
        have e':b = a:=hA b (by rw [q]; simp)
        subst e'
        rw [hK (by rw [q]; simp)] at e; cases e)
    have hM:Mod K mg (hidT s₁.heap H):=⟨hKb,nsK hns,⟨mb,nsK hb,hbb⟩,let ⟨mc,h1,h2⟩:=hlim; ⟨mc,nsK h1,h2⟩⟩
    have e0:Env0 P w K mg (hidT s₁.heap H) callerA [] s₁ H:=⟨rfl,hM,fun b o e => of_hidT e,Nat.le_of_eq (hidT_size _ _),trivial,fun b hb => absurd (show b ∈ ([]:List Addr) from hb) (by simp),hok,.of_eq hg⟩
    refine codeAny_mono ((F _ hKb (nsK hns)).run callerA [] s₁ H ⟨[.ref a],[]⟩ [.ref a] [.ref a] _ _ hr e0 (hbind s₁ (.ref a)) (.cons rfl .nil) (hsp H hO hS)) fun r s' h => ?_
    cases r with
    | error e => exact (hCX H e s' h).elim
    | ok fl =>
      cases fl with
      | next => exact False.elim h
      | brk => exact False.elim h
      | cont => exact False.elim h
      | ret u =>
        obtain ⟨v,H',os,bare,un,hok',r',q⟩:=h
        have q':v = .bl true:=q
        subst q'
        obtain rfl:u = Value.bool true:=r'
        refine ⟨rfl,OldK.of_keep fun b o e => ?_,os,bare⟩
        cases q:H b with
        | none => exact un.keep b o e q (by intro z; exact absurd (show b ∈ ([]:List Addr) from z) (by simp)) (by simp)
        | some u =>
          rcases hO b with z | ⟨ob,xs,z⟩
          · rw [q] at z; cases z
          · have z2:=un.frzs b ob _ z
            obtain ⟨e1,_⟩:=hok b _ z
            obtain ⟨e2,_⟩:=hok' b _ z2
            rw [e] at e1; cases e1
            exact e2
  cases hk:K.lookup a with
  | some o =>
    have e:=KX a o hk
    rw [ha] at e
    cases e
    refine core (fun _ => none) (fun _ => .inl rfl) (.inr ⟨_,vs.toArray,_,hk,rfl,rfl,rfl,by rw [List.size_toArray,lenV]; exact hl,by simpa using rv⟩) (fun b u z => by have z':(none:Option HO) = some u:=z; cases z') (fun b z => absurd rfl z) fun z => absurd rfl z
  | none =>
    refine core (fun b => if b = a then some (.frz { cls:=.type "list", data:=.seq vs.toArray } (.lst (ns.map V.int))) else none) (fun b => ?_) (.inl (.inr ⟨{ cls:=.type "list", data:=.seq vs.toArray },if_pos rfl⟩)) (fun b u z => ?_) (fun b z => ?_) fun _ => hk
    · by_cases hb:b = a
      · exact .inr ⟨_,_,if_pos hb⟩
      · exact .inl (if_neg hb)
    · by_cases hb:b = a
      · have z':=(if_pos hb).symm.trans z
        cases z'
        subst hb
        exact ⟨ha,by rw [List.length_map]; exact hl,vs,_,rv,ha⟩
      · have z':=(if_neg hb).symm.trans z
        cases z'
    · by_cases hb:b = a
      · exact hb
      · exact absurd (if_neg hb) z
end L2
namespace L2
open PySem PySem.Spec PyProof.Rows
abbrev KOf {K:PySem.W.Frag} {h:Heap} (_:K.In h):PySem.W.Frag:=K
theorem walk_of {l:PySem.W.OpenLaw} {n k:Nat} {q:Program} {loose:List Str} {XP:(Str → Option Value) → Heap → Prop} {YP:World → Heap → Prop} {d:DefRec} {K:Params → PySem.W.Frag} {CX:World → CXT} {sp:World → Sp} {x:Str}
    (hn:l.most = some n) (hn2:n ≤ sizeLine) (hdf:d.params.defaults = []) (hr:Room k callerA)
    (hY:∀ (w:World) (h:Heap),YP w h → (K w.params).In h)
    (F:∀ (w:World) (mg:Str → Option Value) (fa:Addr) (h:Heap),(K w.params).In h → h.Ns mainGlobals mg → mg d.name = some (.ref fa) →
      ∃ fd:FuncData,(∀ (s:Shared) (u:Value),BindsTo s fd ⟨[u],[]⟩ [(x,u)]) ∧
        ∀ base:Heap,(K w.params).In base → base.Ns mainGlobals mg → FnOk l.prog w (K w.params) mg base (CX w) k fa fd [x] (sp w))
    (hsp:∀ (w:World) (H:Hp) (a:Addr) (ns:List Int),ns.length ≤ n → Only H → SqL (K w.params) H a (ns.map V.int) → sp w [.ref a] H (fun v _ => v = .bl true) fun _ _ _ => False)
    (hCX:∀ (w:World) (H:Hp) (s:Shared) (e:Value) (s':Shared),CX w [] H s (fun _ _ _ => False) e s' → False) :
    PySem.W.WalkO q loose XP YP l.row.toRowW d [] (fun f vs => PySem.call f vs):=by
  refine Att.attach_call hn hdf fun w s₀ s₁ mg mb fa o pm cd doc a vs ns G Y ho hd hcd hmg hobj hints hlen hg => ?_
  have KX:=hY w _ Y
  obtain ⟨fd,hb,hF⟩:=F w mg fa _ KX G.T.g hmg
  exact law_call KX G.T.g G.T.b G.T.builtins G.T.nolimit hg hobj hints (Nat.le_trans hlen hn2) hr hF hb (fun H hO hS => hsp w H a ns hlen hO hS) fun H e s' => hCX w H s₁ e s'
end L2
/- THE LAST THEOREM (shape; LID,My.* are yours):
   My.Adr: a structure of the addresses that your layer names (classes,functions); My.Txt K t: a structure (Prop) of the equations over K;
   My.txt_mk:{K} {implicit addresses ..} (e1:nsIn K mainGlobals "law" = some (some (.ref f))) (e2:K.lookup f = some ⟨oc,od,.func (fnOf "law" "law" params body scope dV kV doc pm an cdv ct),sl⟩) (e3:codeIn K cdv "law" = true) ..:∃ t,My.Txt K t
set_option maxRecDepth 100000 in
set_option maxHeartbeats 0 in
theorem PySem.Challenge.cw_LID_holds : PySem.Challenge.rw_LID.Holds := by
  w_on; o_law; k_head; (case hw => w_witness2)
  k_fill
  refine L2.walk_of (l:=PySem.Challenge.rw_LID) (n:=63) (k:=40) (x := "script") (CX:=fun w => ..) (sp:=fun _ => My.sp_law) rfl (by decide) rfl ⟨rfl,by decide,by decide⟩ (fun w h Y => PySem.W.kIn_of Y) ?F ?S ?C
  case F =>
    intro w mg fa h KX G hmg
    have T:∃ t,My.Txt (L2.KOf KX) t:=by
      dsimp only [L2.KOf]                          -- K must stand as «<heap const> w.params» for k_is
      refine' My.txt_mk ?e1 ?e2 ?e3 ..
      (case e1 => PySem.W.k_is)                    -- in the order: a name -> its address -> its object -> its parts
      (case e2 => PySem.W.k_is)
      ..
    obtain ⟨t,T⟩:=T
    have e0:=hmg.symm.trans (PySem.W.mg_of KX G T.law)
    cases e0                                       -- fa is the law's own address
    exact ⟨_,fun s u => .of_eq rfl,fun base kb nb => My.law_fn T kb nb⟩     -- if «.of_eq rfl» comes too early: refine' ⟨_,?b,fun base kb nb => My.law_fn T kb nb⟩; exact fun s u => .of_eq rfl
  case S => exact fun w H a ns hl hO hS => ..
  case C => exact ..
(the tactic k_is has no namespace: write k_is) -/
namespace L2
open PySem PySem.Spec PyProof.Rows
def inClass (s:Stmt) (j:Nat):Stmt:=match s with
  | .ClassDef _ _ _ body _ _ _ _ _ _ _ => body.getD j (.Pass ⟨0,0,0,0⟩)
  | _ => .Pass ⟨0,0,0,0⟩
def defArgs (s:Stmt):Arguments:=match s with
  | .FunctionDef _ a _ _ _ _ _ _ _ _ => a
  | _ => { posonlyargs:=[],args:=[],vararg:=none,kwonlyargs:=[],kw_defaults:=[],kwarg:=none,defaults:=[] }
def defBody (s:Stmt):List Stmt:=match s with
  | .FunctionDef _ _ b _ _ _ _ _ _ _ => b
  | _ => []
def defScope (s:Stmt):Scope:=match s with
  | .FunctionDef _ _ _ _ _ _ sc _ _ _ => sc
  | _ => { kind:=.function,names:=[],isGenerator:=false,isCoroutine:=false }
abbrev CX0:CXT:=fun _ _ _ _ _ _ => False
abbrev E0:XK:=fun _ _ _ => False
theorem pass0 {X:Cx}:Passes CX0 X E0:=fun _ _ _ _ _ _ _ h => h.elim
structure Fun (K:PySem.W.Frag) (x qual:Str) (st:Stmt) (f:Addr) (fd:FuncData):Prop where
  ex:∃ (oc:Value) (od:Option Addr) (kV doc pm:Value) (an:Option Addr) (cdv ct:Value) (osl:Array (Option Value)),
    fd = PySem.W.fnOf x qual (defArgs st) (defBody st) (defScope st) .none kV doc pm an cdv ct ∧ K.lookup f = some ⟨oc,od,.func fd,osl⟩ ∧ PySem.W.codeIn K cdv qual = true
  kp:PySem.W.keepIn K (.ref f) = true
section
variable {P:Program} {w:World} {K:PySem.W.Frag} {mg:Str → Option Value} {base:Heap}
theorem Fun.ok {x qual:Str} {st:Stmt} {f:Addr} {fd:FuncData} {N ps:List Str} {k:Nat} {sp:Sp} (F:Fun K x qual st f fd) (S:FnScope N ps (defScope st)) (len:∀ vs H Q E,sp vs H Q E → vs.length = ps.length)
    (hbody:∀ (cdv:Value) (A:Around) (outer:List Env) (s:Shared) (H:Hp) (vs:List V) (Q:VK) (E:XK),Room k (A.deeper (envOfC qual (defScope st) s.heap.objs.size f cdv)) → sp vs H Q E →
      ∃ t,PSs (cxOf CX0 P w K mg base N qual (defScope st) f cdv A outer s H E).nox (defBody st) t ∧ t { nx:=fun _ H' => Q .non H',rt:=Q } (start N vs) H):FnOk P w K mg base CX0 (k + 1) f fd ps sp:=by
  obtain ⟨oc,od,kV,doc,pm,an,cdv,ct,osl,rfl,lk,hcd⟩:=F.ex
  refine fn_of lk hcd S len fun A outer s H vs Q E hr hsp => ?_
  obtain ⟨t,h,q⟩:=hbody cdv A outer s H vs Q E hr hsp
  exact ⟨t,h.nox,q⟩
theorem Fun.binds {x qual:Str} {st:Stmt} {f:Addr} {fd:FuncData} {ps:List Str} (F:Fun K x qual st f fd)
    (h:∀ (kV doc pm:Value) (an:Option Addr) (cdv ct:Value) (us:List Value),us.length = ps.length → bindArgs (PySem.W.fnOf x qual (defArgs st) (defBody st) (defScope st) .none kV doc pm an cdv ct) ⟨us,[]⟩ = pure (ps.zip us)):Binds K fd ps []:=by
  obtain ⟨oc,od,kV,doc,pm,an,cdv,ct,osl,rfl,lk,hcd⟩:=F.ex
  exact .all (h kV doc pm an cdv ct)
theorem fun_mk {x qual:Str} {st:Stmt} {f:Addr} {oc:Value} {od an:Option Addr} {osl:Array (Option Value)} {kV doc pm cdv ct:Value} (l:K.lookup f = some ⟨oc,od,.func (PySem.W.fnOf x qual (defArgs st) (defBody st) (defScope st) .none kV doc pm an cdv ct),osl⟩)
    (c:PySem.W.codeIn K cdv qual = true) (k:PySem.W.keepIn K (.ref f) = true):Fun K x qual st f (PySem.W.fnOf x qual (defArgs st) (defBody st) (defScope st) .none kV doc pm an cdv ct):=⟨⟨oc,od,kV,doc,pm,an,cdv,ct,osl,rfl,l,c⟩,k⟩
end
theorem small1000 {n:Nat} (h:n ≤ 1000):n < sizeLine:=Nat.lt_of_le_of_lt h (by decide)
section
variable {X:Cx}
theorem pv (i:Nat) {x:Str} {pos:Pos} (hN:X.N[i]? = some x:=by rfl) (hv:Vis X.env.scope x:=by first | exact Or.inl rfl | exact Or.inr (Or.inl rfl) | exact Or.inr (Or.inr rfl)) (hd:(x == ("__debug__" : Str)) = false:=by decide)
    (hcd:(x == ("__classdict__" : Str)) = false:=by decide):PE X (.Name x pos) (tVar i):=pe_var hN hv hd hcd
end
theorem iteF {A B:Prop} (h:B):if false = true then A else B:=by
  rw [if_neg Bool.false_ne_true]
  exact h
theorem iteT {A B:Prop} (h:A):if true = true then A else B:=by
  rw [if_pos rfl]
  exact h
theorem ite2 {c A B:Prop} [Decidable c] (h1:c → A) (h2:¬ c → B):if c then A else B:=by
  by_cases h:c
  · rw [if_pos h]
    exact h1 h
  · rw [if_neg h]
    exact h2 h
def Same (H H':Hp):Prop:=∀ b o,H b = some o → H' b = some o
theorem Same.refl (H:Hp):Same H H:=fun _ _ h => h
theorem Same.trans {H H1 H2:Hp} (a:Same H H1) (b:Same H1 H2):Same H H2:=fun c o h => b c o (a c o h)
theorem Same.free {H H':Hp} (e:Same H H') {l:Addr} (h:H' l = Option.none):H l = Option.none:=by
  cases q:H l with
  | none => rfl
  | some o =>
    rw [e l o q] at h
    cases h
theorem Same.seq {K:PySem.W.Frag} {H H':Hp} {a:Addr} {xs:List V} (e:Same H H') (h:SqL K H a xs):SqL K H' a xs:=by
  rcases h with (h | ⟨o,h⟩) | h
  · exact .inl (.inl (e _ _ h))
  · exact .inl (.inr ⟨o,e _ _ h⟩)
  · exact .inr h
end L2
set_option maxHeartbeats 4000000
namespace L2
open PySem PySem.Spec PyProof.Rows
theorem bits_le {k:Int} {n:Nat} (h:k.natAbs < 2 ^ n):Builtin.Int.intBits k ≤ n:=by
  unfold Builtin.Int.intBits
  split
  · exact Nat.zero_le _
  · rename_i h0
    have hk:k.natAbs ≠ 0:=by
      intro z
      apply h0
      have:k = 0:=by omega
      simp [this]
    have:k.natAbs.log2 < n:=(Nat.log2_lt hk).mpr h
    omega
theorem big_600:10 ^ 150 < 2 ^ 600:=by decide +kernel
theorem mul_fit {i j:Int} (h:i.natAbs ≤ 10 ^ 150) (h':j.natAbs ≤ 10 ^ 150):IntMulOk i j :=
  .of_bits (Nat.le_trans (bits_le (n:=600) (Nat.lt_of_le_of_lt h big_600)) (by decide)) (Nat.le_trans (bits_le (n:=600) (Nat.lt_of_le_of_lt h' big_600)) (by decide))
theorem log_fit {j:Int} (h:j.natAbs ≤ 10 ^ 150):j.natAbs.log2 < 9000:=by
  rcases Nat.eq_zero_or_pos j.natAbs with z | z
  · rw [z]; decide
  · exact Nat.lt_trans ((Nat.log2_lt (Nat.ne_of_gt z)).mpr (Nat.lt_of_le_of_lt h big_600)) (by decide)
section
variable {X:Cx}
theorem op_mulO:OpR X (binaryOp .Mult) (rI IntMulOk fun i j => .int (i * j)):=opI fun _ _ _ _ _ _ _ hc q => mul_int q hc
theorem op_fdivO:OpR X (binaryOp .FloorDiv) (rI (fun _ j => j ≠ 0 ∧ j.natAbs ≤ 10 ^ 150) fun i j => .int (i.fdiv j)):=opI fun _ _ _ _ _ _ _ hc q => floordiv_int hc.1 q (.inl (PyProof.noPylong_of_log2 (log_fit hc.2)))
theorem pe_ty {x:Str} {T:String} {pos:Pos} (hg:Gl X x) (hm:X.mg x = none) (hv:bootBuiltins x = some (.type T)) (hn:x ≠ "__name__" := by decide) (hd:(x == ("__debug__" : Str)) = false:=by decide):PE X (.Name x pos) (tC (.ty T)):=pe_bltn hg hm hv rfl hn hd
theorem call_isinst:CallR X (.builtin "isinstance") (fun xs H Q => ∃ x T t b,xs = [x,.ty T] ∧ TyOf X.K H x t ∧ PySem.W.kitOne X.K t (.type T) = some b ∧ Q (.bl b) H):=by
  intro pins s σ H xs us Q I r h
  obtain ⟨x,T,t,b,rfl,ty,hk,q⟩:=h
  obtain ⟨u,w',rfl,r1,r2⟩:=vals2 r
  cases r2
  exact isinst_ok I r1 ty hk fun tk => ⟨.bl b,H,I.tok _,rfl,q⟩
end
theorem kit_same (K:PySem.W.Frag) (t:Value) (h:(t == t) = true:=by rfl):PySem.W.kitOne K t t = some true:=by
  unfold PySem.W.kitOne
  rw [if_pos h]
theorem kit_type (K:PySem.W.Frag) {t T:String} {b:Bool} (h0:((Value.type t) == (Value.type T)) = false) (h1:PySem.W.kitMeta T = true) (h:(PySem.fastBuiltinMro t).map (·.contains (Value.type T)) = some b):PySem.W.kitOne K (.type t) (.type T) = some b:=by
  unfold PySem.W.kitOne PySem.W.kitCls
  rw [if_neg (by rw [h0]; exact Bool.false_ne_true)]
  show (if PySem.W.kitMeta T = true then PySem.W.subIn K (Value.type t) (Value.type T) else none) = some b
  rw [if_pos h1]
  exact h
theorem kit_int_bool (K:PySem.W.Frag):PySem.W.kitOne K (.type "int") (.type "bool") = some false:=kit_type K (by decide +kernel) (by decide +kernel) (by decide +kernel)
section
variable {A B:Prop}
theorem if_dec {p:Prop} [Decidable p] (h1:p → A) (h2:¬ p → B):if decide p = true then A else B:=ite2 (fun c => h1 (of_decide_eq_true c)) fun c => h2 (of_decide_eq_false (Bool.eq_false_iff.mpr c))
theorem if_ndec {p:Prop} [Decidable p] (h1:¬ p → A) (h2:p → B):if (!decide p) = true then A else B:=by
  by_cases h:p
  · rw [decide_eq_true h]; exact iteF (h2 h)
  · rw [decide_eq_false h]; exact iteT (h1 h)
theorem if_eqI {a b:Int} (h1:a = b → A) (h2:a ≠ b → B):if decide (V.int a = V.int b) = true then A else B:=if_dec (fun e => h1 (V.int.inj e)) fun e => h2 fun z => e (by rw [z])
theorem if_neI {a b:Int} (h1:a ≠ b → A) (h2:a = b → B):if (!decide (V.int a = V.int b)) = true then A else B:=if_ndec (fun e => h1 fun z => e (by rw [z])) fun e => h2 (V.int.inj e)
end
theorem eqI_true {a b:Int} (h:a = b):decide (V.int a = V.int b) = true:=decide_eq_true (by rw [h])
theorem eqI_iff (a b:Int):decide (V.int a = V.int b) = decide (a = b):=by
  by_cases h:a = b
  · rw [decide_eq_true h,eqI_true h]
  · rw [decide_eq_false h,decide_eq_false fun z => h (V.int.inj z)]
structure Here (K:PySem.W.Frag) (mg:Str → Option Value) (x:Str) (st:Stmt):Prop where
  ex:∃ (f:Addr) (fd:FuncData),Fun K x x st f fd ∧ mg x = some (.ref f)
structure Has (P:Program) (w:World) (K:PySem.W.Frag) (mg:Str → Option Value) (base:Heap) (x:Str) (k:Nat) (ps:List Str) (sp:Sp):Prop where
  ex:∃ (f:Addr) (fd:FuncData),FnOk P w K mg base CX0 k f fd ps sp ∧ mg x = some (.ref f) ∧ PySem.W.keepIn K (.ref f) = true ∧ Binds K fd ps []
section
variable {P:Program} {w:World} {K:PySem.W.Frag} {mg:Str → Option Value} {base:Heap} {x:Str} {st:Stmt} {k j:Nat} {ps:List Str} {sp:Sp}
theorem Has.mono (h:Has P w K mg base x j ps sp) (e:j ≤ k):Has P w K mg base x k ps sp :=
  let ⟨f,fd,a,b,c,d⟩:=h.ex
  ⟨f,fd,a.mono e,b,c,d⟩
theorem Here.has (h:Here K mg x st) (b:∀ f fd,Fun K x x st f fd → Binds K fd ps []) (ok:∀ f fd,Fun K x x st f fd → FnOk P w K mg base CX0 k f fd ps sp):Has P w K mg base x k ps sp :=
  let ⟨f,fd,F,m⟩:=h.ex
  ⟨f,fd,ok f fd F,m,F.kp,b f fd F⟩
theorem here_mk {h:Heap} {f:Addr} {oc:Value} {od an:Option Addr} {osl:Array (Option Value)} {kV doc pm cdv ct:Value} (X:K.In h) (G:h.Ns mainGlobals mg) (a:PySem.W.nsIn K mainGlobals x = some (some (.ref f)))
    (l:K.lookup f = some ⟨oc,od,.func (PySem.W.fnOf x x (defArgs st) (defBody st) (defScope st) .none kV doc pm an cdv ct),osl⟩)
    (c:PySem.W.codeIn K cdv x = true) (k:PySem.W.keepIn K (.ref f) = true):Here K mg x st:=⟨f,_,fun_mk l c k,PySem.W.mg_of X G a⟩
end
theorem pe_has {X:Cx} {x:Str} {k:Nat} {ps:List Str} {sp:Sp} {e:Expr} {es:List Expr} {t:TA} {p pos:Pos} (h:Has X.prog X.w X.K X.mg X.base x k ps sp) (hr:Room k X.A) (hg:Gl X x) (ha:PA X (e :: es) t) (hdb:(x == ("__debug__" : Str)) = false:=by decide)
    (he:starEach (e :: es) X.env = (false,eval e X.env) :: starEach es X.env:=by rfl) (hpl:(backTo pos (starEach es X.env)).any (·.1) = false:=by rfl):PE X (.Call (.Name x p) (e :: es) [] pos) (tCall sp [] E0 t):=by
  obtain ⟨f,fd,F,hm,hk,hb⟩:=h.ex
  exact pe_call F hr hg hm hk hb .nil pass0 ha hdb he hpl
theorem same_new {H:Hp} {p:Addr} (h:H p = none) (o:HO):Same H (upd H p o):=fun b u q => by rw [upd_ne (ne_of_none q h)]; exact q
theorem Same.tup {K:PySem.W.Frag} {H H':Hp} {a:Addr} {xs:List V} (e:Same H H') (h:SqT K H a xs):SqT K H' a xs:=by
  rcases h with (h | ⟨o,h⟩) | h
  · exact .inl (.inl (e _ _ h))
  · exact .inl (.inr ⟨o,e _ _ h⟩)
  · exact .inr h
end L2
namespace L2
open PySem PySem.Spec PyProof.Rows
def clOf (cells:List (Str × Addr)):List (Str × NameKind) → List (Str × Addr) → List (Str × Addr)
  | [],cs => cs
  | (n,k) :: r,cs => clOf cells r (if k = NameKind.free then (match cells.lookup n with | some a => (n,a) :: cs | none => cs) else cs)
theorem clOf_sub {cells:List (Str × Addr)}:∀ (ns:List (Str × NameKind)) (cs:List (Str × Addr)),(∀ p ∈ cs,cells.lookup p.1 = some p.2) → ∀ p ∈ clOf cells ns cs,cells.lookup p.1 = some p.2
  | [],_,h => h
  | (n,k) :: r,cs,h => by
    refine clOf_sub r _ fun p hp => ?_
    by_cases hk:k = NameKind.free
    · rw [if_pos hk] at hp
      cases e:cells.lookup n with
      | none => rw [e] at hp; exact h p hp
      | some a =>
        rw [e] at hp
        rcases List.mem_cons.mp hp with rfl | hp
        · exact e
        · exact h p hp
    · rw [if_neg hk] at hp
      exact h p hp
theorem clOf_old {cells:List (Str × Addr)}:∀ (ns:List (Str × NameKind)) (cs:List (Str × Addr)),∀ p ∈ cs,p ∈ clOf cells ns cs
  | [],_,_,h => h
  | (n,k) :: r,cs,p,h => by
    refine clOf_old r _ p ?_
    by_cases hk:k = NameKind.free
    · rw [if_pos hk]
      cases e:cells.lookup n with
      | none => exact h
      | some a => exact List.mem_cons_of_mem _ h
    · rw [if_neg hk]; exact h
theorem clOf_has {cells:List (Str × Addr)} {x:Str}:∀ (ns:List (Str × NameKind)) (cs:List (Str × Addr)),(x,NameKind.free) ∈ ns → (∃ c,cells.lookup x = some c) → ∃ c,(x,c) ∈ clOf cells ns cs
  | (n,k) :: r,cs,h,hc => by
    rcases List.mem_cons.mp h with e | h
    · cases e
      obtain ⟨c,hc⟩:=hc
      refine ⟨c,clOf_old r _ _ ?_⟩
      rw [if_pos rfl,hc]
      exact List.mem_cons_self
    · exact clOf_has r _ h hc
theorem lookup_of_mem {β:Type} {x:Str} {c:β}:∀ {l:List (Str × β)},(x,c) ∈ l → ∃ d,l.lookup x = some d
  | (n,a) :: r,h => by
    by_cases hx:x = n
    · exact ⟨a,by simp [List.lookup_cons,hx]⟩
    · rcases List.mem_cons.mp h with e | h
      · cases e; exact absurd rfl hx
      · obtain ⟨d,hd⟩:=lookup_of_mem h
        refine ⟨d,?_⟩
        have hb:(x == n) = false:=beq_eq_false_iff_ne.mpr hx
        simp only [List.lookup_cons,hb]
        exact hd
theorem closure_go {env:Env} {α:Type} (k:List (Str × Addr) → Sem α):∀ (ns:List (Str × NameKind)) (cs:List (Str × Addr)),(∀ y,(y,NameKind.free) ∈ ns → ∃ c,env.cells.lookup y = some c) →
    (forIn ns cs (fun (x:Str × NameKind) (r:List (Str × Addr)) => if (x.2 == NameKind.free) = true then (do let a ← cellOf env x.1; pure (ForInStep.yield ((x.1,a) :: r))) else pure (ForInStep.yield r)):Sem _) = pure (clOf env.cells ns cs)
  | [],cs,_ => rfl
  | (n,kd) :: r,cs,h => by
    have ih:=fun cs => closure_go k r cs fun y hy => h y (List.mem_cons_of_mem _ hy)
    rw [List.forIn_cons]
    by_cases hk:kd = NameKind.free
    · subst hk
      obtain ⟨c,hc⟩:=h n List.mem_cons_self
      show ((cellOf env n >>= fun a => pure (ForInStep.yield ((n,a) :: cs))) >>= _:Sem _) = _
      have hce:cellOf env n = pure c:=by unfold cellOf; rw [hc]
      rw [hce]
      show (forIn r ((n,c) :: cs) _:Sem _) = _
      rw [ih]
      show _ = pure (clOf env.cells r (if NameKind.free = NameKind.free then (match env.cells.lookup n with | some a => (n,a) :: cs | none => cs) else cs))
      rw [if_pos rfl,hc]
    · have hb:(kd == NameKind.free) = false:=by simpa using hk
      show ((if (kd == NameKind.free) = true then (do let a ← cellOf env n; pure (ForInStep.yield ((n,a) :: cs))) else pure (ForInStep.yield cs)) >>= _:Sem _) = _
      rw [hb,if_neg Bool.false_ne_true]
      show (forIn r cs _:Sem _) = _
      rw [ih]
      show _ = pure (clOf env.cells r (if kd = NameKind.free then _ else cs))
      rw [if_neg hk]
theorem closure_eq {scope:Scope} {env:Env} (h:∀ y,(y,NameKind.free) ∈ scope.names → ∃ c,env.cells.lookup y = some c):closureFor scope env = pure (clOf env.cells scope.names []):=by
  unfold closureFor
  have:=closure_go (env:=env) (α:=List (Str × Addr)) pure scope.names [] h
  show (forIn scope.names [] (fun (x:Str × NameKind) (r:List (Str × Addr)) => if (x.2 == NameKind.free) = true then (do let a ← cellOf env x.1; pure (ForInStep.yield ((x.1,a) :: r))) else pure (ForInStep.yield r)) >>= fun cs => pure cs:Sem _) = _
  rw [this]
  rfl
theorem free_has {scope:Scope} {env:Env} (h:(scope.names.all fun y => !(y.2 == NameKind.free) || (env.cells.lookup y.1).isSome) = true):∀ y,(y,NameKind.free) ∈ scope.names → ∃ c,env.cells.lookup y = some c:=fun y hy => by
  have e:(env.cells.lookup y).isSome = true:=List.all_eq_true.mp h (y,NameKind.free) hy
  exact Option.isSome_iff_exists.mp e
def CapsOk (X:Cx) (scope:Scope):List (Nat × Str) → Prop
  | [] => True
  | p :: r => (X.N[p.1]? = some p.2 ∧ scope.names.lookup p.2 = some .free ∧ (X.env.kindOf p.2 = some .cell ∨ X.env.kindOf p.2 = some .free)) ∧ CapsOk X scope r
theorem CapsOk.mem {X:Cx} {scope:Scope}:∀ {caps:List (Nat × Str)},CapsOk X scope caps → ∀ p ∈ caps,X.N[p.1]? = some p.2 ∧ scope.names.lookup p.2 = some .free ∧ (X.env.kindOf p.2 = some .cell ∨ X.env.kindOf p.2 = some .free)
  | [],_,_,h => nomatch h
  | _ :: _,⟨h1,h2⟩,p,h => by
    rcases List.mem_cons.mp h with rfl | h
    · exact h1
    · exact h2.mem p h
def compCx (X:Cx) (scope:Scope) (N:List Str) (s₀:Shared) (H₀:Hp) (C:Addr) (fp:List Addr):Cx where
  prog:=X.prog
  w:=X.w
  K:=X.K
  mg:=X.mg
  base:=X.base
  A:=X.A
  N:=N
  s₀:=s₀
  H₀:=H₀
  env:=compEnvC scope (clOf X.env.cells scope.names []) C X.env
  outer:=X.stack
  stack:=X.stack
  ex:=fp
  fn:=fun _ => false
  calm:=X.calm
  pn:=[]
  xe:=fun _ _ => False
def st0 (k:Nat) (caps:List (Nat × Str)) (σ:St):St:=List.replicate k none ++ caps.map fun p => (σ[p.1]?).join
theorem compLoop_own {prog:Program} {w:World} {A:Around} {R:Result → Shared → Prop} {s:Shared} {elt target iter:Expr} {scope:Scope} {pos:Pos} {it acc:Value} {env:Env} (I:Nat → Shared → Prop)
    (turn:∀ n s,I n s → wpAny (model prog w) A (pyNext it) (fun r s₁ => match r with
      | none => R (.ok .next) s₁
      | some v => wpAny (model prog w) A (letOwnedTupleGo target it v) (fun _ s₁ => wpAny (model prog w) A (assign target env v) (fun _ s₂ => wpAny (model prog w) A (eval elt env) (fun x s₃ =>
          wpAny (model prog w) A (call (.builtin "list.append") [acc,x]) (fun _ s₄ => ∃ m,m < n ∧ I m s₄) (fun _ _ => False) s₃)
          (fun _ _ => False) s₂) (fun _ _ => False) s₁) (fun _ _ => False) s₁) (fun _ _ => False) s)
    (n:Nat) (h:I n s) :
    codeAny (model prog w) A (.compLoop (.ListComp elt [⟨target,iter,[],0⟩] scope pos) 0 it acc env) R s:=by
  refine codeAny_loop rfl I (fun n s hI => ?_) n h
  show wpAny _ _ ((compTurn (.ListComp elt [⟨target,iter,[],0⟩] scope pos) 0 it acc env).onRaise (fun x => do noteFrame x env; theTreesLotGoes x)) _ _ s
  refine wpAny_noted ?_
  rw [compTurn_list1]
  refine wpAny_bind (wpAny_standAt (wpAny_bind (wpAny_mono (turn n s hI) (fun r s₁ h₁ => ?_) fun _ _ h' => False.elim h')))
  cases r with
  | none => exact wpAny_pure h₁
  | some v =>
    refine wpAny_bind (wpAny_mono h₁ (fun _ s₁ h₁ => ?_) fun _ _ h' => False.elim h')
    exact wpAny_bind (wpAny_mono h₁ (fun _ s₂ h₂ => wpAny_bind (wpAny_bind (wpAny_mono h₂ (fun x s₃ h₃ => wpAny_bind (wpAny_mono h₃
      (fun _ s₄ h₄ => wpAny_pure (wpAny_pure ⟨rfl,h₄⟩)) fun _ _ h' => False.elim h')) fun _ _ h' => False.elim h'))) fun _ _ h' => False.elim h')
def tCompB (k:Nat) (caps:List (Nat × Str)) (g:TG) (te:TE) (σ:St) (J:It) (H:Hp) (Q:List V → Hp → Prop):Prop :=
  ∃ W:Nat → Nat → List V → Hp → Prop,(∃ m,W 0 m [] H) ∧ ∀ i m ys H',W i m ys H' → ys.length ≤ sizeLine ∧ ((J.stop i H' ∧ Q ys H') ∨
    (J.go i H' ∧ ys.length < sizeLine ∧ ∃ N:V → Hp → Prop,(∀ v H4,N v H4 → ∃ m',m' < m ∧ W (i + 1) m' (ys ++ [v]) H4) ∧
      ∀ x H2,J.yld i H' x H2 → g x (st0 k caps σ) H2 fun σ2 H3 => (∀ (i:Nat) v,(st0 k caps σ)[i]? = some (some v) → σ2[i]? = some (some v)) ∧ te σ2 H3 N))
def tComp (k:Nat) (caps:List (Nat × Str)) (wi:TI) (g:TG) (te:TE):TE:=fun σ H Q => wi σ H fun J H1 => tCompB k caps g te σ J H1 fun ys H2 => ∀ D,H2 D = none → Q (.ref D) (upd H2 D (.lst ys))
section
variable {X:Cx} {tg iter elt:Expr} {scope:Scope} {pos:Pos} {wi:TI} {g:TG} {te:TE} {own:List Str} {caps:List (Nat × Str)}
theorem relabel_kind {scope:Scope} {env:Env} {x:Str} (hx:scope.names.lookup x = some .free):(relabel scope env).names.lookup x = some .cell ∨ (relabel scope env).names.lookup x = some .free:=by
  unfold relabel
  show (scope.names.map _).lookup x = _ ∨ (scope.names.map _).lookup x = _
  generalize scope.names = ns at hx
  induction ns with
  | nil => simp at hx
  | cons p r ih =>
    obtain ⟨n,k⟩:=p
    rw [List.map_cons]
    by_cases hn:x = n
    · subst hn
      simp only [List.lookup_cons,beq_self_eq_true] at hx
      cases hx
      by_cases hc:((NameKind.free == NameKind.free) && env.scope.kind == .function && env.kindOf x == some .cell) = true
      · left
        show List.lookup x ((if _ = true then (x,NameKind.cell) else (x,NameKind.free)) :: _) = _
        rw [if_pos hc]
        simp [List.lookup_cons]
      · right
        show List.lookup x ((if _ = true then (x,NameKind.cell) else (x,NameKind.free)) :: _) = _
        rw [if_neg hc]
        simp [List.lookup_cons]
    · have hb:(x == n) = false:=beq_eq_false_iff_ne.mpr hn
      simp only [List.lookup_cons,hb] at hx
      have:=ih hx
      show List.lookup x ((if _ = true then (n,NameKind.cell) else (n,k)) :: _) = _ ∨ List.lookup x ((if _ = true then (n,NameKind.cell) else (n,k)) :: _) = _
      split <;> (simp only [List.lookup_cons,hb]; exact this)
theorem relabel_back {scope:Scope} {env:Env} {x:Str} (hc:∀ y ∈ scope.names,y.2 ≠ .cell) (hx:(relabel scope env).names.lookup x = some .cell ∨ (relabel scope env).names.lookup x = some .free):(x,NameKind.free) ∈ scope.names:=by
  unfold relabel at hx
  have hx:(scope.names.map fun (n,k) => if (k == NameKind.free && env.scope.kind == .function && env.kindOf n == some .cell) then (n,NameKind.cell) else (n,k)).lookup x = some .cell ∨ (scope.names.map fun (n,k) => if (k == NameKind.free && env.scope.kind == .function && env.kindOf n == some .cell) then (n,NameKind.cell) else (n,k)).lookup x = some .free:=hx
  generalize scope.names = ns at hx hc
  induction ns with
  | nil => simp at hx
  | cons p r ih =>
    obtain ⟨n,k⟩:=p
    rw [List.map_cons] at hx
    have hr:=fun z => ih z (fun y hy => hc y (List.mem_cons_of_mem _ hy))
    by_cases hn:x = n
    · subst hn
      by_cases hk:k = NameKind.free
      · subst hk; exact List.mem_cons_self
      · have hb:(k == NameKind.free) = false:=by simpa using hk
        have hx':List.lookup x ((x,k) :: List.map (fun (p:Str × NameKind) => match p with | (n,k) => if (k == NameKind.free && env.scope.kind == .function && env.kindOf n == some .cell) = true then (n,NameKind.cell) else (n,k)) r) = some .cell ∨ List.lookup x ((x,k) :: List.map (fun (p:Str × NameKind) => match p with | (n,k) => if (k == NameKind.free && env.scope.kind == .function && env.kindOf n == some .cell) = true then (n,NameKind.cell) else (n,k)) r) = some .free:=by
          simpa [hb] using hx
        simp only [List.lookup_cons,beq_self_eq_true,Option.some.injEq] at hx'
        rcases hx' with e | e
        · exact absurd e (hc (x,k) List.mem_cons_self)
        · exact absurd e hk
    · have hb:(x == n) = false:=beq_eq_false_iff_ne.mpr hn
      refine List.mem_cons_of_mem _ (hr ?_)
      have hx2:List.lookup x ((if (k == NameKind.free && env.scope.kind == .function && env.kindOf n == some .cell) = true then (n,NameKind.cell) else (n,k)) :: List.map (fun (p:Str × NameKind) => match p with | (n,k) => if (k == NameKind.free && env.scope.kind == .function && env.kindOf n == some .cell) = true then (n,NameKind.cell) else (n,k)) r) = some .cell ∨ List.lookup x ((if (k == NameKind.free && env.scope.kind == .function && env.kindOf n == some .cell) = true then (n,NameKind.cell) else (n,k)) :: List.map (fun (p:Str × NameKind) => match p with | (n,k) => if (k == NameKind.free && env.scope.kind == .function && env.kindOf n == some .cell) = true then (n,NameKind.cell) else (n,k)) r) = some .free:=hx
      split at hx2 <;> (simp only [List.lookup_cons,hb] at hx2; exact hx2)
end
end L2
namespace L2
open PySem PySem.Spec PyProof.Rows
section
variable {X:Cx} {tg iter elt:Expr} {scope:Scope} {pos:Pos} {wi:TI} {g:TG} {te:TE} {own:List Str} {caps:List (Nat × Str)}
theorem compCx_ok {pins:List (Addr × Obj)} {σ:St} {H:Hp} {s:Shared} {fp:List Addr} {C:Addr} {N:List Str} (I:Inv X pins σ H s) (hkind:scope.kind = .function) (hcell:∀ y ∈ scope.names,y.2 ≠ .cell)
    (hfree:∀ y,(y,NameKind.free) ∈ scope.names → ∃ c,X.env.cells.lookup y = some c) (hC:s.heap.objs.size ≤ C) (hf:∀ b ∈ fp,FpOk X pins H b) (hlt:∀ b ∈ fp,b < s.heap.objs.size):(compCx X scope N s H C fp).Ok:=by
  have sub:∀ x c,(clOf X.env.cells scope.names []).lookup x = some c → X.env.cells.lookup x = some c:=fun x c e => clOf_sub scope.names [] (fun p hp => (nomatch hp)) (x,c) (PySem.mem_of_lookup e)
  refine ⟨I.ok.mod,hkind,I.ok.glob,I.ok.blt,hC,fun x y c h1 h2 => I.ok.inj x y c (sub x c h1) (sub y c h2),fun x hx => ?_,fun x c h => (Bool.false_ne_true h).elim,I.ok.hd,I.ok.frames,.inl rfl,fun b hb => ⟨?_,fun x c e => (hf b hb).2.2.2.2.1 x c (sub x c e)⟩,I.bs,Nat.le_trans I.ok.bsz I.sz,fun b o e hb => ?_,fun b hb z => ?_,I.stack,I.stkFree⟩
  · obtain ⟨c,hc⟩:=clOf_has scope.names [] (relabel_back hcell hx) (hfree x (relabel_back hcell hx))
    exact lookup_of_mem hc
  · exact Nat.ne_of_lt (Nat.lt_of_lt_of_le (hlt b hb) hC)
  · rcases (hf b hb).2.2.2.1 with z | z
    · exact I.ok.noex b o e z
    · exact absurd (Nat.lt_of_lt_of_le (Heap.lt_size e) (Nat.le_trans I.ok.bsz z)) (Nat.lt_irrefl _)
  · rcases List.mem_cons.mp (I.stkSub b z) with e | e
    · exact (hf b hb).2.1 e
    · exact (hf b hb).2.2.1 e
theorem st0_len (k:Nat) (caps:List (Nat × Str)) (σ:St):(st0 k caps σ).length = k + caps.length:=by
  unfold st0
  rw [List.length_append,List.length_replicate,List.length_map]
theorem st0_get {k:Nat} {caps:List (Nat × Str)} {σ:St} {i:Nat} {v:V} (h:(st0 k caps σ)[i]? = some (some v)):k ≤ i ∧ ∃ p,caps[i - k]? = some p ∧ σ[p.1]? = some (some v):=by
  unfold st0 at h
  by_cases hi:i < k
  · rw [List.getElem?_append_left (by rw [List.length_replicate]; exact hi),List.getElem?_replicate,if_pos hi] at h
    cases h
  · have hk:k ≤ i:=Nat.not_lt.mp hi
    refine ⟨hk,?_⟩
    rw [List.getElem?_append_right (by rw [List.length_replicate]; exact hk),List.length_replicate,List.getElem?_map] at h
    cases e:caps[i - k]? with
    | none => rw [e] at h; cases h
    | some p =>
      rw [e] at h
      refine ⟨p,rfl,?_⟩
      have h':(σ[p.1]?).join = some v:=Option.some.inj h
      cases q:σ[p.1]? with
      | none => rw [q] at h'; cases h'
      | some o => rw [q] at h'; cases o with
        | none => cases h'
        | some w => cases h'; rfl
theorem comp_core {pins:List (Addr × Obj)} {σ:St} {H:Hp} {s:Shared} {fp:List Addr} {it:Addr} {tn:Nat → Heap → Prop} {J:It} {E:Value → Shared → Prop} {RR:Value → Addr → Result → Shared → Prop} {QL:List V → Hp → Prop}
    (I:Inv X pins σ H s) (hc:X.calm = true) (T:Turn X.prog X.w X.K tg J fp it tn) (st:tn 0 s.heap) (hf:∀ b ∈ fp,FpOk X pins H b)
    (hkind:scope.kind = .function) (hcell:∀ y ∈ scope.names,y.2 ≠ .cell) (hfree:∀ y,(y,NameKind.free) ∈ scope.names → ∃ c,X.env.cells.lookup y = some c) (hcap:CapsOk X scope caps)
    (hg:∀ s₀ H₀ C,PG (compCx X scope (own ++ caps.map (·.2)) s₀ H₀ C fp) tg g) (he:∀ s₀ H₀ C,PE (compCx X scope (own ++ caps.map (·.2)) s₀ H₀ C fp) elt te)
    (hB:tCompB own.length caps g te σ J H QL)
    (fin:∀ D C s' m ys H',s.heap.objs.size ≤ C → D ≠ C → s'.heap.Ns C m → Inv X pins σ (upd H' D (.lst ys)) s' → H' D = none → H' C = none → QL ys H' → RR (.ref D) C (.ok .next) s') :
    wpAny (model X.prog X.w) X.A (newList []) (fun acc s₃ => wpAny (model X.prog X.w) X.A (newFunctionEnv scope X.env.globals (clOf X.env.cells scope.names []) [] X.env.qual none .none (some X.env)) (fun cenv s₄ =>
      codeAny (model X.prog X.w) X.A (.compStart (.ListComp elt [⟨tg,iter,[],0⟩] scope pos) 0 (.ref it) acc { cenv with scope:=relabel scope X.env }) (RR acc cenv.locals) s₄) E s₃) E s:=by
  refine wpAny_newObj_type (wpAny_newFunctionEnv hcell (by intro y hy; simp at hy) (fun h₁ hns₁ hsb₁ => ?_) hkind)
  dsimp only at hns₁ hsb₁ ⊢
  generalize hH2:s.heap.push { cls:=.type "list", dict:=none,data:=.seq ([]:List Value).toArray } = H2 at hns₁ hsb₁ ⊢
  have hC:H2.objs.size = s.heap.objs.size + 1:=by rw [← hH2,Heap.size_push]
  generalize hCC:H2.objs.size = C at *
  have hCle:s.heap.objs.size ≤ C:=by rw [hC]; exact Nat.le_succ _
  generalize hDD:s.heap.objs.size = D at *
  have hDC:D ≠ C:=by rw [hC]; exact Nat.ne_of_lt (Nat.lt_succ_self _)
  have below:∀ b,b < D → b ≠ C ∧ b ≠ D:=fun b hb => ⟨by rw [hC]; exact Nat.ne_of_lt (Nat.lt_succ_of_lt hb),Nat.ne_of_lt hb⟩
  have lts:∀ {b o},s.heap.get? b = some o → b < D:=fun {b o} e => by rw [← hDD]; exact Heap.lt_size e
  have old:∀ b o,s.heap.get? b = some o → h₁.get? b = some o:=fun b o e => hsb₁.extBut b o (below b (lts e)).1 (Heap.get?_push_of_some _ (hH2 ▸ Heap.get?_push_of_some _ e))
  have hacc:h₁.get? D = some { cls:=.type "list", data:=.seq ([]:List Value).toArray 0 }:=hsb₁.extBut _ _ hDC (Heap.get?_push_of_some _ (hH2 ▸ (hDD ▸ Heap.get?_push_size _ rfl)))
  have hlt:∀ b ∈ fp,b < D:=fun b hb => let ⟨o,e,_⟩:=T.obj 0 _ st b hb; lts e
  have freshS:∀ b,D ≤ b → s.heap.get? b = none:=fun b hb => by
    cases e:s.heap.get? b with
    | none => rfl
    | some o => exact absurd (lts e) (Nat.not_lt.mpr hb)
  have nH:∀ b,D ≤ b → H b = none:=fun b hb => I.hok.fresh (by rw [hDD]; exact hb)
  let Y:Cx:=compCx X scope (own ++ caps.map (·.2)) s H C fp
  have okY:Y.Ok:=compCx_ok I hkind hcell hfree (by rw [hDD]; exact hCle) hf (by rw [hDD]; exact hlt)
  have sub:∀ x c,(clOf X.env.cells scope.names []).lookup x = some c → X.env.cells.lookup x = some c:=fun x c e => clOf_sub scope.names [] (fun p hp => (nomatch hp)) (x,c) (PySem.mem_of_lookup e)
  have celllt:∀ x c,X.env.cells.lookup x = some c → c < D:=fun x c e => by
    obtain ⟨v,o,ho,_⟩:=I.cell x c e
    exact lts ho
  have stklt:∀ b ∈ frs X.stack,b < D:=fun b hb => by
    rcases List.mem_cons.mp (I.stkSub b hb) with e | e
    · rw [e,← hDD]; exact I.lt
    · obtain ⟨_,o,ho,_⟩:=I.funs.mem e
      exact lts ho
  have I0:Inv Y [] (st0 own.length caps σ) H { s with heap:=h₁,toks:=s.toks + ([]:List (Str × Value)).length }:=by
    refine ⟨okY,rfl,I.bare,Un.kept old,⟨_,hns₁,fun i x v h1 h2 h3 => ?_⟩,fun x c e => ?_,nH C hCle,fun x c e => I.freeC x c (sub x c e),fun p hp => ?_,I.hok.kept old,?_⟩
    · obtain ⟨hk,p,hp,hv⟩:=st0_get h2
      have h1':caps[i - own.length]?.map (·.2) = some x:=by
        have:(own ++ caps.map (·.2))[i]? = some x:=h1
        rw [List.getElem?_append_right hk,List.getElem?_map] at this
        exact this
      rw [hp] at h1'
      cases h1'
      obtain ⟨q1,q2,q3⟩:=hcap.mem p (List.mem_of_getElem? hp)
      obtain ⟨m,hn,hl⟩:=I.loc
      obtain ⟨u,r,l⟩:=hl p.1 p.2 v q1 hv (by rcases q3 with z | z; exact .inr (.inl z); exact .inr (.inr z))
      refine ⟨u,r,.inr ⟨relabel_kind q2,?_⟩⟩
      rcases l with ⟨z,_⟩ | ⟨_,c,hc',z⟩
      · rcases q3 with y | y <;> (rw [y] at z; cases z)
      · have hm:(p.2,NameKind.free) ∈ scope.names:=PySem.mem_of_lookup q2
        obtain ⟨d,hd⟩:=clOf_has scope.names [] hm ⟨c,hc'⟩
        obtain ⟨d',hd'⟩:=lookup_of_mem hd
        have e:=sub _ _ hd'
        rw [hc'] at e
        cases e
        obtain ⟨oc,ho,hdt⟩:=z
        exact ⟨c,hd',oc,old _ _ ho,hdt⟩
    · obtain ⟨v,o,ho,hd⟩:=I.cell x c (sub x c e)
      exact ⟨v,o,old _ _ ho,hd⟩
    · exact absurd (show p ∈ ([]:List (Addr × Obj)) from hp) (by simp)
    · rw [st0_len]
      show _ = (own ++ caps.map (·.2)).length
      rw [List.length_append,List.length_map]
  have pinD:∀ {its:List Value} {n:Nat} {σ':St} {H':Hp} {s':Shared},Inv Y [] σ' H' s' → H' D = none → s'.heap.get? D = some { cls:=.type "list", data:=.seq its.toArray n } → Inv Y [(D,{ cls:=.type "list", data:=.seq its.toArray n })] σ' H' s':=fun {its n σ' H' s'} J hn e =>
    J.pins_of fun p hp => by
      have ep:p = (D,{ cls:=.type "list", data:=.seq its.toArray n }):=List.mem_singleton.mp hp
      subst ep
      refine ⟨e,hn,hDC,fun z => ?_,fun v z => by cases z⟩
      exact absurd (stklt D z) (Nat.lt_irrefl _)
  obtain ⟨W,⟨m0,w0⟩,turn⟩:=hB
  have fpY:∀ {H':Hp} {pins':List (Addr × Obj)},(∀ b ∈ fp,H' b = none) → (∀ p ∈ pins',∀ b ∈ fp,p.1 ≠ b) → ∀ b ∈ fp,FpOk Y pins' H' b:=fun {H' pins'} hn hp b hb =>
    ⟨hn b hb,(okY.exf b hb).1,okY.exfs b hb,.inl hb,(okY.exf b hb).2,fun p q => hp p (by simpa [Y,compCx] using q) b hb⟩
  have loop:∀ s₃:Shared,s₃ = { s with heap:=h₁,toks:=s.toks + ([]:List (Str × Value)).length } →
      codeAny (model X.prog X.w) X.A (.compLoop (.ListComp elt [⟨tg,iter,[],0⟩] scope pos) 0 (.ref it) (.ref D) (compEnvC scope (clOf X.env.cells scope.names []) C X.env)) (RR (.ref D) C) s₃:=by
    rintro s₃ rfl
    refine compLoop_own (fun k s' => ∃ (i:Nat) (ys:List V) (its:List Value) (n:Nat) (H':Hp),Inv Y [(D,{ cls:=.type "list", data:=.seq its.toArray n })] (st0 own.length caps σ) H' s' ∧ tn i s'.heap ∧ (∀ b ∈ fp,H' b = none) ∧ Vals ys its ∧ W i k ys H') ?_ m0
      ⟨0,[],[],0,H,pinD I0 (nH D (Nat.le_refl _)) hacc,T.keep _ _ _ st fun b _ o e => old b o e,fun b hb => (hf b hb).1,.nil,w0⟩
    rintro k s3 ⟨i,ys,its,n,H3,I3,st3,fr3,rv,w3⟩
    obtain ⟨pD,nD,_⟩:=I3.pin (D,{ cls:=.type "list", data:=.seq its.toArray n }) (List.mem_append_right _ List.mem_cons_self)
    have ff:=fpY (pins':=[(D,{ cls:=.type "list", data:=.seq its.toArray n })]) fr3 (fun p hp b hb => by
      rw [List.mem_singleton.mp hp]; exact (Ne.symm (below b (hlt b hb)).2))
    obtain ⟨hsz,turn⟩:=turn i k ys H3 w3
    rcases turn with ⟨stop,q⟩ | ⟨go,hsz',NN,hNN,step⟩
    · refine thn (T.done Y rfl rfl rfl hc i _ s3 _ H3 _ I3 ff st3 stop) fun r s4 ⟨hr,I4⟩ => ?_
      subst hr
      obtain ⟨m4,hn4,_⟩:=I4.loc
      obtain ⟨pD4,nD4,_⟩:=I4.pin (D,{ cls:=.type "list", data:=.seq its.toArray n }) (List.mem_append_right _ List.mem_cons_self)
      refine fin D C s4 m4 ys H3 hCle hDC hn4 ?_ nD4 I4.free q
      have hk:=I4.base
      have hok4:HOk X.prog X.w H3 s4.heap:=I4.hok
      have neD:∀ b u,H3 b = some u → b ≠ D:=fun b u e z => by rw [z,nD4] at e; cases e
      refine I.call' (ch:=fp) I4.os ⟨fun b o e n hb hx => hk.keep b o e n hb hx,fun b o e n hb hx => hk.slot b o e n hb hx,fun b o e n hx => ?_,fun b o e hx => hk.there b o e hx,fun b xs e => ?_,fun b o u e => ?_,fun b ps e => ?_⟩ ?_ I4.bare ?_
      · rw [upd_ne (below b (lts e)).2]; exact hk.free b o e n hx
      · have:=hk.tups b xs e
        rw [upd_ne (neD b _ this)]; exact this
      · have:=hk.frzs b o u e
        rw [upd_ne (neD b _ this)]; exact this
      · obtain ⟨more,e'⟩:=hk.tbls b ps e
        exact ⟨more,by rw [upd_ne (neD b _ e')]; exact e'⟩
      · intro b u e
        by_cases hb:b = D
        · subst hb
          rw [upd_same] at e
          cases e
          exact ⟨hsz,its,n,rv,pD4⟩
        · rw [upd_ne hb] at e
          exact (hok4 b u e).stay (fun c v _ q => q) (fun c q => by rw [upd_ne (neD c _ q)]; exact q) fun c xs q => by rw [upd_ne (neD c _ q)]; exact q
      · intro b hb
        obtain ⟨_,f1,_,f3,f4,f5⟩:=hf b hb
        exact ⟨f3,f1,f4,f5⟩
    · refine thn (T.item Y rfl rfl rfl hc i _ s3 _ H3 _ I3 ff st3 go) fun r s4 ⟨u,hr,h4⟩ => ?_
      subst hr
      refine thn h4 fun _ s5 ⟨x,H5,I5,r5,y5,st5,fr5⟩ => ?_
      have ff5:=fpY (pins':=[(D,{ cls:=.type "list", data:=.seq its.toArray n })]) fr5 (fun p hp b hb => by
        rw [List.mem_singleton.mp hp]; exact (Ne.symm (below b (hlt b hb)).2))
      have I5':=I5.pinned ff5 (T.obj _ _ st5)
      refine thn (hg s H C _ s5 _ H5 x u _ I5' r5 (step x H5 y5)) fun _ s6 ⟨σ6,H6,I6,wk,q6⟩ => ?_
      refine thn (he s H C _ s6 σ6 H6 _ I6 q6) fun y s7 ⟨v,H7,I7,r7,n7⟩ => ?_
      obtain ⟨m',hm,w7⟩:=hNN v H7 n7
      obtain ⟨pD7,nD7,_,_,_⟩:=I7.pin (D,{ cls:=.type "list", data:=.seq its.toArray n }) (List.mem_append_right _ (List.mem_append_left _ List.mem_cons_self))
      refine append_at (n:=n) pD7 (fun h' hs' hD' => ?_) (by rw [List.size_toArray,← rv.length]; exact hsz)
      have st7:tn (i + 1) s7.heap:=T.keep _ _ _ st5 fun b hb o e => (I7.pin (b,o) (List.mem_append_right _ (List.mem_append_right _ (mem_pinsAt hb e)))).1
      have fr7:∀ b ∈ fp,H7 b = none:=fun b hb => by
        obtain ⟨o,e,d⟩:=T.obj _ _ st5 b hb
        exact (I7.pin (b,o) (List.mem_append_right _ (List.mem_append_right _ (mem_pinsAt hb e)))).2.1
      have I8:Inv Y [] σ6 H7 s7:=I7.pins_of fun p hp => (nomatch hp)
      have I9:Inv Y [] (st0 own.length caps σ) H7 s7:=I8.weak (by rw [I0.len,I8.len]) wk
      have I10:Inv Y [] (st0 own.length caps σ) H7 { s7 with heap:=h' }:=I9.turned (t':=s7.toks) (it:=D) (fun b o hb e => hs'.extBut b o hb e) nD7 hDC (.inr (Nat.le_of_eq hDD)) (fun x c e => Nat.ne_of_lt (celllt x c (sub x c e))) (fun p hp => absurd (show p ∈ ([]:List (Addr × Obj)) from hp) (by simp))
      refine ⟨m',hm,i + 1,ys ++ [v],its ++ [y],n + 1,H7,pinD I10 nD7 ?_,?_,fr7,rv.append (.cons r7 .nil),w7⟩
      · rw [hD',List.push_toArray]
      · exact T.keep _ _ _ st7 fun b hb o e => hs'.extBut b o (below b (hlt b hb)).2 e
  have tn1:tn 0 h₁:=T.keep _ _ _ st fun b _ o e => old b o e
  exact codeAny_compStart_list (loop _ rfl) (T.self _ 0 _ _ _ tn1 (loop _ rfl))
end
end L2
namespace L2
open PySem PySem.Spec PyProof.Rows
section
variable {X:Cx} {tg iter elt:Expr} {scope:Scope} {pos:Pos} {wi:TI} {g:TG} {te:TE} {own:List Str} {caps:List (Nat × Str)}
theorem pe_comp (own:List Str) (caps:List (Nat × Str)) (hc:X.calm = true) (hi:PI X tg iter wi) (hg:∀ fp s₀ H₀ C,PG (compCx X scope (own ++ caps.map (·.2)) s₀ H₀ C fp) tg g) (he:∀ fp s₀ H₀ C,PE (compCx X scope (own ++ caps.map (·.2)) s₀ H₀ C fp) elt te)
    (hcap:CapsOk X scope caps)
    (hfr:(scope.names.all fun y => !(y.2 == NameKind.free) || (X.env.cells.lookup y.1).isSome) = true:=by rfl)
    (hkind:scope.kind = .function:=by rfl) (hcell:∀ y ∈ scope.names,y.2 ≠ .cell:=by decide +kernel)
    (hnames:∀ y ∈ scope.names,y.2 = .local → scope.names.lookup y.1 = some .local:=by decide +kernel) (hs:∀ x,foldedSetIterable iter X.env x = pure x:=by intro _; rfl) :
    PE X (.ListComp elt [⟨tg,iter,[],0⟩] scope pos) (tComp own.length caps wi g te):=by
  intro pins s σ H Q I h
  have hfree:=free_has hfr
  have hclos:=closure_eq hfree
  rw [eval_ListComp]
  refine wpAny_comprehension_free (use:=none) rfl hs hclos hkind hnames (thn (hi pins s σ H _ I h) fun v s1 h1 => thn h1 fun itv s2 h2 => ?_)
  obtain ⟨it,fp,tn,J,H2,e,I2,T,st2,f2,hB⟩:=h2
  subst e
  refine comp_core (RR:=fun acc C => compPost (model X.prog X.w) X.A X.xe none (EP X pins σ Q) acc C) I2 hc T st2 f2 hkind hcell hfree hcap (hg fp) (he fp) hB ?_
  intro D C s' m ys H' hC hDC hn I3 nD nC q
  refine ⟨m,hn,fun h' hs' => ⟨.ref D,upd H' D (.lst ys),?_,rfl,q D nD⟩⟩
  exact I3.turned (t':=s'.toks) (it:=C) (fun b o hb e => hs'.extBut b o hb e) (by rw [upd_ne (Ne.symm hDC)]; exact nC) (Ne.symm (Nat.ne_of_lt (Nat.lt_of_lt_of_le I2.lt hC))) (.inr (Nat.le_trans I2.sz hC))
    (fun x c e z => by
      obtain ⟨v,o,ho,_⟩:=I2.cell x c e
      rw [z] at ho
      exact absurd (Nat.lt_of_lt_of_le (Heap.lt_size ho) hC) (Nat.lt_irrefl _))
    (fun p hp z => by
      have:=(I2.pin p hp).1
      rw [z] at this
      exact absurd (Nat.lt_of_lt_of_le (Heap.lt_size this) hC) (Nat.lt_irrefl _))
theorem ps_setComp {i:Nat} {x:Str} {pos' spos:Pos} (own:List Str) (caps:List (Nat × Str)) (hN:X.N.Nodup) (hx1:X.N[i]? = some x) (hx:X.env.scope.names.lookup x = some .local) (hc:X.calm = true) (hi:PI X tg iter wi)
    (hg:∀ fp s₀ H₀ C,PG (compCx X scope (own ++ caps.map (·.2)) s₀ H₀ C fp) tg g) (he:∀ fp s₀ H₀ C,PE (compCx X scope (own ++ caps.map (·.2)) s₀ H₀ C fp) elt te)
    (hcap:CapsOk X scope caps)
    (hfr:(scope.names.all fun y => !(y.2 == NameKind.free) || (X.env.cells.lookup y.1).isSome) = true:=by rfl)
    (hsw:swapsWith (.ListComp elt [⟨tg,iter,[],0⟩] scope pos) (some (.Name x pos')) spos.line X.env = pure true:=by rfl)
    (hkind:scope.kind = .function:=by rfl) (hcell:∀ y ∈ scope.names,y.2 ≠ .cell:=by decide +kernel)
    (hnames:∀ y ∈ scope.names,y.2 = .local → scope.names.lookup y.1 = some .local:=by decide +kernel) (hs:∀ x,foldedSetIterable iter X.env x = pure x:=by intro _; rfl) :
    PS X (.Assign [.Name x pos'] (.ListComp elt [⟨tg,iter,[],0⟩] scope pos) spos) (tAsg (tComp own.length caps wi g te) (gName i)):=by
  intro pins s σ H D0 I h
  have hfree:=free_has hfr
  have hclos:=closure_eq hfree
  rw [exec_Assign_Name_used _ _ _ _ hsw]
  refine wpAny_bind (wpAny_standAt (wpAny_bind ?_))
  show wpAny _ X.A (do let _ ← comprehension (.ListComp elt [⟨tg,iter,[],0⟩] scope pos) scope X.env _ (newList []) false (eval iter X.env) (some (assign (.Name x pos') X.env))) _ _ s
  refine wpAny_bind (wpAny_mono (wpAny_comprehension_free (use:=some (assign (.Name x pos') X.env)) (Q:=fun _ s' => SP X pins D0 .next s') rfl hs hclos hkind hnames (thn (hi pins s σ H _ I h) fun v s1 h1 => thn h1 fun itv s2 h2 => ?_)) (fun _ s' hq => wpAny_pure (wpAny_pure hq)) fun _ _ e => e)
  obtain ⟨it,fp,tn,J,H2,e,I2,T,st2,f2,hB⟩:=h2
  subst e
  refine comp_core (RR:=fun acc C => compPost (model X.prog X.w) X.A X.xe (some (assign (.Name x pos') X.env)) (fun _ s' => SP X pins D0 .next s') acc C) I2 hc T st2 f2 hkind hcell hfree hcap (hg fp) (he fp) hB ?_
  intro D C s' m ys H' hC hDC hn I3 nD nC q
  show wpAny _ X.A (assign (.Name x pos') X.env (.ref D)) _ _ _
  have hCl:C ≠ X.env.locals:=Ne.symm (Nat.ne_of_lt (Nat.lt_of_lt_of_le I2.lt hC))
  have hCc:∀ x c,X.env.cells.lookup x = some c → c ≠ C:=fun x c e z => by
    obtain ⟨v,o,ho,_⟩:=I2.cell x c e
    rw [z] at ho
    exact absurd (Nat.lt_of_lt_of_le (Heap.lt_size ho) hC) (Nat.lt_irrefl _)
  refine wpAny_assign_Name (store_ok2 I3 hN hx1 (.inl hx) (v:=.ref D) rfl (fun s4 I4 ⟨a,sb,ha⟩ => ?_) (.inr hx))
  have hCa:C ≠ a:=by
    rcases ha with e | e
    · rw [e]; exact hCl
    · exact Ne.symm (hCc x a e)
  refine ⟨m,hn.sameBut sb hCa,fun h' hs' => ⟨_,_,?_,q D nD⟩⟩
  exact I4.turned (t':=s4.toks) (it:=C) (fun b o hb e => hs'.extBut b o hb e) (by rw [upd_ne (Ne.symm hDC)]; exact nC) hCl (.inr (Nat.le_trans I2.sz hC)) hCc
    (fun p hp z => by
      have:=(I2.pin p hp).1
      rw [z] at this
      exact absurd (Nat.lt_of_lt_of_le (Heap.lt_size this) hC) (Nat.lt_irrefl _))
theorem keep1 {x:V} {cs:List (Option V)}:∀ (i:Nat) v,((none:Option V) :: cs)[i]? = some (some v) → ((some x) :: cs)[i]? = some (some v)
  | 0,v,h => by simp at h
  | i + 1,v,h => by simpa using h
theorem comp_list {K:PySem.W.Frag} {a:Addr} {xs:List V} {σ:St} {H:Hp} {QL:List V → Hp → Prop} (Pv:Nat → List V → Hp → Prop) (hz:xs.length ≤ 1000) (h0:Pv 0 [] H) (hl:∀ i ys H,i ≤ xs.length → Pv i ys H → SqL K H a xs)
    (hs:∀ i x ys H,xs[i]? = some x → ys.length = i → Pv i ys H → te (some x :: caps.map fun p => (σ[p.1]?).join) H fun v H' => Pv (i + 1) (ys ++ [v]) H') (hd:∀ ys H,ys.length = xs.length → Pv xs.length ys H → QL ys H) :
    tCompB 1 caps (gName 0) te σ (Itl K a) H QL:=by
  have hz':xs.length < sizeLine:=small1000 hz
  refine ⟨fun i m ys H => m = xs.length - i ∧ i ≤ xs.length ∧ ys.length = i ∧ Pv i ys H,⟨_,rfl,Nat.zero_le _,rfl,h0⟩,?_⟩
  rintro i m ys H' ⟨rfl,hi,hy,p⟩
  have q:=hl i ys H' hi p
  refine ⟨by omega,?_⟩
  by_cases hlt:i < xs.length
  · refine .inr ⟨⟨xs,xs[i],q,by simp [hlt]⟩,by omega,fun v H4 => Pv (i + 1) (ys ++ [v]) H4,fun v H4 p' => ⟨xs.length - (i + 1),by omega,rfl,hlt,by rw [List.length_append,hy]; rfl,p'⟩,fun x H2 y => ?_⟩
    obtain ⟨e,y⟩:=y
    subst e
    exact ⟨keep1,hs i x ys _ (y xs q) hy p⟩
  · have e:i = xs.length:=by omega
    subst e
    exact .inl ⟨⟨xs,q,Nat.le_refl _⟩,hd ys H' hy p⟩
theorem comp_range {lo:Int} {n:Nat} {σ:St} {H:Hp} {QL:List V → Hp → Prop} (Pv:Nat → List V → Hp → Prop) (hz:n ≤ 1000) (h0:Pv 0 [] H)
    (hs:∀ i ys H,i < n → ys.length = i → Pv i ys H → te (some (.int (lo + i)) :: caps.map fun p => (σ[p.1]?).join) H fun v H' => Pv (i + 1) (ys ++ [v]) H') (hd:∀ ys H,ys.length = n → Pv n ys H → QL ys H) :
    tCompB 1 caps (gName 0) te σ (Itr lo n) H QL:=by
  have hz':n < sizeLine:=small1000 hz
  refine ⟨fun i m ys H => m = n - i ∧ i ≤ n ∧ ys.length = i ∧ Pv i ys H,⟨_,rfl,Nat.zero_le _,rfl,h0⟩,?_⟩
  rintro i m ys H' ⟨rfl,hi,hy,p⟩
  refine ⟨by omega,?_⟩
  by_cases hlt:i < n
  · refine .inr ⟨hlt,by omega,fun v H4 => Pv (i + 1) (ys ++ [v]) H4,fun v H4 p' => ⟨n - (i + 1),by omega,rfl,hlt,by rw [List.length_append,hy]; rfl,p'⟩,fun x H2 y => ?_⟩
    obtain ⟨e,y⟩:=y
    subst e y
    exact ⟨keep1,hs i ys _ hlt hy p⟩
  · have e:i = n:=by omega
    subst e
    exact .inl ⟨Nat.le_refl _,hd ys H' hy p⟩
end
end L2
namespace L2
open PySem PySem.Spec PyProof.Rows
structure HasM (P:Program) (w:World) (K:PySem.W.Frag) (mg:Str → Option Value) (base:Heap) (C:Addr) (m:Str) (k:Nat) (ps:List Str) (dvs:List V) (sp:Sp):Prop where
  ex:∃ (f:Addr) (fd:FuncData) (ds:List Value),FnOk P w K mg base CX0 k f fd ps sp ∧ Meth K C m f ∧ Binds K fd ps ds ∧ Vals dvs ds
theorem HasM.mono {P:Program} {w:World} {K:PySem.W.Frag} {mg:Str → Option Value} {base:Heap} {C:Addr} {m:Str} {j k:Nat} {ps:List Str} {dvs:List V} {sp:Sp} (h:HasM P w K mg base C m j ps dvs sp) (e:j ≤ k):HasM P w K mg base C m k ps dvs sp :=
  let ⟨f,fd,ds,a,b,c,d⟩:=h.ex
  ⟨f,fd,ds,a.mono e,b,c,d⟩
def tMethA (P:Program) (w:World) (K:PySem.W.Frag) (mg:Str → Option Value) (base:Heap) (m:Str) (k:Nat) (ta:TE) (t:TA):TE:=fun σ H Q => ta σ H fun x H1 => ∃ a C dx fs ps dvs sp,x = .ref a ∧ H1 a = some (.ins C dx fs) ∧ Cls K C ∧ HasM P w K mg base C m k ps dvs sp ∧ fs.lookup m = none ∧
  t σ H1 fun vs H2 => sp (x :: (vs ++ dvs)) H2 Q E0
section
variable {X:Cx} {k:Nat} {m x:Str} {p pos apos:Pos} {e o:Expr} {es:List Expr} {ta:TE} {t:TA}
theorem pe_methA {pl:Sem Bool} (he:PE X o ta) (hr:Room k X.A) (ha:PA X (e :: es) t)
    (hst:starEach (e :: es) X.env = (false,eval e X.env) :: starEach es X.env:=by rfl) (hpl:(backTo pos (starEach es X.env)).any (·.1) = false:=by rfl)
    (ht:eval (.Call (.Attribute o m apos) (e :: es) [] pos) X.env = (do
      let ov ← eval o X.env
      standAt apos.atName
      let (f,first) ← holding [ov] (getMethod ov m pl)
      callWith pos f first (backTo pos (starEach (e :: es) X.env)) (backToKw pos (keywordEach [] X.env))):=by rfl) :
    PE X (.Call (.Attribute o m apos) (e :: es) [] pos) (tMethA X.prog X.w X.K X.mg X.base m k ta t):=by
  intro pins s σ H Q I h
  refine PySem.W.methodCall_KW (pl:=pl) (thn (he pins s σ H _ I h) fun u s1 ⟨x,H1,I1,rx,a,C,dx,fs,ps,dvs,sp,ex,ea,c,hM,l,q⟩ => ?_) ht
  subst ex
  obtain rfl:u = Value.ref a:=rx
  obtain ⟨f,fd,ds,F,hm,hb,hd⟩:=hM.ex
  refine getmeth_ok I1 ea c hm l ?_
  refine PySem.W.callWith_K (first:=[.ref a]) (h₀:=X.base) I.ok.mod.kin hm.kp (thn (ha pos pins s1 σ H1 _ I1 q) fun us s2 ⟨vs,H2,I2,r,q2⟩ => ⟨I2.kIn,?_⟩) hst hpl
  exact run_fn (us:=.ref a :: us) (vs:=.ref a :: vs) F hr hb hd pass0 I2 (.cons rfl r) q2
structure HasI (P:Program) (w:World) (K:PySem.W.Frag) (mg:Str → Option Value) (base:Heap) (C:Addr) (k:Nat) (ps:List Str) (sp:Sp):Prop where
  ex:∃ (f:Addr) (fd:FuncData),Mk K C f ∧ FnOk P w K mg base CX0 k f fd ps sp ∧ Binds K fd ps []
theorem pe_makeI {C:Addr} {ps:List Str} {sp:Sp} (h:HasI X.prog X.w X.K X.mg X.base C k ps sp) (hr:Room (k + 1) X.A) (hg:Gl X x) (hm:X.mg x = some (.ref C)) (ha:PA X (e :: es) t) (hdb:(x == ("__debug__" : Str)) = false:=by decide)
    (he:starEach (e :: es) X.env = (false,eval e X.env) :: starEach es X.env:=by rfl) (hpl:(backTo pos (starEach es X.env)).any (·.1) = false:=by rfl):PE X (.Call (.Name x p) (e :: es) [] pos) (tMake C sp [] E0 t):=by
  obtain ⟨f,fd,M,F,b⟩:=h.ex
  exact pe_make M F hr hg hm b .nil pass0 ha hdb he hpl
structure HereM (K:PySem.W.Frag) (C:Addr) (m qual:Str) (st:Stmt):Prop where
  ex:∃ (f:Addr) (fd:FuncData),Fun K m qual st f fd ∧ Meth K C m f
theorem HereM.hasM {P:Program} {w:World} {K:PySem.W.Frag} {mg:Str → Option Value} {base:Heap} {C:Addr} {m qual:Str} {st:Stmt} {k:Nat} {ps:List Str} {sp:Sp} (h:HereM K C m qual st)
    (b:∀ f fd,Fun K m qual st f fd → Binds K fd ps []) (ok:∀ f fd,Fun K m qual st f fd → FnOk P w K mg base CX0 k f fd ps sp):HasM P w K mg base C m k ps [] sp :=
  let ⟨f,fd,F,M⟩:=h.ex
  ⟨f,fd,[],ok f fd F,M,b f fd F,.nil⟩
theorem hereM_mk {K:PySem.W.Frag} {C:Addr} {m qual:Str} {st:Stmt} {f:Addr} {oc:Value} {od an:Option Addr} {osl:Array (Option Value)} {kV doc pm cdv ct:Value} (a:PySem.W.findIn K (.ref C) m = some (some (.ref f))) (i:PySem.W.isFn K (.ref f) = true)
    (l:K.lookup f = some ⟨oc,od,.func (PySem.W.fnOf m qual (defArgs st) (defBody st) (defScope st) .none kV doc pm an cdv ct),osl⟩)
    (c:PySem.W.codeIn K cdv qual = true) (k:PySem.W.keepIn K (.ref f) = true):HereM K C m qual st:=⟨f,_,fun_mk l c k,a,i,k⟩
structure HereI (K:PySem.W.Frag) (C:Addr) (qual:Str) (st:Stmt):Prop where
  ex:∃ (f:Addr) (fd:FuncData),Fun K "__init__" qual st f fd ∧ Mk K C f
theorem HereI.hasI {P:Program} {w:World} {K:PySem.W.Frag} {mg:Str → Option Value} {base:Heap} {C:Addr} {qual:Str} {st:Stmt} {k:Nat} {ps:List Str} {sp:Sp} (h:HereI K C qual st)
    (b:∀ f fd,Fun K "__init__" qual st f fd → Binds K fd ps []) (ok:∀ f fd,Fun K "__init__" qual st f fd → FnOk P w K mg base CX0 k f fd ps sp):HasI P w K mg base C k ps sp :=
  let ⟨f,fd,F,M⟩:=h.ex
  ⟨f,fd,M,ok f fd F,b f fd F⟩
theorem hereI_mk {K:PySem.W.Frag} {C:Addr} {qual:Str} {st:Stmt} {f:Addr} {oc:Value} {od an:Option Addr} {osl:Array (Option Value)} {kV doc pm cdv ct:Value} (mk:PySem.W.makesIn K C = true) (a:PySem.W.findIn K (.ref C) "__init__" = some (some (.ref f))) (i:PySem.W.isFn K (.ref f) = true)
    (kc:PySem.W.keepIn K (.ref C) = true) (l:K.lookup f = some ⟨oc,od,.func (PySem.W.fnOf "__init__" qual (defArgs st) (defBody st) (defScope st) .none kV doc pm an cdv ct),osl⟩)
    (c:PySem.W.codeIn K cdv qual = true) (k:PySem.W.keepIn K (.ref f) = true):HereI K C qual st:=⟨f,_,fun_mk l c k,mk,a,i,kc⟩
structure Mk0 (K:PySem.W.Frag) (C:Addr):Prop where
  makes:PySem.W.makesIn K C = true
  init:PySem.W.findIn K (.ref C) "__init__" = some (some (.builtin "object.__init__"))
  kp:PySem.W.keepIn K (.ref C) = true
end
end L2
namespace M1
theorem fmod_gcd (a b:Int):Int.gcd b (a.fmod b) = Int.gcd a b:=by
  have h:a.fmod b = a - b * a.fdiv b:=Int.fmod_def a b
  rw [h,Int.gcd_comm a b]
  have:a - b * a.fdiv b = a + b * (-(a.fdiv b)):=by rw [Int.mul_neg]; omega
  rw [this]
  simp
theorem fmod_neg_le (a:Int) {b:Int} (h:b < 0):a.fmod b ≤ 0 ∧ b < a.fmod b:=by
  have e:=Int.neg_fmod_neg a b
  have h1:=Int.fmod_nonneg_of_pos (-a) (b:=-b) (by omega)
  have h2:=Int.fmod_lt_of_pos (-a) (b:=-b) (by omega)
  omega
theorem fmod_lt (a:Int) {b:Int} (h:b ≠ 0):(a.fmod b).natAbs < b.natAbs:=by
  rcases Int.lt_or_gt_of_ne h with h | h
  · have h1:=fmod_neg_le a h
    omega
  · have h1:=Int.fmod_nonneg_of_pos a h
    have h2:=Int.fmod_lt_of_pos a h
    omega
theorem fmod_sign (a:Int) {b:Int} (h:b ≠ 0):(0 ≤ b ∧ 0 ≤ a.fmod b) ∨ (b ≤ 0 ∧ a.fmod b ≤ 0):=by
  rcases Int.lt_or_gt_of_ne h with h | h
  · exact .inr ⟨by omega,(fmod_neg_le a h).1⟩
  · exact .inl ⟨by omega,Int.fmod_nonneg_of_pos a h⟩
structure Sh (x y a u1 v1 b u2 v2:Int):Prop where
  ea:a = u1 * x + v1 * y
  eb:b = u2 * x + v2 * y
  g:Int.gcd a b = Int.gcd x y
  st:(a = x ∧ u1 = 1 ∧ v1 = 0 ∧ b = y ∧ u2 = 0 ∧ v2 = 1) ∨
    (a ≠ 0 ∧ ((0 ≤ a ∧ 0 ≤ b) ∨ (a ≤ 0 ∧ b ≤ 0)) ∧ a.natAbs ≤ y.natAbs ∧ b.natAbs ≤ y.natAbs ∧ u1.natAbs ≤ y.natAbs ∧ v1.natAbs ≤ x.natAbs + 2 * y.natAbs ∧
      u2.natAbs * a.natAbs + u1.natAbs * b.natAbs ≤ y.natAbs ∧ v2.natAbs * a.natAbs + v1.natAbs * b.natAbs ≤ x.natAbs + 2 * y.natAbs)
theorem Sh.start (x y:Int):Sh x y x 1 0 y 0 1:=⟨by omega,by omega,rfl,.inl ⟨rfl,rfl,rfl,rfl,rfl,rfl⟩⟩
theorem le_mul_nat {a b c:Nat} (h:a * b ≤ c) (hb:b ≠ 0):a ≤ c:=Nat.le_trans (Nat.le_mul_of_pos_right a (Nat.pos_of_ne_zero hb)) h
theorem le_c1 {X Y:Nat}:X ≤ X + 2 * Y + 1:=by omega
theorem le_c2 {X Y:Nat}:Y ≤ X + 2 * Y + 1:=by omega
theorem le_c3 {X Y:Nat}:1 ≤ X + 2 * Y + 1:=by omega
theorem le_c4 {X Y:Nat} (h:1 ≤ Y):1 ≤ X + 2 * Y:=by omega
theorem Sh.bound {x y a u1 v1 b u2 v2:Int} (h:Sh x y a u1 v1 b u2 v2) :
    a.natAbs ≤ x.natAbs + 2 * y.natAbs + 1 ∧ u1.natAbs ≤ x.natAbs + 2 * y.natAbs + 1 ∧ v1.natAbs ≤ x.natAbs + 2 * y.natAbs + 1 ∧
    b.natAbs ≤ x.natAbs + 2 * y.natAbs + 1 ∧ u2.natAbs ≤ x.natAbs + 2 * y.natAbs + 1 ∧ v2.natAbs ≤ x.natAbs + 2 * y.natAbs + 1:=by
  rcases h.st with ⟨rfl,rfl,rfl,rfl,rfl,rfl⟩ | ⟨ha,_,h1,h2,h3,h4,h5,h6⟩
  · exact ⟨le_c1,le_c3,Nat.zero_le _,le_c2,Nat.zero_le _,le_c3⟩
  · have ha':a.natAbs ≠ 0:=Int.natAbs_ne_zero.mpr ha
    have k1:u2.natAbs ≤ y.natAbs:=le_mul_nat (b:=a.natAbs) (Nat.le_trans (Nat.le_add_right _ _) h5) ha'
    have k2:v2.natAbs ≤ x.natAbs + 2 * y.natAbs:=le_mul_nat (b:=a.natAbs) (Nat.le_trans (Nat.le_add_right _ _) h6) ha'
    exact ⟨Nat.le_trans h1 le_c2,Nat.le_trans h3 le_c2,Nat.le_succ_of_le h4,Nat.le_trans h2 le_c2,Nat.le_trans k1 le_c2,Nat.le_succ_of_le k2⟩
theorem rest_eq (a b:Int):a - a.fdiv b * b = a.fmod b:=by rw [Int.fmod_def,Int.mul_comm]
theorem fdiv_small (a:Int) {b:Int} (hb:b ≠ 0):(a.fdiv b).natAbs ≤ a.natAbs + 1:=by
  have e:=Int.mul_fdiv_add_fmod a b
  have l:=fmod_lt a hb
  have k:(b * a.fdiv b).natAbs = b.natAbs * (a.fdiv b).natAbs:=Int.natAbs_mul ..
  have z:b * a.fdiv b = a - a.fmod b:=by omega
  have n1:b.natAbs * (a.fdiv b).natAbs ≤ a.natAbs + (b.natAbs - 1):=by
    rw [← k,z]
    have:=Int.natAbs_sub_le a (a.fmod b)
    omega
  generalize (a.fdiv b).natAbs = q at *
  generalize b.natAbs = c at *
  have hc:1 ≤ c:=by omega
  rcases Nat.lt_or_ge (a.natAbs + 1) q with h | h
  · have:c * (a.natAbs + 2) ≤ c * q:=Nat.mul_le_mul_left c h
    have e2:c * (a.natAbs + 2) = c * a.natAbs + c * 2:=Nat.mul_add ..
    have e3:a.natAbs ≤ c * a.natAbs:=Nat.le_mul_of_pos_left _ hc
    omega
  · exact h
theorem fdiv_nn {a b:Int} (h:(0 ≤ a ∧ 0 ≤ b) ∨ (a ≤ 0 ∧ b ≤ 0)):0 ≤ a.fdiv b:=by
  rcases h with ⟨h1,h2⟩ | ⟨h1,h2⟩
  · exact Int.fdiv_nonneg h1 h2
  · rw [← Int.neg_fdiv_neg]; exact Int.fdiv_nonneg (by omega) (by omega)
theorem abs_split {a b:Int} (hb:b ≠ 0) (h:(0 ≤ a ∧ 0 ≤ b) ∨ (a ≤ 0 ∧ b ≤ 0)):(a.fdiv b).natAbs * b.natAbs + (a.fmod b).natAbs = a.natAbs:=by
  have e:=Int.mul_fdiv_add_fmod a b
  have q:=fdiv_nn h
  have s:=fmod_sign a hb
  rw [← Int.natAbs_mul,Int.mul_comm]
  have pq:(0 ≤ b ∧ 0 ≤ b * a.fdiv b) ∨ (b ≤ 0 ∧ b * a.fdiv b ≤ 0):=by
    rcases h with ⟨h1,h2⟩ | ⟨h1,h2⟩
    · exact .inl ⟨h2,Int.mul_nonneg h2 q⟩
    · refine .inr ⟨h2,?_⟩
      have:=Int.mul_nonneg (show 0 ≤ -b by omega) q
      rw [Int.neg_mul] at this
      omega
  rcases pq with ⟨b1,p1⟩ | ⟨b1,p1⟩
  · rcases s with ⟨_,s1⟩ | ⟨b2,_⟩
    · rw [← Int.natAbs_add_of_nonneg p1 s1,e]
    · exact absurd (Int.le_antisymm b2 b1) hb
  · rcases s with ⟨b2,_⟩ | ⟨_,s1⟩
    · exact absurd (Int.le_antisymm b1 b2) hb
    · rw [← Int.natAbs_add_of_nonpos p1 s1,e]
theorem sub_mul_le (u q v:Int):(u - q * v).natAbs ≤ u.natAbs + q.natAbs * v.natAbs:=by
  have:=Int.natAbs_sub_le u (q * v)
  rw [Int.natAbs_mul] at this
  exact this
theorem nat_turn {u1 u2 q a b r u C:Nat} (hu:u ≤ u1 + q * u2) (ha:q * b + r = a) (h:u2 * a + u1 * b ≤ C):u * b + u2 * r ≤ C:=by
  have h1:u * b ≤ (u1 + q * u2) * b:=Nat.mul_le_mul_right b hu
  have h2:(u1 + q * u2) * b = u1 * b + u2 * (q * b):=by
    rw [Nat.add_mul,Nat.mul_comm q u2,Nat.mul_assoc]
  have h3:u2 * a = u2 * (q * b) + u2 * r:=by rw [← ha,Nat.mul_add]
  omega
theorem lin_turn {x y a b q u1 v1 u2 v2:Int} (ea:a = u1 * x + v1 * y) (eb:b = u2 * x + v2 * y):a - q * b = (u1 - q * u2) * x + (v1 - q * v2) * y:=by
  rw [ea,eb,Int.sub_mul,Int.sub_mul,Int.mul_add,Int.mul_assoc,Int.mul_assoc]
  omega
theorem two_le {M A R B:Nat} (h:M ≤ A + R) (l:R < B):M + R ≤ A + 2 * B:=by omega
theorem Sh.turn {x y a u1 v1 b u2 v2:Int} (h:Sh x y a u1 v1 b u2 v2) (hb:b ≠ 0) :
    Sh x y b u2 v2 (a - a.fdiv b * b) (u1 - a.fdiv b * u2) (v1 - a.fdiv b * v2):=by
  have er:=rest_eq a b
  refine ⟨h.eb,lin_turn h.ea h.eb,?_,.inr ?_⟩
  · rw [er,fmod_gcd]; exact h.g
  · have lt:=fmod_lt a hb
    have sg:=fmod_sign a hb
    rw [er]
    refine ⟨hb,sg,?_⟩
    rcases h.st with ⟨rfl,rfl,rfl,rfl,rfl,rfl⟩ | ⟨ha,hs,h1,h2,h3,h4,h5,h6⟩
    · have e0:(1:Int) - a.fdiv b * 0 = 1:=by omega
      have e1:(0:Int) - a.fdiv b * 1 = -(a.fdiv b):=by omega
      rw [e0,e1,Int.natAbs_neg]
      refine ⟨Nat.le_refl _,Nat.le_of_lt lt,Nat.zero_le _,le_c4 (Nat.pos_of_ne_zero (Int.natAbs_ne_zero.mpr hb)),?_,?_⟩
      · show 1 * b.natAbs + 0 * (a.fmod b).natAbs ≤ b.natAbs
        rw [Nat.one_mul,Nat.zero_mul]
        exact Nat.le_refl _
      · show (a.fdiv b).natAbs * b.natAbs + 1 * (a.fmod b).natAbs ≤ a.natAbs + 2 * b.natAbs
        have e:=Int.mul_fdiv_add_fmod a b
        have k:(b * a.fdiv b).natAbs = b.natAbs * (a.fdiv b).natAbs:=Int.natAbs_mul ..
        have z:b * a.fdiv b = a - a.fmod b:=by omega
        rw [Nat.mul_comm,← k,z,Nat.one_mul]
        exact two_le (Int.natAbs_sub_le a (a.fmod b)) lt
    · have sp:=abs_split hb hs
      have ha':a.natAbs ≠ 0:=Int.natAbs_ne_zero.mpr ha
      have k1:u2.natAbs ≤ y.natAbs:=le_mul_nat (b:=a.natAbs) (Nat.le_trans (Nat.le_add_right _ _) h5) ha'
      have k2:v2.natAbs ≤ x.natAbs + 2 * y.natAbs:=le_mul_nat (b:=a.natAbs) (Nat.le_trans (Nat.le_add_right _ _) h6) ha'
      exact ⟨h2,Nat.le_trans (Nat.le_of_lt lt) h2,k1,k2,nat_turn (sub_mul_le ..) sp h5,nat_turn (sub_mul_le ..) sp h6⟩
theorem Sh.done {x y a u1 v1 u2 v2:Int} (h:Sh x y a u1 v1 0 u2 v2):(a.natAbs:Int) = Int.gcd x y ∧ a = x * u1 + y * v1:=by
  have g:=h.g
  rw [Int.gcd_zero_right] at g
  refine ⟨by rw [g],?_⟩
  rw [Int.mul_comm x,Int.mul_comm y]; exact h.ea
end M1
namespace M2
def Prm (n:Int):Prop:=2 ≤ n ∧ ∀ d:Int,2 ≤ d → d * d ≤ n → ¬ d ∣ n
theorem sq_mono {a b:Int} (ha:0 ≤ a) (h:a ≤ b):a * a ≤ b * b:=Int.mul_le_mul h h ha (by omega)
theorem prm_two:Prm 2:=⟨by omega,fun d h1 h2 => by have:=sq_mono (a:=2) (by omega) h1; omega⟩
theorem even_not {n:Int} (h:2 ≤ n) (h2:n ≠ 2) (e:n % 2 = 0):¬ Prm n:=fun p => p.2 2 (by omega) (by omega) (Int.dvd_of_emod_eq_zero e)
theorem prm_even {n:Int} (h:2 ≤ n) (e:n % 2 = 0):Prm n ↔ n = 2:=by
  constructor
  · intro p
    refine Decidable.byContradiction fun z => even_not h z e p
  · rintro rfl
    exact prm_two
def No (n t:Int):Prop:=∀ d:Int,2 ≤ d → d < t → ¬ d ∣ n
theorem No.odd {n:Int} (e:¬ n % 2 = 0):No n 3:=fun d h1 h2 hd => by
  have:d = 2:=by omega
  subst this
  exact e (Int.emod_eq_zero_of_dvd hd)
theorem No.two {n:Int}:No n 2:=fun d h1 h2 => by omega
theorem No.one {n t:Int} (h:No n t) (hn:¬ t ∣ n):No n (t + 1):=fun d h1 h2 => by
  rcases (by omega:d < t ∨ d = t) with z | z
  · exact h d h1 z
  · rw [z]; exact hn
theorem No.next {n t:Int} (h:No n t) (e:¬ n % 2 = 0) (ho:t % 2 = 1) (hn:¬ t ∣ n):No n (t + 2):=fun d h1 h2 hd => by
  rcases (by omega:d < t ∨ d = t ∨ d = t + 1) with z | z | z
  · exact h d h1 z hd
  · rw [z] at hd; exact hn hd
  · have h2d:(2:Int) ∣ d:=Int.dvd_of_emod_eq_zero (by omega)
    exact e (Int.emod_eq_zero_of_dvd (Int.dvd_trans h2d hd))
theorem No.done {n t:Int} (h:No n t) (h2:2 ≤ n) (ht:0 ≤ t) (hl:¬ t * t ≤ n):Prm n:=⟨h2,fun d h1 hd => h d h1 (by
  refine Int.lt_of_not_ge fun z => hl ?_
  exact Int.le_trans (sq_mono ht z) hd)⟩
theorem found {n t:Int} (ht:2 ≤ t) (hl:t * t ≤ n) (hd:t ∣ n):¬ Prm n:=fun p => p.2 t ht hl hd
theorem le_of_sq {n t:Int} (ht:2 ≤ t) (hl:t * t ≤ n):t + t ≤ n:=by
  have:t * 2 ≤ t * t:=Int.mul_le_mul_of_nonneg_left ht (by omega)
  omega
theorem fmod_dvd {n t:Int} (ht:0 < t):n.fmod t = 0 ↔ t ∣ n:=by
  rw [Int.fmod_eq_emod_of_nonneg n (by omega)]
  exact ⟨Int.dvd_of_emod_eq_zero,Int.emod_eq_zero_of_dvd⟩
theorem big_check:∀ d:Nat,d < 1000 → 2 ≤ d → 999983 % d ≠ 0:=by decide +kernel
theorem prm_big:Prm 999983:=by
  refine ⟨by omega,fun d h1 h2 hd => ?_⟩
  have hl:d < 1000:=by
    refine Int.lt_of_not_ge fun z => ?_
    have:=sq_mono (a:=1000) (by omega) z
    omega
  have e:=Int.emod_eq_zero_of_dvd hd
  refine big_check d.toNat (by omega) (by omega) ?_
  have ed:d = (d.toNat:Int):=by omega
  rw [ed] at e
  have e2:((999983 % d.toNat:Nat):Int) = 0:=by rw [Int.natCast_emod]; exact e
  exact Int.natCast_eq_zero.mp e2
theorem prm_dvd {p d:Int} (h:Prm p) (h1:1 < d) (hd:d ∣ p):d = p:=by
  obtain ⟨k,hk⟩:=hd
  have hp:=h.1
  refine Decidable.byContradiction fun z => ?_
  have kpos:0 < k:=by
    refine Int.lt_of_not_ge fun q => ?_
    have:=Int.mul_nonneg (show 0 ≤ d by omega) (show 0 ≤ -k by omega)
    rw [Int.mul_neg] at this
    omega
  have k1:k ≠ 1:=fun q => z (by rw [hk,q,Int.mul_one])
  rcases (by omega:d ≤ k ∨ k ≤ d) with q | q
  · exact h.2 d (by omega) (by rw [hk]; exact Int.mul_le_mul_of_nonneg_left q (by omega)) ⟨k,hk⟩
  · exact h.2 k (by omega) (by rw [hk]; exact Int.mul_le_mul_of_nonneg_right q (by omega)) ⟨d,by rw [hk,Int.mul_comm]⟩
theorem prm_gcd {p b:Int} (h:Prm p) (hb:¬ p ∣ b):Int.gcd b p = 1:=by
  have h1:=Int.gcd_dvd_right b p
  have h2:=Int.gcd_dvd_left b p
  have hp:=h.1
  have hne:Int.gcd b p ≠ 0:=fun z => by
    rw [z] at h1
    have:=Int.zero_dvd.mp h1
    omega
  refine Decidable.byContradiction fun z => hb ?_
  have e:=prm_dvd h (show (1:Int) < (Int.gcd b p:Int) by omega) h1
  rw [e] at h2
  exact h2
end M2
namespace M3
end M3
namespace L2
open PySem PySem.Spec PyProof.Rows
structure XCls (K:PySem.W.Frag) (C:Addr):Prop where
  ga:PySem.W.findIn K (.ref C) "__getattribute__" = some (some (.builtin "BaseException.__getattribute__"))
  ha:PySem.W.findIn K (.ref C) "__getattr__" = some none
  cl:PySem.W.findIn K (.ref C) "__class__" = some (some (.builtin "object.__class__"))
  hn:PySem.W.specialIn K (.builtin "object.__class__") "__get__" = some (some (.builtin "getset_descriptor.__get__"))
  tk:PySem.W.takesIn K (.builtin "object.__class__") = some true
  ob:PySem.W.mroIn K C (.type "object") = some true
  be:PySem.W.mroIn K C (.type "BaseException") = some true
  hd:PySem.W.hasDictIn K C = true
section
variable {prog:Program} {w:World} {A:Around} {E:Value → Shared → Prop} {s:Shared} {K:PySem.W.Frag} {x C:Addr} {ox:Obj} {od:Option Obj}
theorem findObj_any {K:PySem.W.Frag} {C:Addr} {od:Option Obj} {name:Str} {a g:Value} (hc:(PySem.W.clsIn K C).isSome = true) (ha:PySem.W.findIn K (.ref C) name = some (some a)) (hg:PySem.W.specialIn K a "__get__" = some (some g)) (ht:PySem.W.takesIn K a = some true) :
    PySem.W.findObj K C od name = some (.bind g a):=by
  obtain ⟨cd,hc⟩:=Option.isSome_iff_exists.mp hc
  unfold PySem.W.findObj
  rw [hc,Option.bind_some,ha,Option.bind_some]
  simp [hg,ht]
theorem bexc_call (c:XCls K C) {tk:Tok} {R:Result → Shared → Prop} (X:K.In s.heap) (I:PySem.W.InstAt s.heap x ox C od) (h:R (.ok (.ret (.ref C))) s) :
    codeAny (model prog w) A (.call (.builtin "BaseException.__getattribute__") ⟨[.ref x,.str "__class__" tk],[]⟩) R s:=by
  have hf:PySem.W.findObj K C od "__class__" = some (.bind (.builtin "getset_descriptor.__get__") (.builtin "object.__class__")):=findObj_any (by obtain ⟨cd,hc,_⟩:=PySem.W.any_some c.hd; rw [hc]; rfl) c.cl c.hn c.tk
  obtain ⟨hh,gg,d,t,os⟩:=s
  have L0:=I.type (M:=model prog w)
  have LF:=PySem.W.looks_find (M:=model prog w) X I hf
  have LB:PySem.W.Looks (model prog w) hh (isInstance (.ref x) (.type "BaseException")) true:=L0.andThen (PySem.W.looks_mroIn X c.be)
  have LG:=PySem.W.looks_mroIn (M:=model prog w) X c.be
  refine codeAny_call_builtin F.excAttr_ValueError.ga.plain F.entry_bexc_ga ?_
  have hk:builtinKind "BaseException.__getattribute__" = some .slot:=by decide +kernel
  have hsplit:splitId "BaseException.__getattribute__" = some ("BaseException", "__getattribute__"):=by decide +kernel
  have ha:=F.args_bexc_ga (.ref x) (.str "__class__" tk)
  simp only [checkBuiltinCall,hk,hsplit]
  refine wpAny_bind (LB.at ?_)
  simp only [Bool.not_true,Bool.false_eq_true,if_false]
  refine wpAny_of_eq ha ?_
  refine wpAny_bind (wpAny_pure (wpAny_bind (wpAny_pure (wpAny_bind (L0.at (wpAny_bind (LF.at ?_)))))))
  show wpAny _ _ (holding [Value.builtin "object.__class__"] (call (.builtin "getset_descriptor.__get__") [.builtin "object.__class__", .ref x,.ref C]) >>= ret) _ _ _
  exact wpAny_bind (wpAny_holding (wpAny_call (PySem.W.class_get (s:=⟨hh,gg,d,t,os⟩) X I c.ob (wpAny_pure h))))
theorem exc_class (c:XCls K C) {Q:Option Value → Shared → Prop} (X:K.In s.heap) (I:PySem.W.InstAt s.heap x ox C od) (h:Q (some (.ref C)) { s with toks:=s.toks + 1 }):wpAny (model prog w) A (getAttr? (.ref x) "__class__") Q E s:=by
  have L0:=I.type (M:=model prog w)
  have L1:=PySem.W.looks_findIn (M:=model prog w) X c.ga
  have L3:=PySem.W.looks_findIn (M:=model prog w) X c.ha
  obtain ⟨hh,g,d,t,os⟩:=s
  unfold getAttr? getAttrBy? getAttrBy
  refine wpAny_bind (wpAny_mkText (wpAny_bind (wpAny_attempt (wpAny_holding (wpAny_bind (L0.at (wpAny_bind (L1.at ?_))))))))
  show wpAny _ _ (getAttrByItsOwn _ _ _ _ _ _) _ _ _
  unfold getAttrByItsOwn
  refine wpAny_bind (L3.at ?_)
  refine wpAny_bind (wpAny_attempt (wpAny_holding ?_))
  show wpAny _ _ (boundAndCalled _ _ _) _ _ _
  unfold boundAndCalled
  refine wpAny_bind (wpAny_of_eq (F.excAttr_ValueError.ga.bind (.ref x)) ?_)
  refine wpAny_call (bexc_call (s:=⟨hh,g,d,t + 1,os⟩) c X I ?_)
  exact PySem.W.handed_on rfl (wpAny_pure h)
theorem kitx_exc (c:XCls K C):PySem.W.KitX K (.ref x) (.ref C) (fun h => ∃ ox od,PySem.W.InstAt h x ox C od) where
  ty:=fun _ _ _ ⟨_,_,I⟩ => I.type
  it:=fun _ _ X _ => by
    obtain ⟨cdD,hcD,_⟩:=PySem.W.any_some c.hd
    unfold PySem.W.clsIn at hcD
    split at hcD
    · rename_i c' d' cd' sl' ho
      intro A' Q' E' s' k q
      unfold isType loadHead
      exact wpAny_bind (wpAny_loadPart (k _ _ (X _ _ ho)) (wpAny_pure q))
    · cases hcD
  ne:=fun h tp dd its n sl X htp => by
    obtain ⟨cdD,hcD,_⟩:=PySem.W.any_some c.hd
    refine Bool.eq_false_iff.mpr fun q => ?_
    have e:C = tp:=Value.ref.inj (beq_iff_eq.mp q)
    subst e
    unfold PySem.W.clsIn at hcD
    split at hcD
    · rename_i c' d' cd' sl' ho
      exact nomatch (X _ _ ho).symm.trans htp
    · cases hcD
  ca:=fun X ⟨_,_,I⟩ k => exc_class c X I k
end
end L2
namespace L2
open PySem PySem.Spec PyProof.Rows
def Tr (h B:Heap) (e:Addr) (cls a0:Value) (dd:Option Addr) (fl:Value):Prop :=
  ∃ oe vs T oT ts,h.get? e = some oe ∧ oe.cls = cls ∧ oe.dict = dd ∧ oe.data = .fields vs ∧ vs[0]? = some a0 ∧ vs[1]? = some (.ref T) ∧ B.get? T = none ∧ T ≠ e ∧ h.get? T = some oT ∧ oT.data = .fields ts ∧ ts[3]? = some fl
theorem dict_mapFields (o:Obj) (f):(o.mapFields f).dict = o.dict:=by
  obtain ⟨c,d,dt,sl⟩:=o
  cases dt <;> rfl
theorem upTo_update {h:Heap} {a:Addr} {o:Obj} {vs:Array Value} (f:Array Value → Array Value) (ho:h.get? a = some o) (hd:o.data = .fields vs):h.UpToSlots (h.update a (Obj.mapFields f)):=fun b u e n =>
  ⟨u.slots,by
    rw [Heap.get?_update_other _ _ fun z => by subst z; rw [ho] at e; cases e; exact n vs hd]
    exact e⟩
theorem frames_up {h h' B:Heap} {l:List Env} (u:h.UpToSlots h') (f:h.FunFrames B l):h'.FunFrames B l:=f.of_keeps fun b o e n => let ⟨sl,q⟩:=u b o e n; ⟨_,q,rfl⟩
section
variable {M:Model} {A:Around} {E:Value → Shared → Prop} {s:Shared} {B:Heap} {env:Env} {outer:List Env} {L e:Addr} {oe:Obj} {vs:Array Value} {cls a0:Value} {dd:Option Addr} {Q:Unit → Shared → Prop}
theorem note_core {hd0:Value} {hn:Bool} (hfr:A.frames = some (env :: outer)) (fl:s.heap.FunFrames B (env :: outer)) (hf:env.frame = some L) (he:s.heap.get? e = some oe) (st:B.StaysIn s.heap) (nb:B.get? e = none) (hd:oe.data = .fields vs)
    (h0:vs[0]? = some a0) (hz:1 < vs.size) (k:∀ h',B.StaysIn h' → h'.FunFrames B (env :: outer) → Tr h' B e oe.cls a0 oe.dict (rawInt L) → s.heap.UpToSlots h' → Q () { s with heap:=h' }) :
    wpAny M A (do let a ← frameOf env; let pl ← entryPlaceOf L hn; let b ← EntryCells.newEntry hd0 a .none (rawInt L) .none pl; setField (.ref e) 1 b) Q E s:=by
  have notf:e ∉ (env :: outer).filterMap (·.frame):=fun hm => by
    obtain ⟨_,o,ho,n⟩:=fl.mem hm
    rw [he] at ho; cases ho; exact n vs hd
  refine wpAny_bind (wpAny_frameOf_fun hfr fl hf fun h1 so => wpAny_bind (wpAny_entryPlaceOf fun pl hpl => ?_))
  have u1:s.heap.UpToSlots h1:=fun b o q _ => so.2.2 b o q
  have st1:B.StaysIn h1:=fun b o q => (so.2.1 b fun hm => by rw [(fl.mem hm).1] at q; cases q).trans (st b o q)
  have he1:h1.get? e = some oe:=(so.2.1 e notf).trans he
  unfold EntryCells.newEntry newFields
  refine wpAny_bind (wpAny_newObj_type ?_ (hpl.sizeOk5 _ _ _ _ _))
  generalize ht:([hd0,Value.ref L,.none,rawInt L,.none] ++ (if pl.isEmpty then List.replicate 6 Value.none else pl)).toArray = ts
  have ht3:ts[3]? = some (rawInt L):=by rw [← ht]; simp
  have he2:=Heap.get?_push_of_some (h:=h1) { cls:=.type "traceback", dict:=none,data:=.fields ts } he1
  refine wpAny_setField he2 hd hz (k _ ?_ ?_ ?_ ?_)
  · intro b o q
    rw [Heap.get?_update_other _ _ fun z => by subst z; rw [nb] at q; cases q]
    exact Heap.get?_push_of_some _ (st1 b o q)
  · exact frames_up ((u1.trans (.of_keeps fun b o q => Heap.get?_push_of_some _ q)).trans (upTo_update _ he2 hd)) fl
  · have nT:h1.objs.size ≠ e:=Nat.ne_of_gt (Heap.lt_size he1)
    refine ⟨_,_,h1.objs.size,{ cls:=.type "traceback", dict:=none,data:=.fields ts },ts,Heap.get?_update_self _ he2 (Obj.isFreed_of_fields (Obj.data_mapFields hd _)),Obj.cls_mapFields _ _,dict_mapFields _ _,Obj.data_mapFields hd _,?_,?_,st1.fresh,nT,?_,rfl,ht3⟩
    · rw [Array.getElem?_setIfInBounds_ne (by decide)]; exact h0
    · simp [hz]
    · rw [Heap.get?_update_other _ _ (Ne.symm nT)]
      exact Heap.get?_push_size h1 rfl
  · exact (u1.trans (.of_keeps fun b o q => Heap.get?_push_of_some _ q)).trans (upTo_update _ he2 hd)
theorem note_first (hfr:A.frames = some (env :: outer)) (fl:s.heap.FunFrames B (env :: outer)) (hf:env.frame = some L) (he:s.heap.get? e = some oe) (st:B.StaysIn s.heap) (nb:B.get? e = none) (hd:oe.data = .fields vs)
    (h0:vs[0]? = some a0) (h1:vs[1]? = some .none) (k:∀ h',B.StaysIn h' → h'.FunFrames B (env :: outer) → Tr h' B e oe.cls a0 oe.dict (rawInt L) → s.heap.UpToSlots h' → Q () { s with heap:=h' }) :
    wpAny M A (noteFrame (.ref e) env) Q E s:=by
  unfold noteFrame
  simp only [hf]
  refine wpAny_bind (wpAny_field he hd h1 ?_)
  rw [if_neg (by decide)]
  exact note_core hfr fl hf he st nb hd h0 (Array.getElem?_eq_some_iff.mp h1).1 k
theorem note_next (hfr:A.frames = some (env :: outer)) (fl:s.heap.FunFrames B (env :: outer)) (hf:env.frame = some L) (tr:Tr s.heap B e cls a0 dd .none) (st:B.StaysIn s.heap) (nb:B.get? e = none)
    (k:∀ h',B.StaysIn h' → h'.FunFrames B (env :: outer) → Tr h' B e cls a0 dd (rawInt L) → s.heap.UpToSlots h' → Q () { s with heap:=h' }):wpAny M A (noteFrame (.ref e) env) Q E s:=by
  obtain ⟨oe,vs,T,oT,ts,he,rfl,rfl,hd,h0,h1,nT,hTe,hT,hdT,h3⟩:=tr
  unfold noteFrame
  simp only [hf]
  refine wpAny_bind (wpAny_field he hd h1 ?_)
  rw [if_pos (show (Value.ref T != Value.none) = true from by simp)]
  refine wpAny_bind (wpAny_field hT hdT h3 ?_)
  rw [if_neg (show ¬ ((Value.none == rawInt L) = true) from by simp [rawInt])]
  have u:=upTo_update (·.setIfInBounds 3 Value.none) hT hdT
  refine wpAny_bind (wpAny_setField hT hdT (Array.getElem?_eq_some_iff.mp h3).1 (note_core (s:={ s with heap:=s.heap.update T (Obj.mapFields (·.setIfInBounds 3 Value.none)) }) hfr (frames_up u fl) hf (by rw [Heap.get?_update_other _ _ hTe]; exact he) (fun b o q => ?_) nb hd h0 (Array.getElem?_eq_some_iff.mp h1).1 fun h' a b c d => k h' a b c (u.trans d)))
  rw [Heap.get?_update_other _ _ fun z => by subst z; rw [nT] at q; cases q]
  exact st b o q
theorem mark_off {fl0:Value} {l:List Env} (fl:s.heap.FunFrames B l) (tr:Tr s.heap B e cls a0 dd fl0) (st:B.StaysIn s.heap)
    (k:∀ h',B.StaysIn h' → h'.FunFrames B l → Tr h' B e cls a0 dd .none → s.heap.UpToSlots h' → Q () { s with heap:=h' }):wpAny M A (setFlight (.ref e) none) Q E s:=by
  obtain ⟨oe,vs,T,oT,ts,he,rfl,rfl,hd,h0,h1,nT,hTe,hT,hdT,h3⟩:=tr
  have h3':3 < ts.size:=(Array.getElem?_eq_some_iff.mp h3).1
  have u:=upTo_update (·.setIfInBounds 3 ((none:Option Addr).elim Value.none fun f => rawInt f)) hT hdT
  unfold setFlight
  refine wpAny_bind (wpAny_field he hd h1 ?_)
  rw [if_pos (show (Value.ref T != Value.none) = true from by simp)]
  refine wpAny_setField hT hdT h3' (k _ (fun b o q => ?_) (frames_up u fl) ⟨oe,vs,T,_,_,?_,rfl,rfl,hd,h0,h1,nT,hTe,Heap.get?_update_self _ hT (Obj.isFreed_of_fields (Obj.data_mapFields hdT _)),Obj.data_mapFields hdT _,by simp [h3']⟩ u)
  · rw [Heap.get?_update_other _ _ fun z => by subst z; rw [nT] at q; cases q]
    exact st b o q
  · rw [Heap.get?_update_other _ _ hTe]; exact he
end
end L2
namespace L2
open PySem PySem.Spec PyProof.Rows
structure Air (P:Program) (w:World) (B:Heap) (l:List Env) (H:Hp) (h:Heap) (e t:Addr) (cls:Value) (dd:Option Addr) (fl:Value):Prop where
  hok:HOk P w H h
  st:B.StaysIn h
  nb:B.get? e = none
  fr:h.FunFrames B l
  tr:Tr h B e cls (.ref t) dd fl
  tk:∀ b u,H b = some u → ∃ o,B.get? b = some o
theorem Air.free {P:Program} {w:World} {B:Heap} {l:List Env} {H:Hp} {h:Heap} {e t:Addr} {cls:Value} {dd:Option Addr} {fl:Value} (a:Air P w B l H h e t cls dd fl):H e = none:=by
  cases q:H e with
  | none => rfl
  | some u => obtain ⟨o,z⟩:=a.tk e u q; rw [a.nb] at z; cases z
theorem hok_in {P:Program} {w:World} {B:Heap} {H:Hp} {h h':Heap} (x:HOk P w H h) (st:B.StaysIn h) (st':B.StaysIn h') (tk:∀ b u,H b = some u → ∃ o,B.get? b = some o):HOk P w H h':=fun a o e =>
  (x a o e).stay (fun b u hb q => by
    have:∃ v,H b = some v:=by
      rcases hb with rfl | hb
      · exact ⟨o,e⟩
      · exact ⟨_,hb⟩
    obtain ⟨v,hv⟩:=this
    obtain ⟨ob,z⟩:=tk b v hv
    have e2:=(st b ob z).symm.trans q
    cases e2
    exact st' b _ z) (fun _ q => q) fun _ _ q => q
def CXx (P:Program) (w:World):CXT:=fun outer H s E ev s' =>
  ∃ (e t:Addr) (cls:Value) (dd:Option Addr) (H':Hp) (B:Heap),ev = .ref e ∧ s'.os = s.os ∧ AllBare s'.gens ∧ Un (frs outer) [] H H' s.heap s'.heap ∧ Air P w B outer H' s'.heap e t cls dd .none ∧
    (∀ b o,s.heap.get? b = some o → H b = none → b ∉ frs outer → B.get? b = some o) ∧ (∀ b o,s.heap.get? b = some o → b ∉ frs outer → ∃ o',B.get? b = some o') ∧ E cls dd H'
section
variable {M:Model} {A:Around} {E:Value → Shared → Prop} {s:Shared} {P:Program} {w:World} {B:Heap} {env:Env} {outer:List Env} {H:Hp} {L e t:Addr} {cls:Value} {dd:Option Addr} {fl:Value} {Q:Unit → Shared → Prop} {B0:Heap}
theorem Air.note (a:Air P w B (env :: outer) H s.heap e t cls dd .none) (hfr:A.frames = some (env :: outer)) (hf:env.frame = some L) (k:∀ h',Air P w B (env :: outer) H h' e t cls dd (rawInt L) → s.heap.UpToSlots h' → Q () { s with heap:=h' }) :
    wpAny M A (noteFrame (.ref e) env) Q E s :=
  note_next hfr a.fr hf a.tr a.st a.nb fun h' st fr tr up => k h' ⟨hok_in a.hok a.st st a.tk,st,a.nb,fr,tr,a.tk⟩ up
theorem Air.off {l:List Env} (a:Air P w B l H s.heap e t cls dd fl) (k:∀ h',Air P w B l H h' e t cls dd .none → s.heap.UpToSlots h' → Q () { s with heap:=h' }):wpAny M A (setFlight (.ref e) none) Q E s :=
  mark_off a.fr a.tr a.st fun h' st fr tr up => k h' ⟨hok_in a.hok a.st st a.tk,st,a.nb,fr,tr,a.tk⟩ up
theorem Air.leave (a:Air P w B (env :: outer) H s.heap e t cls dd .none) (hfr:A.frames = some (env :: outer)) (hf:env.frame = some L) (k:∀ h',Air P w B outer H h' e t cls dd .none → s.heap.UpToSlots h' → Q () { s with heap:=h' }) :
    wpAny M A (leaving env (.ref e)) Q E s:=by
  unfold leaving
  refine wpAny_bind (a.note hfr hf fun h1 a1 u1 => ?_)
  refine Air.off (s:={ s with heap:=h1 }) a1 fun h2 a2 u2 => ?_
  obtain ⟨_,_,fr⟩:=a2.fr
  exact k h2 ⟨a2.hok,a2.st,a2.nb,fr,a2.tr,a2.tk⟩ (u1.trans u2)
theorem air_new {s0:Heap} {vs:List Value} (hok:HOk P w H s0) (fl0:s0.FunFrames B0 (env :: outer)) (hm:Heap.MadeExcOf s0 s.heap e cls vs) (hn:∀ b ∈ frs (env :: outer),H b = none) (hfr:A.frames = some (env :: outer)) (hf:env.frame = some L)
    (k:∀ h' t,Air P w (PySem.W.hideAll s0 (frs (env :: outer))) (env :: outer) H h' e t cls none (rawInt L) → s0.UpToSlots h' → Q () { s with heap:=h' }):wpAny M A (noteFrame (.ref e) env) Q E s:=by
  obtain ⟨t,he,_,_⟩:=hm.there
  have st0:(PySem.W.hideAll s0 (frs (env :: outer))).StaysIn s0:=fun b o q => PySem.W.of_hideAll _ q
  have st:(PySem.W.hideAll s0 (frs (env :: outer))).StaysIn s.heap:=fun b o q => hm.keeps b o (st0 b o q)
  have tk:∀ b u,H b = some u → ∃ o,(PySem.W.hideAll s0 (frs (env :: outer))).get? b = some o:=fun b u q => by
    have lt:=hok.lt q
    obtain ⟨o,ho⟩:∃ o,s0.get? b = some o:=by
      have x:=hok b u q
      cases u with
      | lst xs => obtain ⟨_,_,_,_,z⟩:=x; exact ⟨_,z⟩
      | tup xs => obtain ⟨_,_,_,o,z,_⟩:=x; exact ⟨_,z⟩
      | dK kvs => obtain ⟨_,_,_,_,o,_,_,z,_⟩:=x; exact ⟨_,z⟩
      | dT kvs => obtain ⟨_,_,_,_,o,_,_,z,_⟩:=x; exact ⟨_,z⟩
      | set S n => obtain ⟨o,_,_,_,z,_⟩:=x; exact ⟨_,z⟩
      | ins C dx fs => obtain ⟨_,_,_,z,_⟩:=x; exact ⟨_,z⟩
      | own y => obtain ⟨_,z⟩:=x; exact ⟨_,z⟩
      | xd fs => obtain ⟨_,⟨_,_,_,z,_⟩,_⟩:=x; exact ⟨_,z⟩
      | rng lo hi => obtain ⟨_,_,_,z⟩:=x; exact ⟨_,z⟩
      | frz ob v => obtain ⟨z,_⟩:=x; exact ⟨_,z⟩
      | tbl ps => exact ⟨_,(show s0.get? b = some _ from x)⟩
      | met f y => exact ⟨_,(show s0.get? b = some _ from x)⟩
      | ext φ => obtain ⟨_,⟨_,z⟩,_⟩:=x; exact ⟨_,z⟩
    exact ⟨o,PySem.W.hideAll_get _ ho fun hm => by rw [hn b hm] at q; cases q⟩
  have nb:(PySem.W.hideAll s0 (frs (env :: outer))).get? e = none:=by
    cases q:(PySem.W.hideAll s0 (frs (env :: outer))).get? e with
    | none => rfl
    | some o => have:=st0 e o q; rw [hm.new] at this; cases this
  have fl1:s0.FunFrames (PySem.W.hideAll s0 (frs (env :: outer))) (env :: outer):=PySem.W.funFrames_hide fl0 fun x hx a ha => List.mem_filterMap.mpr ⟨x,hx,ha⟩
  refine note_first hfr (frames_up (.of_keeps hm.keeps) fl1) hf he st nb rfl rfl rfl fun h' st' fr tr up => ?_
  exact k h' t ⟨hok_in hok st0 st' tk,st',nb,fr,tr,tk⟩ ((Heap.UpToSlots.of_keeps hm.keeps).trans up)
end
end L2
namespace L2
open PySem PySem.Spec PyProof.Rows
theorem mem_frs {env:Env} {outer:List Env} {L b:Addr} (hf:env.frame = some L):b ∈ frs (env :: outer) ↔ b = L ∨ b ∈ frs outer:=by
  unfold frs
  rw [List.filterMap_cons,hf,List.mem_cons]
section
variable {X:Cx} {pins:List (Addr × Obj)} {σ:St} {H1 H2:Hp} {s1:Shared} {B h2 h3:Heap}
theorem un_stay (U:Un (frs X.stack) [] H1 H2 s1.heap h2) (fr:h2.FunFrames B X.stack) (up:h2.UpToSlots h3) (st:B.StaysIn h3) (in1:∀ b o,s1.heap.get? b = some o → H1 b = none → b ∉ frs X.stack → B.get? b = some o)
    (in2:∀ b o,s1.heap.get? b = some o → b ∉ frs X.stack → ∃ o',B.get? b = some o'):Un (frs X.stack) [] H1 H2 s1.heap h3 where
  keep:=fun b o q n hb _ => st b o (in1 b o q n hb)
  slot:=fun b o q n hb hx => by
    obtain ⟨sl,e⟩:=U.slot b o q n hb hx
    obtain ⟨_,o',e',nf⟩:=fr.mem hb
    rw [e] at e'
    cases e'
    obtain ⟨sl',e2⟩:=up b _ e nf
    exact ⟨sl',e2⟩
  free:=U.free
  there:=fun b o q hx => by
    by_cases hb:b ∈ frs X.stack
    · obtain ⟨_,o',e',nf⟩:=fr.mem hb
      obtain ⟨sl,e2⟩:=up b _ e' nf
      exact ⟨_,e2⟩
    · obtain ⟨o',z⟩:=in2 b o q hb
      exact ⟨o',st b o' z⟩
  tups:=U.tups
  frzs:=U.frzs
  tbls:=U.tbls
theorem un_left (I:Inv X pins σ H1 s1) (hx:X.ex = []) (hs:X.stack = X.env :: X.outer) (hf:X.env.frame = some X.env.locals) (U:Un (frs X.stack) [] H1 H2 s1.heap h2) (fr:h2.FunFrames B X.stack) (up:h2.UpToSlots h3) (st:B.StaysIn h3)
    (in1:∀ b o,s1.heap.get? b = some o → H1 b = none → b ∉ frs X.stack → B.get? b = some o) (in2:∀ b o,s1.heap.get? b = some o → b ∉ frs X.stack → ∃ o',B.get? b = some o') :
    Un X.fs [] X.H₀ H2 X.s₀.heap h3 ∧ (∀ b o,X.s₀.heap.get? b = some o → X.H₀ b = none → b ∉ X.fs → B.get? b = some o) ∧ ∀ b o,X.s₀.heap.get? b = some o → b ∉ X.fs → ∃ o',B.get? b = some o':=by
  have V:=un_stay U fr up st in1 in2
  have ib:Un X.fs [] X.H₀ H1 X.s₀.heap s1.heap:=by have:=I.base; rw [hx] at this; exact this
  have ne:∀ b o,X.s₀.heap.get? b = some o → b ≠ X.env.locals:=fun b o q z => by
    subst z
    exact absurd (Nat.lt_of_lt_of_le (Heap.lt_size q) I.ok.above) (Nat.lt_irrefl _)
  have nm:∀ b o,X.s₀.heap.get? b = some o → b ∉ X.fs → b ∉ frs X.stack:=fun b o q hb z => by
    rw [hs] at z
    rcases (mem_frs hf).mp z with e | e
    · exact ne b o q e
    · exact hb e
  have sub:∀ b,b ∈ X.fs → b ∈ frs X.stack:=fun b hb => by rw [hs]; exact (mem_frs hf).mpr (.inr hb)
  refine ⟨⟨fun b o q n hb hx => ?_,fun b o q n hb hx => ?_,fun b o q n hx => ?_,fun b o q hx => ?_,fun b xs q => V.tups b xs (ib.tups b xs q),fun b o u q => V.frzs b o u (ib.frzs b o u q),fun b ps q => ?_⟩,fun b o q n hb => ?_,fun b o q hb => ?_⟩
  · exact V.keep b o (ib.keep b o q n hb hx) (ib.free b o q n hx) (nm b o q hb) hx
  · obtain ⟨sl,e⟩:=ib.slot b o q n hb hx
    obtain ⟨sl',e'⟩:=V.slot b _ e (ib.free b o q n hx) (sub b hb) hx
    exact ⟨sl',e'⟩
  · obtain ⟨o',e⟩:=ib.there b o q hx
    exact V.free b o' e (ib.free b o q n hx) hx
  · obtain ⟨o',e⟩:=ib.there b o q hx
    exact V.there b o' e hx
  · obtain ⟨m1,e1⟩:=ib.tbls b ps q
    obtain ⟨m2,e2⟩:=V.tbls b _ e1
    exact ⟨m1 ++ m2,by rw [e2,Array.append_assoc]⟩
  · exact in1 b o (ib.keep b o q n hb (by simp)) (ib.free b o q n (by simp)) (nm b o q hb)
  · obtain ⟨o',e⟩:=ib.there b o q (by simp)
    exact in2 b o' e (nm b o q hb)
end
section
variable {P:Program} {w:World} {K:PySem.W.Frag} {mg:Str → Option Value} {base:Heap} {N:List Str} {qual:Str} {scope:Scope} {f:Addr} {cd:Value} {A:Around} {outer:List Env} {s:Shared} {H:Hp} {E:XK}
abbrev cxX (P:Program) (w:World) (K:PySem.W.Frag) (mg:Str → Option Value) (base:Heap) (N:List Str) (qual:Str) (scope:Scope) (f:Addr) (cd:Value) (A:Around) (outer:List Env) (s:Shared) (H:Hp) (E:XK):Cx :=
  cxOf (CXx P w) P w K mg base N qual scope f cd A outer s H E
def PassS (X:Cx) (E:St → XK):Prop:=∀ (pins:List (Addr × Obj)) (σ:St) (H:Hp) (s:Shared) (e:Value) (s':Shared),Inv X pins σ H s → CXx X.prog X.w X.stack H s (E σ) e s' → X.xe e s'
theorem passE:PassS (cxX P w K mg base N qual scope f cd A outer s H E) fun _ => E:=by
  intro pins σ H1 s1 ev s2 I h
  obtain ⟨e,t,cls,dd,H2,B,rfl,os,bare,U,a,in1,in2,q⟩:=h
  show wpAny (model P w) (A.deeper (envOfC qual scope s.heap.objs.size f cd)) (leaving (envOfC qual scope s.heap.objs.size f cd) (.ref e)) _ _ s2
  have hfr:=I.ok.frames
  refine Air.leave (L:=s.heap.objs.size) a hfr rfl fun h3 a3 up => ?_
  obtain ⟨u,i1,i2⟩:=un_left I rfl rfl rfl U a.fr up a3.st in1 in2
  exact ⟨e,t,cls,dd,H2,B,rfl,os.trans I.os,bare,u,a3,i1,i2,q⟩
theorem passN {X:Cx}:PassS X fun _ => E0:=fun _ _ _ _ _ _ _ ⟨_,_,_,_,_,_,_,_,_,_,_,_,_,q⟩ => q.elim
def RaiseOk (X:Cx) (E:XK):Prop:=∀ (pins:List (Addr × Obj)) (σ:St) (H:Hp) (s:Shared) (h':Heap) (e:Addr) (cls:Value) (vs:List Value),Inv X pins σ H s → Heap.MadeExcOf s.heap h' e cls vs → E cls none H → X.xe (.ref e) { s with heap:=h' }
theorem raiseE:RaiseOk (cxX P w K mg base N qual scope f cd A outer s H E) E:=by
  intro pins σ H1 s1 h' e cls vs I hm q
  show wpAny (model P w) (A.deeper (envOfC qual scope s.heap.objs.size f cd)) (leaving (envOfC qual scope s.heap.objs.size f cd) (.ref e)) _ _ _
  have hfr:=I.ok.frames
  unfold leaving
  refine wpAny_bind (air_new (s:={ s1 with heap:=h' }) I.hok I.stack hm I.stkFree hfr rfl fun h2 t a2 u2 => ?_)
  refine Air.off (s:={ s1 with heap:=h2 }) a2 fun h3 a3 u3 => ?_
  obtain ⟨_,_,fr⟩:=a3.fr
  have fr0:s1.heap.FunFrames (PySem.W.hideAll s1.heap (frs (cxX P w K mg base N qual scope f cd A outer s H E).stack)) (cxX P w K mg base N qual scope f cd A outer s H E).stack:=PySem.W.funFrames_hide I.stack fun x hx a ha => List.mem_filterMap.mpr ⟨x,hx,ha⟩
  obtain ⟨u,i1,i2⟩:=un_left I rfl rfl rfl .refl fr0 (u2.trans u3) a3.st (fun b o e _ hb => PySem.W.hideAll_get _ e hb) (fun b o e hb => ⟨o,PySem.W.hideAll_get _ e hb⟩)
  exact ⟨e,t,cls,none,H1,_,rfl,I.os,I.bare,u,⟨a3.hok,a3.st,a3.nb,fr,a3.tr,a3.tk⟩,i1,i2,q⟩
theorem Fun.okx {x qual:Str} {st:Stmt} {f:Addr} {fd:FuncData} {N ps:List Str} {k:Nat} {sp:Sp} (F:Fun K x qual st f fd) (S:FnScope N ps (defScope st)) (len:∀ vs H Q E,sp vs H Q E → vs.length = ps.length)
    (hbody:∀ (cdv:Value) (A:Around) (outer:List Env) (s:Shared) (H:Hp) (vs:List V) (Q:VK) (E:XK),Room k (A.deeper (envOfC qual (defScope st) s.heap.objs.size f cdv)) → sp vs H Q E →
      ∃ t,PSs (cxX P w K mg base N qual (defScope st) f cdv A outer s H E) (defBody st) t ∧ t { nx:=fun _ H' => Q .non H',rt:=Q } (start N vs) H):FnOk P w K mg base (CXx P w) (k + 1) f fd ps sp:=by
  obtain ⟨oc,od,kV,doc,pm,an,cdv,ct,osl,rfl,lk,hcd⟩:=F.ex
  exact fn_of lk hcd S len fun A outer s H vs Q E hr hsp => hbody cdv A outer s H vs Q E hr hsp
end
structure HasX (P:Program) (w:World) (K:PySem.W.Frag) (mg:Str → Option Value) (base:Heap) (x:Str) (k:Nat) (ps:List Str) (sp:Sp):Prop where
  ex:∃ (f:Addr) (fd:FuncData),FnOk P w K mg base (CXx P w) k f fd ps sp ∧ mg x = some (.ref f) ∧ PySem.W.keepIn K (.ref f) = true ∧ Binds K fd ps []
structure HasMX (P:Program) (w:World) (K:PySem.W.Frag) (mg:Str → Option Value) (base:Heap) (C:Addr) (m:Str) (k:Nat) (ps:List Str) (dvs:List V) (sp:Sp):Prop where
  ex:∃ (f:Addr) (fd:FuncData) (ds:List Value),FnOk P w K mg base (CXx P w) k f fd ps sp ∧ Meth K C m f ∧ Binds K fd ps ds ∧ Vals dvs ds
structure HasIX (P:Program) (w:World) (K:PySem.W.Frag) (mg:Str → Option Value) (base:Heap) (C:Addr) (k:Nat) (ps:List Str) (sp:Sp):Prop where
  ex:∃ (f:Addr) (fd:FuncData),Mk K C f ∧ FnOk P w K mg base (CXx P w) k f fd ps sp ∧ Binds K fd ps []
section
variable {P:Program} {w:World} {K:PySem.W.Frag} {mg:Str → Option Value} {base:Heap} {x m qual:Str} {C:Addr} {st:Stmt} {j k:Nat} {ps:List Str} {dvs:List V} {sp:Sp}
theorem HasX.mono (h:HasX P w K mg base x j ps sp) (e:j ≤ k):HasX P w K mg base x k ps sp:=let ⟨f,fd,a,b,c,d⟩:=h.ex; ⟨f,fd,a.mono e,b,c,d⟩
theorem HasMX.mono (h:HasMX P w K mg base C m j ps dvs sp) (e:j ≤ k):HasMX P w K mg base C m k ps dvs sp:=let ⟨f,fd,ds,a,b,c,d⟩:=h.ex; ⟨f,fd,ds,a.mono e,b,c,d⟩
theorem Here.hasX (h:Here K mg x st) (b:∀ f fd,Fun K x x st f fd → Binds K fd ps []) (ok:∀ f fd,Fun K x x st f fd → FnOk P w K mg base (CXx P w) k f fd ps sp):HasX P w K mg base x k ps sp :=
  let ⟨f,fd,F,m⟩:=h.ex
  ⟨f,fd,ok f fd F,m,F.kp,b f fd F⟩
theorem HereM.hasMX (h:HereM K C m qual st) (b:∀ f fd,Fun K m qual st f fd → Binds K fd ps []) (ok:∀ f fd,Fun K m qual st f fd → FnOk P w K mg base (CXx P w) k f fd ps sp):HasMX P w K mg base C m k ps [] sp :=
  let ⟨f,fd,F,M⟩:=h.ex
  ⟨f,fd,[],ok f fd F,M,b f fd F,.nil⟩
end
section
variable {X:Cx} {k:Nat} {f C:Addr} {fd:FuncData} {ps:List Str} {sp:Sp} {dvs:List V} {ds:List Value} {E:St → XK} {x m:Str} {p pos apos:Pos} {e o:Expr} {es:List Expr} {ta:TE} {t:TA}
theorem run_fnS {pins:List (Addr × Obj)} {σ:St} {H:Hp} {s:Shared} {Q:VK} {us:List Value} {vs:List V} (F:FnOk X.prog X.w X.K X.mg X.base (CXx X.prog X.w) k f fd ps sp) (hr:Room k X.A) (hb:Binds X.K fd ps ds) (hd:Vals dvs ds) (hx:PassS X E)
    (I:Inv X pins σ H s) (r:Vals vs us) (h:sp (vs ++ dvs) H Q (E σ)):wpAny (model X.prog X.w) X.A (call (.ref f) us) (EP X pins σ Q) X.xe s:=by
  have r2:Vals (vs ++ dvs) (us ++ ds):=r.append hd
  have hl:(us ++ ds).length = ps.length:=by rw [← r2.length]; exact F.len _ _ _ _ h
  refine wpAny_call (codeAny_mono (F.run X.A X.stack s H ⟨us,[]⟩ (us ++ ds) (vs ++ dvs) Q (E σ) hr I.env0 (hb s us I.kIn hl) r2 h) fun r s' hq => ?_)
  cases r with
  | error e => exact hx pins σ H s e s' I hq
  | ok fl =>
    cases fl with
    | ret u => exact I.after hq
    | next => exact False.elim hq
    | brk => exact False.elim hq
    | cont => exact False.elim hq
theorem pe_hasX (h:HasX X.prog X.w X.K X.mg X.base x k ps sp) (hx:PassS X E) (hr:Room k X.A) (hg:Gl X x) (ha:PA X (e :: es) t) (hdb:(x == ("__debug__" : Str)) = false:=by decide)
    (he:starEach (e :: es) X.env = (false,eval e X.env) :: starEach es X.env:=by rfl) (hpl:(backTo pos (starEach es X.env)).any (·.1) = false:=by rfl) :
    PE X (.Call (.Name x p) (e :: es) [] pos) (fun σ H Q => t σ H fun vs H1 => sp vs H1 Q (E σ)):=by
  obtain ⟨f,fd,F,hm,hk,hb⟩:=h.ex
  intro pins s σ H Q I h
  refine wpAny_Call_Name_kw (ld_glob I hg hm ?_ hdb)
  refine PySem.W.callWith_K (h₀:=X.base) I.ok.mod.kin hk (thn (ha pos pins s σ H _ I h) fun us s1 ⟨vs,H1,I1,r,q⟩ => ⟨I1.kIn,?_⟩) he hpl
  exact run_fnS (dvs:=[]) F hr hb .nil hx I1 r (by rw [List.append_nil]; exact q)
def tMethX (P:Program) (w:World) (K:PySem.W.Frag) (mg:Str → Option Value) (base:Heap) (m:Str) (k:Nat) (E:St → XK) (ta:TE) (t:TA):TE:=fun σ H Q => ta σ H fun x H1 => ∃ a C dx fs ps dvs sp,x = .ref a ∧ H1 a = some (.ins C dx fs) ∧ Cls K C ∧ HasMX P w K mg base C m k ps dvs sp ∧ fs.lookup m = none ∧
  t σ H1 fun vs H2 => sp (x :: (vs ++ dvs)) H2 Q (E σ)
theorem pe_methX {pl:Sem Bool} (he:PE X o ta) (hx:PassS X E) (hr:Room k X.A) (ha:PA X (e :: es) t)
    (hst:starEach (e :: es) X.env = (false,eval e X.env) :: starEach es X.env:=by rfl) (hpl:(backTo pos (starEach es X.env)).any (·.1) = false:=by rfl)
    (ht:eval (.Call (.Attribute o m apos) (e :: es) [] pos) X.env = (do
      let ov ← eval o X.env
      standAt apos.atName
      let (f,first) ← holding [ov] (getMethod ov m pl)
      callWith pos f first (backTo pos (starEach (e :: es) X.env)) (backToKw pos (keywordEach [] X.env))):=by rfl) :
    PE X (.Call (.Attribute o m apos) (e :: es) [] pos) (tMethX X.prog X.w X.K X.mg X.base m k E ta t):=by
  intro pins s σ H Q I h
  refine PySem.W.methodCall_KW (pl:=pl) (thn (he pins s σ H _ I h) fun u s1 ⟨x,H1,I1,rx,a,C,dx,fs,ps,dvs,sp,ex,ea,c,hM,l,q⟩ => ?_) ht
  subst ex
  obtain rfl:u = Value.ref a:=rx
  obtain ⟨f,fd,ds,F,hm,hb,hd⟩:=hM.ex
  refine getmeth_ok I1 ea c hm l ?_
  refine PySem.W.callWith_K (first:=[.ref a]) (h₀:=X.base) I.ok.mod.kin hm.kp (thn (ha pos pins s1 σ H1 _ I1 q) fun us s2 ⟨vs,H2,I2,r,q2⟩ => ⟨I2.kIn,?_⟩) hst hpl
  exact run_fnS (us:=.ref a :: us) (vs:=.ref a :: vs) F hr hb hd hx I2 (.cons rfl r) q2
end
end L2
namespace L2
open PySem PySem.Spec PyProof.Rows
abbrev bmV:List Value:=[.type "ValueError", .type "Exception", .type "BaseException", .type "object"]
structure ExcC (K:PySem.W.Frag) (mg:Str → Option Value) (x:Str) (C:Addr):Prop where
  cls:XCls K C
  mgx:mg x = some (.ref C)
  ein:PySem.W.excIn K C bmV "ValueError.__new__" = true
theorem ExcC.obj {K:PySem.W.Frag} {mg:Str → Option Value} {x:Str} {C:Addr} (c:ExcC K mg x C) {h:Heap} (X:K.In h):OwnCls x C bmV "ValueError.__new__" mg h:=by
  refine ⟨c.mgx,?_⟩
  have q:=c.ein
  unfold PySem.W.excIn at q
  split at q
  · rename_i dd cd sl ho
    split at q
    · rename_i C' bm k0 k1 k2 k3 n k5 hm hs
      simp only [Bool.and_eq_true,beq_iff_eq,Bool.not_eq_true'] at q
      obtain ⟨⟨⟨⟨⟨rfl,rfl⟩,hdel⟩,ht⟩,hok⟩,hni⟩:=q
      obtain ⟨nm,bs,mro,ns,qn,hd,sn,sub,ab,col,del⟩:=cd
      dsimp only at hm hdel hok hni
      subst hm hdel
      obtain ⟨l⟩:=sl
      have hl:l = [k0,k1,k2,k3,some (.builtin "ValueError.__new__"),k5]:=hs
      subst hl
      exact ⟨bm,ns,nm,qn,bs,hd,sn,sub,ab,col,dd,k0,k1,k2,k3,k5,_,X _ _ ho,.of_isNs (PySem.W.isNs_of_in X hok),PySem.W.nsMap_none_of_in X hok hni,PySem.W.tail_of_in X ht⟩
    · cases q
  · cases q
section
variable {X:Cx} {k:Nat} {C:Addr} {ps:List Str} {sp:Sp} {x m:Str} {p pos np cpos:Pos} {e:Expr} {es:List Expr} {t:TA}
theorem ps_raise {E:XK} (c:ExcC X.K X.mg x C) (hR:RaiseOk X E) (hcalm:X.calm = true) (hg:Gl X x) (ha:PA X (e :: es) t) (hl:(e :: es).length ≤ 1000:=by decide)
    (he:starEach (e :: es) X.env = (false,eval e X.env) :: starEach es X.env:=by rfl) (hpl:(backTo cpos (starEach es X.env)).any (·.1) = false:=by rfl) (hdb:(x == ("__debug__" : Str)) = false:=by decide) :
    PS X (.Raise (some (.Call (.Name x np) (e :: es) [] cpos)) none pos) (fun _ σ H => t σ H fun vs H1 => vs.length ≤ 1000 ∧ E (.ref C) none H1):=by
  intro pins s σ H D I h
  obtain ⟨bm,N,nm,q,bs,hdct,sn,sub,ab,col,dd,k0,k1,k2,k3,k5,mN,hC,hN,hni,T⟩:=(c.obj I.mod.kin).obj
  refine wpAny_Raise_call_subT (C:=C) (nm:=nm) (q:=q) (N:=N) (bs:=bs) (bm:=bm) (hdct:=hdct) (sn:=sn) (sub:=sub) (ab:=ab) (col:=col) (dd:=dd) (k0:=k0) (k1:=k1) (k2:=k2) (k3:=k3) (k5:=k5) PySem.F.excBase_ValueError
    (mN:=mN) (T.hasType PySem.F.excBase_ValueError.hasBase) (I.ok.hd hcalm) (by rw [he]; show (false || (backTo cpos (starEach es X.env)).any (·.1)) = false; rw [hpl]; rfl) hni (ld_glob I hg c.mgx ⟨rfl,?_⟩ hdb)
  have z:=ha cpos pins s σ H _ I h
  rw [he] at z ⊢
  refine Calls.evalArgs_plain (wpAny_mono z (fun us s2 ⟨vs,H2,I2,r,hv,q2⟩ => ⟨rfl,?_,I2.bk _ _ hC,hN.keeps I2.bk,T.keeps I2.bk,fun h' e' hm => hR pins σ H2 s2 h' e' _ _ I2 hm q2⟩) fun _ _ y => y)
  rw [← r.length]
  exact Nat.le_of_lt (small1000 hv)
end
end L2
namespace L2
open PySem PySem.Spec PyProof.Rows
def excO (e C:Addr) (dd:Option Addr):HO:=.ext fun h => ∃ oe vs,h.get? e = some oe ∧ oe.cls = .ref C ∧ oe.dict = dd ∧ oe.data = .fields vs
section
variable {X:Cx} {pins:List (Addr × Obj)} {σ σ1:St} {H H1:Hp} {s s1:Shared} {e C:Addr} {dd:Option Addr}
theorem Inv.track (I:Inv X pins σ H s) (I1:Inv X pins σ1 H1 s1) (ne:s1.heap.get? e = none) (hn:H e = none) {oe:Obj} {vs:Array Value} (he:s.heap.get? e = some oe) (hc:oe.cls = .ref C) (hd:oe.dict = dd) (hv:oe.data = .fields vs):Inv X pins σ (upd H e (excO e C dd)) s:=by
  have nx:∀ b u,H b = some u → b ≠ e:=fun b u q z => by subst z; rw [hn] at q; cases q
  have nh:∀ b o,s1.heap.get? b = some o → b ≠ e:=fun b o q z => by subst z; rw [ne] at q; cases q
  have ib:=I.base
  refine ⟨I.ok,I.os,I.bare,⟨ib.keep,ib.slot,fun b o q n hx => ?_,ib.there,fun b xs q => ?_,fun b o u q => ?_,fun b ps q => ?_⟩,I.loc,I.cell,?_,fun x c q => ?_,fun p hp => ?_,fun b u q => ?_,I.len⟩
  · obtain ⟨o',z⟩:=I1.base.there b o q hx
    rw [upd_ne (nh b o' z)]
    exact ib.free b o q n hx
  · have z:=ib.tups b xs q
    rw [upd_ne (nx b _ z)]; exact z
  · have z:=ib.frzs b o u q
    rw [upd_ne (nx b _ z)]; exact z
  · obtain ⟨m,z⟩:=ib.tbls b ps q
    exact ⟨m,by rw [upd_ne (nx b _ z)]; exact z⟩
  · obtain ⟨m,⟨o,es,ep,z,_⟩,_⟩:=I1.loc
    rw [upd_ne (nh _ o z)]; exact I.free
  · obtain ⟨v,o,z,_⟩:=I1.cell x c q
    rw [upd_ne (nh _ o z)]; exact I.freeC x c q
  · obtain ⟨a,b,c,d,f⟩:=I.pin p hp
    exact ⟨a,by rw [upd_ne (nh _ _ (I1.pin p hp).1)]; exact b,c,d,f⟩
  · by_cases hb:b = e
    · subst hb
      rw [upd_same] at q
      cases q
      refine ⟨⟨oe,vs,he,hc,hd,hv⟩,⟨oe,he⟩,fun h1 h2 => ?_⟩
      rintro ⟨o1,v1,a,b,c,d⟩ k
      exact ⟨o1,v1,k _ a,b,c,d⟩
    · rw [upd_ne hb] at q
      exact (I.hok b u q).stay (fun c v _ z => z) (fun c z => by rw [upd_ne (nx c _ z)]; exact z) fun c xs z => by rw [upd_ne (nx c _ z)]; exact z
def Cx.suite (X:Cx) (e:Addr):Cx:={ X with A:=X.A.mark (some (.ref e)),calm:=false,xe:=fun _ _ => False }
theorem Inv.suite (I:Inv X pins σ H s) (e:Addr):Inv (X.suite e) pins σ H s :=
  ⟨⟨I.ok.mod,I.ok.kind,I.ok.glob,I.ok.blt,I.ok.above,I.ok.inj,I.ok.has,I.ok.cab,(fun z => nomatch z),I.ok.frames,I.ok.stk,I.ok.exf,I.ok.bs,I.ok.bsz,I.ok.noex,I.ok.exfs,I.ok.funs,I.ok.frf⟩,I.os,I.bare,I.base,I.loc,I.cell,I.free,I.freeC,I.pin,I.hok,I.len⟩
theorem Inv.unsuite (ok:X.Ok) (I:Inv (X.suite e) pins σ H s):Inv X pins σ H s:=⟨ok,I.os,I.bare,I.base,I.loc,I.cell,I.free,I.freeC,I.pin,I.hok,I.len⟩
abbrev Cx.tryB (X:Cx) (pn:List (Addr × Obj)) (xe:Value → Shared → Prop):Cx:={ X with pn:=pn,xe:=xe }
theorem Inv.tryB (I:Inv X pins σ H s) (xe:Value → Shared → Prop):Inv (X.tryB (X.pn ++ pins) xe) [] σ H s :=
  ⟨⟨I.ok.mod,I.ok.kind,I.ok.glob,I.ok.blt,I.ok.above,I.ok.inj,I.ok.has,I.ok.cab,I.ok.hd,I.ok.frames,I.ok.stk,I.ok.exf,I.ok.bs,I.ok.bsz,I.ok.noex,I.ok.exfs,I.ok.funs,I.ok.frf⟩,I.os,I.bare,I.base,I.loc,I.cell,I.free,I.freeC,fun p hp => I.pin p (by rw [List.append_nil] at hp; exact hp),I.hok,I.len⟩
theorem Inv.untryB {xe:Value → Shared → Prop} {pins':List (Addr × Obj)} (ok:X.Ok) (I:Inv (X.tryB (X.pn ++ pins) xe) pins' σ H s):Inv X pins σ H s :=
  ⟨ok,I.os,I.bare,I.base,I.loc,I.cell,I.free,I.freeC,fun p hp => I.pin p (List.mem_append_left _ hp),I.hok,I.len⟩
theorem Inv.drop {i:Nat} {n:Str} {h':Heap} {v:Option Value} {m:Str → Option Value} {t':Nat} (I:Inv X pins σ H s) (hN:X.N.Nodup) (hi:X.N[i]? = some n) (hm:s.heap.Ns X.env.locals m)
    (hl:∀ (j:Nat) (x:Str) (u:V),X.N[j]? = some x → σ[j]? = some (some u) → Vis X.env.scope x → ∃ z,RelV u z ∧ Look X.env s.heap m x z)
    (hn:h'.Ns X.env.locals (fun x => if x = n then v else m x)) (sb:Heap.SameBut X.env.locals s.heap h'):Inv X pins (σ.set i none) H { s with heap:=h',toks:=t' }:=by
  have keep:∀ b o,b ≠ X.env.locals → s.heap.get? b = some o → h'.get? b = some o:=fun b o hb q => sb.extBut b o hb q
  have ne0:∀ b o,X.s₀.heap.get? b = some o → b ≠ X.env.locals:=fun b o q z => by
    subst z
    exact absurd (Nat.lt_of_lt_of_le (Heap.lt_size q) I.ok.above) (Nat.lt_irrefl _)
  have nt:∀ b u,H b = some u → b ≠ X.env.locals:=fun b u q z => by subst z; rw [I.free] at q; cases q
  have ib:=I.base
  have hσ:i < σ.length:=by rw [I.len]; exact (List.getElem?_eq_some_iff.mp hi).1
  refine ⟨I.ok,I.os,I.bare,⟨fun b o q a c d => keep b o (ne0 b o q) (ib.keep b o q a c d),fun b o q a c d => ?_,ib.free,fun b o q d => ?_,ib.tups,ib.frzs,ib.tbls⟩,⟨_,hn,fun j x u a b c => ?_⟩,fun x c q => ?_,I.free,I.freeC,fun p hp => ?_,fun b u q => ?_,?_⟩
  · obtain ⟨sl,z⟩:=ib.slot b o q a c d
    exact ⟨sl,keep b _ (ne0 b o q) z⟩
  · obtain ⟨o',z⟩:=ib.there b o q d
    exact ⟨o',keep b o' (ne0 b o q) z⟩
  · have hji:j ≠ i:=fun z => by
      subst z
      rw [List.getElem?_set_self hσ] at b
      cases b
    rw [List.getElem?_set_ne (Ne.symm hji)] at b
    obtain ⟨z,r,lk⟩:=hl j x u a b c
    have hxn:x ≠ n:=fun z => by
      subst z
      exact hji ((List.getElem?_inj (List.getElem?_eq_some_iff.mp a).1 hN).mp (a.trans hi.symm))
    refine ⟨z,r,?_⟩
    rcases lk with ⟨k1,k2⟩ | ⟨k1,cc,k2,oc,k3,k4⟩
    · exact .inl ⟨k1,by show (if x = n then v else m x) = some z; rw [if_neg hxn]; exact k2⟩
    · exact .inr ⟨k1,cc,k2,oc,keep _ _ (I.cne x cc k2) k3,k4⟩
  · obtain ⟨v0,oc,k3,k4⟩:=I.cell x c q
    exact ⟨v0,oc,keep _ _ (I.cne x c q) k3,k4⟩
  · obtain ⟨a,b,c,d,f⟩:=I.pin p hp
    exact ⟨keep _ _ c a,b,c,d,f⟩
  · exact (I.hok b u q).stay (fun c w hc z => keep c w (by rcases hc with rfl | hc; exact nt _ _ q; exact nt _ _ hc) z) (fun _ z => z) fun _ _ z => z
  · rw [List.length_set]; exact I.len
theorem exc_matches {prog:Program} {w:World} {A:Around} {E:Value → Shared → Prop} {K:PySem.W.Frag} {CE:Addr} {Q:Bool → Shared → Prop} {oe:Obj} (KX:K.In s.heap) (ht:PySem.W.typeIn K (.ref CE) = some (.type "type")) (hb:PySem.W.mroIn K CE (.type "BaseException") = some true)
    (hcl:(PySem.W.clsIn K CE).isSome = true) (hm:PySem.W.mroIn K C (.ref CE) = some true) (he:s.heap.get? e = some oe) (hc:oe.cls = .ref C) (h:Q true s):wpAny (model prog w) A (excMatches (.ref e) (.ref CE)) Q E s:=by
  obtain ⟨hh,g,d,tk,os⟩:=s
  have L1:=PySem.W.looks_typeIn (M:=model prog w) KX ht
  have L2:=PySem.W.looks_mroIn (M:=model prog w) KX hb
  have L3:=PySem.W.looks_mroIn (M:=model prog w) KX hm
  have L0:PySem.W.Looks (model prog w) hh (typeOf (.ref e)) (.ref C):=hc ▸ (PySem.W.Looks.ld he).andThen .now
  have f:=tc_notTuple
  have L4:PySem.W.Looks (model prog w) hh (isInstance (.ref CE) (.type "tuple")) false:=L1.andThen (PySem.W.Looks.of_pure f)
  have L5:PySem.W.Looks (model prog w) hh (isType (.ref CE)) true:=by
    obtain ⟨cd,z⟩:=Option.isSome_iff_exists.mp hcl
    unfold PySem.W.clsIn at z
    split at z
    · rename_i c' d' cd' sl' ho
      intro A' Q' E' s' k q
      unfold isType loadHead
      exact wpAny_bind (wpAny_loadPart (k _ _ (KX _ _ ho)) (wpAny_pure q))
    · cases z
  unfold excMatches
  refine wpAny_bind (m:=isInstance (.ref CE) (.type "tuple")) (L4.at ?_)
  refine wpAny_bind (m:=(pure [Value.ref CE]:Sem (List Value))) (wpAny_pure ?_)
  refine wpAny_bind ?_
  rw [List.forIn_cons]
  refine wpAny_bind (wpAny_bind (m:=isExcClass (.ref CE)) ?_)
  unfold isExcClass
  refine wpAny_bind (L5.at (L2.at ?_))
  refine wpAny_pure (wpAny_pure (a:=PUnit.unit) ?_)
  refine wpAny_bind (L0.at (wpAny_bind ?_))
  rw [List.forIn_cons]
  refine wpAny_bind (wpAny_bind (L3.at ?_))
  refine wpAny_pure (wpAny_pure (wpAny_pure h))
def Caught (K:PySem.W.Frag) (CE:Addr) (i:Nat) (ts:Addr → TS) (D:Ends):St → XK:=fun σ1 cls dd H1 => ∃ C,cls = .ref C ∧ PySem.W.mroIn K C (.ref CE) = some true ∧
  ∀ e,H1 e = none → ts e { nx:=fun σ2 H2 => D.nx (σ2.set i none) H2,rt:=fun _ _ => False } (σ1.set i (some (.ref e))) (upd H1 e (excO e C dd))
def tTry (K:PySem.W.Frag) (CE:Addr) (i:Nat) (tb:(St → XK) → List (Addr × Obj) → (Value → Shared → Prop) → TS) (ts:Addr → TS):TS:=fun D σ H => ∀ pn xe,tb (Caught K CE i ts D) pn xe D σ H
structure CatC (K:PySem.W.Frag) (mg:Str → Option Value) (x:Str) (CE:Addr):Prop where
  mgx:mg x = some (.ref CE)
  ty:PySem.W.typeIn K (.ref CE) = some (.type "type")
  be:PySem.W.mroIn K CE (.type "BaseException") = some true
  cl:(PySem.W.clsIn K CE).isSome = true
theorem ps_try {body:List Stmt} {b₀:Stmt} {suite:List Stmt} {cx n:Str} {np hpos pos:Pos} {i:Nat} {CE:Addr} {tb:(St → XK) → List (Addr × Obj) → (Value → Shared → Prop) → TS} {ts:Addr → TS} (cE:CatC X.K X.mg cx CE) (hN:X.N.Nodup) (hi:X.N[i]? = some n) (hl:X.env.scope.names.lookup n = some .local) (hg:Gl X cx)
    (hb:∀ (E:St → XK) (pn:List (Addr × Obj)) (xe:Value → Shared → Prop),PassS (X.tryB pn xe) E → PSs (X.tryB pn xe) body (tb E pn xe)) (hs:∀ e,PSs (X.suite e) (b₀ :: suite) (ts e))
    (hstk:X.stack = X.env :: X.outer:=by rfl) (hf:X.env.frame = some X.env.locals:=by rfl) (hdb:(cx == ("__debug__" : Str)) = false:=by decide) :
    PS X (.Try body [.ExceptHandler (some (.Name cx np)) (some n) (b₀ :: suite) hpos] [] [] pos) (tTry X.K CE i tb ts):=by
  intro pins s σ H D I h
  let EE:=Caught X.K CE i ts D
  let XE:Value → Shared → Prop:=fun ev s' => ∃ σ1 H1 s1,Inv X pins σ1 H1 s1 ∧ CXx X.prog X.w X.stack H1 s1 (EE σ1) ev s'
  have pass:PassS (X.tryB (X.pn ++ pins) XE) EE:=fun pins' σ1 H1 s1 ev s' I' h' => ⟨σ1,H1,s1,I'.untryB I.ok,h'⟩
  have back:∀ f s',SP (X.tryB (X.pn ++ pins) XE) [] D f s' → SP X pins D f s':=fun f s' q => by
    cases f with
    | next => obtain ⟨σ',H',J,q⟩:=q; exact ⟨σ',H',J.untryB I.ok,q⟩
    | brk => obtain ⟨σ',H',J,q⟩:=q; exact ⟨σ',H',J.untryB I.ok,q⟩
    | cont => obtain ⟨σ',H',J,q⟩:=q; exact ⟨σ',H',J.untryB I.ok,q⟩
    | ret u => obtain ⟨v,σ',H',J,r,q⟩:=q; exact ⟨v,σ',H',J.untryB I.ok,r,q⟩
  refine wpAny_Try_except (wpAny_mono (hb EE _ XE pass [] s σ H D (I.tryB XE) (h _ _)) (fun f s1 q => ?_) fun ev s2 hx => ?_)
  · have q':=back f s1 q
    cases f with
    | next => exact wpAny_execs_nil q'
    | brk => exact q'
    | cont => exact q'
    | ret u => exact q'
  obtain ⟨σ1,H1,s1,I1,e,t,cls,dd,H2,B,rfl,os,bare,U,a,in1,in2,C,rfl,hm,k⟩:=hx
  have hfr:=I.ok.frames
  rw [hstk] at hfr
  have a':Air X.prog X.w B (X.env :: X.outer) H2 s2.heap e t (.ref C) dd .none:=by rw [← hstk]; exact a
  refine a'.note hfr hf fun h4 a4 u4 => ?_
  refine Air.off (s:={ s2 with heap:=h4 }) a4 fun h5 a5 u5 => ?_
  have U5:=un_stay U a.fr (u4.trans u5) a5.st in1 in2
  have I5:Inv X pins σ1 H2 { s2 with heap:=h5 }:=I1.call' (ch:=[]) os U5 a5.hok bare fun b z => absurd z (by simp)
  refine wpAny_handleBy_cons (codeAny_handlers_test (ld_glob (X:=X.suite e) (I5.suite e) hg cE.mgx ?_ hdb)) (by intro q; cases q)
  obtain ⟨oe,vs,T,oT,tvs,he5,hc5,_⟩:=id a5.tr
  refine exc_matches (s:={ s2 with heap:=h5 }) I5.kIn cE.ty cE.be cE.cl hm he5 hc5 ?_
  refine codeAny_handlers_suite_as (Air.off (s:={ s2 with heap:=h5 }) a5 fun h6 a6 u6 => ?_)
  have U6:=un_stay U a.fr ((u4.trans u5).trans u6) a6.st in1 in2
  have I6:Inv X pins σ1 H2 { s2 with heap:=h6 }:=I1.call' (ch:=[]) os U6 a6.hok bare fun b z => absurd z (by simp)
  obtain ⟨oe6,vs6,T6,oT6,tvs6,he6,hc6,hd6,hv6,_⟩:=id a6.tr
  have ne1:s1.heap.get? e = none:=by
    cases q:s1.heap.get? e with
    | none => rfl
    | some o =>
      by_cases hb:e ∈ frs X.stack
      · obtain ⟨_,o',z,nf⟩:=a6.fr.mem (by rw [hstk] at hb; exact hb)
        rw [he6] at z; cases z; exact absurd hv6 (nf _)
      · obtain ⟨o',z⟩:=in2 e o q hb
        rw [a.nb] at z; cases z
  have I7:=I6.track I1 ne1 a6.free he6 hc6 hd6 hv6
  refine store_ok (X:=X) (v:=.ref e) I7 hN hi (.inl hl) rfl (fun s8 I8 => ?_) (.inr hl)
  refine wpAny_mono (hs e pins s8 _ _ _ (I8.suite e) (k e a6.free)) (fun f s9 q => ?_) fun _ _ z => False.elim z
  cases f with
  | brk => obtain ⟨_,_,_,z⟩:=q; exact False.elim z
  | cont => obtain ⟨_,_,_,z⟩:=q; exact False.elim z
  | ret u => obtain ⟨_,_,_,_,_,z⟩:=q; exact False.elim z
  | next =>
    obtain ⟨σ9,H9,J,q⟩:=q
    have I9:=J.unsuite I.ok
    obtain ⟨m,hn,lk⟩:=id I9.loc
    refine wpAny_nameGoes_keeps hl hn (by rw [I.ok.kind]; rfl) fun h' v hn' sb => ?_
    exact ⟨_,_,I9.drop hN hi hn lk hn' sb,q⟩
end
end L2
namespace L2
open PySem PySem.Spec PyProof.Rows
inductive TyX (K:PySem.W.Frag) (H:Hp):V → Value → Prop where
  | of {x:V} {t:Value} (h:TyOf K H x t):TyX K H x t
  | exc {e C:Addr} (h:H e = some (excO e C none)) (c:XCls K C):TyX K H (.ref e) (.ref C)
inductive AskC (K:PySem.W.Frag) (H:Hp) (t:Value):V → Bool → Prop where
  | ty {T:String} {b:Bool} (h:PySem.W.kitOne K t (.type T) = some b):AskC K H t (.ty T) b
  | ref {C:Addr} {b:Bool} (h:PySem.W.kitOne K t (.ref C) = some b):AskC K H t (.ref C) b
  | tup {tp:Addr} {cs:List Addr} {b:Bool} (h:H tp = some (.tup (cs.map V.ref))) (q:PySem.W.kitAny K t (cs.map Value.ref) = some b):AskC K H t (.ref tp) b
theorem vals_refs:∀ {cs:List Addr} {us:List Value},Vals (cs.map V.ref) us → us = cs.map Value.ref
  | [],_,.nil => rfl
  | _ :: _,_,.cons r t => by cases (show _ = Value.ref _ from r); rw [vals_refs t]; rfl
section
variable {X:Cx}
theorem call_isinstX:CallR X (.builtin "isinstance") (fun xs H Q => ∃ x c t b,xs = [x,c] ∧ TyX X.K H x t ∧ AskC X.K H t c b ∧ Q (.bl b) H):=by
  intro pins s σ H xs us Q I r h
  obtain ⟨x,c,t,b,rfl,ty,ask,q⟩:=h
  obtain ⟨u,w',rfl,r1,r2⟩:=vals2 r
  have fin:∀ tk,EP X pins σ Q (.bool b) { s with toks:=tk }:=fun tk => ⟨.bl b,H,I.tok _,rfl,q⟩
  obtain ⟨G,Z,g,hb⟩:∃ G:Heap → Prop,PySem.W.KitX X.K u t G ∧ G s.heap ∧ u ≠ .builtin "__main__.__loader__#opaque" := by
    cases ty with
    | exc he c =>
      rename_i e C
      cases (show u = Value.ref e from r1)
      obtain ⟨⟨oe,vs,a1,a2,a3,a4⟩,_,_⟩:=(show ObjOk X.prog X.w H s.heap e (excO e C none) from I.hok e _ he)
      refine ⟨_,kitx_exc c,⟨oe,none,a1,a2,?_,?_⟩,fun z => nomatch z⟩
      · unfold PySem.W.notCls; rw [a4]
      · rw [a3]; trivial
    | of ty =>
      cases ty with
      | non => cases (show u = Value.none from r1); exact ⟨_,PySem.W.kitx_none,True.intro,fun z => nomatch z⟩
      | bl y => cases (show u = Value.bool y from r1); exact ⟨_,PySem.W.kitx_bool,True.intro,fun z => nomatch z⟩
      | int i => obtain ⟨t,q⟩:=(show ∃ t,u = Value.int i t from r1); cases q; exact ⟨_,PySem.W.kitx_int,True.intro,fun z => nomatch z⟩
      | str y => obtain ⟨t,q⟩:=(show ∃ t,u = Value.str y t from r1); cases q; exact ⟨_,PySem.W.kitx_str,True.intro,fun z => nomatch z⟩
      | flt y => obtain ⟨t,q⟩:=(show ∃ t,u = Value.float y t from r1); cases q; exact ⟨_,PySem.W.kitx_float,True.intro,fun z => nomatch z⟩
      | @lst a xs ea =>
        cases (show u = Value.ref a from r1)
        obtain ⟨_,_,n,_,h1⟩:=(show ObjOk X.prog X.w H s.heap a (.lst xs) from I.hok a _ ea)
        exact ⟨_,PySem.W.kitx_list,⟨_,h1,rfl⟩,fun z => nomatch z⟩
      | @frz a ob xs ea =>
        cases (show u = Value.ref a from r1)
        obtain ⟨_,_,_,n,_,h1⟩:=(show ObjOk X.prog X.w H s.heap a (.frz ob (.lst xs)) from I.hok a _ ea)
        exact ⟨_,PySem.W.kitx_list,⟨_,h1,rfl⟩,fun z => nomatch z⟩
      | @tup a xs ea =>
        cases (show u = Value.ref a from r1)
        obtain ⟨_,_,_,p⟩:=(show ObjOk X.prog X.w H s.heap a (.tup xs) from I.hok a _ ea)
        obtain ⟨o,h1,h2,_⟩:=p
        exact ⟨_,PySem.W.kitx_tuple,⟨o,h1,h2⟩,fun z => nomatch z⟩
      | @dK a kvs ea =>
        cases (show u = Value.ref a from r1)
        obtain ⟨_,_,vs,_,p⟩:=(show ObjOk X.prog X.w H s.heap a (.dK kvs) from I.hok a _ ea)
        obtain ⟨o,es,ep,h1,h2,_⟩:=p
        exact ⟨_,PySem.W.kitx_dict,⟨o,h1,h2.1⟩,fun z => nomatch z⟩
      | @dT a kvs ea =>
        cases (show u = Value.ref a from r1)
        obtain ⟨_,_,xs,_,o,es,ep,h1,h2,_⟩:=(show ObjOk X.prog X.w H s.heap a (.dT kvs) from I.hok a _ ea)
        exact ⟨_,PySem.W.kitx_dict,⟨o,h1,h2.1⟩,fun z => nomatch z⟩
      | @ins a C dx fs ea cl ha hn htk hm =>
        cases (show u = Value.ref a from r1)
        obtain ⟨mA,O,_⟩:=ins_get I.hok ea
        obtain ⟨od,J,_⟩:=O.look
        exact ⟨_,PySem.W.kitx_own (cl.get _) cl.hd ha hn htk hm,J,fun z => nomatch z⟩
  cases ask with
  | ty k => cases (show w' = Value.type _ from r2); exact PySem.W.kia_one Z I.kIn g k hb fin
  | ref k => cases (show w' = Value.ref _ from r2); exact PySem.W.kia_one Z I.kIn g k hb fin
  | @tup tp cs b ht k =>
    cases (show w' = Value.ref tp from r2)
    obtain ⟨_,its,rv,o,h1,h2,n,h3⟩:=(show ObjOk X.prog X.w H s.heap tp (.tup (cs.map V.ref)) from I.hok tp _ ht)
    obtain ⟨oc,od,odt,osl⟩:=o
    dsimp only at h2 h3
    subst h2 h3
    exact PySem.W.kia_tup Z I.kIn g h1 (by rw [vals_refs rv]; exact k) hb fin
end
theorem kit_ref {K:PySem.W.Frag} {C D:Addr} {b:Bool} (hc:(PySem.W.clsIn K D).isSome = true) (ht:PySem.W.typeIn K (.ref D) = some (.type "type")) (hm:PySem.W.mroIn K C (.ref D) = some b) (hne:C ≠ D):PySem.W.kitOne K (.ref C) (.ref D) = some b:=by
  unfold PySem.W.kitOne PySem.W.kitCls
  rw [if_neg (fun z => hne (Value.ref.inj (beq_iff_eq.mp z)))]
  show (if ((PySem.W.clsIn K D).isSome && PySem.W.typeIn K (.ref D) == some (.type "type")) = true then PySem.W.subIn K (.ref C) (.ref D) else none) = some b
  rw [hc,ht]
  exact hm
theorem kit_self {K:PySem.W.Frag} {C:Addr}:PySem.W.kitOne K (.ref C) (.ref C) = some true:=by
  unfold PySem.W.kitOne
  rw [if_pos (beq_iff_eq.mpr rfl)]
end L2
namespace L2
open PySem PySem.Spec PyProof.Rows
structure FunD (K:PySem.W.Frag) (x qual:Str) (st:Stmt) (f:Addr) (fd:FuncData) (T:Addr) (items:Array Value):Prop where
  ex:∃ (oc:Value) (od:Option Addr) (kV doc pm:Value) (an:Option Addr) (cdv ct:Value) (osl:Array (Option Value)),
    fd = PySem.W.fnOf x qual (defArgs st) (defBody st) (defScope st) (.ref T) kV doc pm an cdv ct ∧ K.lookup f = some ⟨oc,od,.func fd,osl⟩ ∧ PySem.W.codeIn K cdv qual = true
  tp:∃ (tc:Value) (td:Option Addr) (n:Nat) (tsl:Array (Option Value)),K.lookup T = some ⟨tc,td,.seq items n,tsl⟩
  kp:PySem.W.keepIn K (.ref f) = true
section
variable {P:Program} {w:World} {K:PySem.W.Frag} {mg:Str → Option Value} {base:Heap} {x qual m:Str} {st:Stmt} {f C T:Addr} {fd:FuncData} {items:Array Value} {N ps:List Str} {k:Nat} {sp:Sp} {ds:List Value} {dvs:List V}
theorem FunD.okx (F:FunD K x qual st f fd T items) (S:FnScope N ps (defScope st)) (len:∀ vs H Q E,sp vs H Q E → vs.length = ps.length)
    (hbody:∀ (cdv:Value) (A:Around) (outer:List Env) (s:Shared) (H:Hp) (vs:List V) (Q:VK) (E:XK),Room k (A.deeper (envOfC qual (defScope st) s.heap.objs.size f cdv)) → sp vs H Q E →
      ∃ t,PSs (cxX P w K mg base N qual (defScope st) f cdv A outer s H E) (defBody st) t ∧ t { nx:=fun _ H' => Q .non H',rt:=Q } (start N vs) H):FnOk P w K mg base (CXx P w) (k + 1) f fd ps sp:=by
  obtain ⟨oc,od,kV,doc,pm,an,cdv,ct,osl,rfl,lk,hcd⟩:=F.ex
  exact fn_of lk hcd S len fun A outer s H vs Q E hr hsp => hbody cdv A outer s H vs Q E hr hsp
theorem FunD.binds (F:FunD K x qual st f fd T items) (h:∀ (kV doc pm:Value) (an:Option Addr) (cdv ct:Value) (us:List Value),(us ++ ds).length = ps.length →
      ∃ g:Option (Array Value) → Sem (List (Str × Value)),bindArgs (PySem.W.fnOf x qual (defArgs st) (defBody st) (defScope st) (.ref T) kV doc pm an cdv ct) ⟨us,[]⟩ = seqItems? (.ref T) >>= g ∧ g (some items) = pure (ps.zip (us ++ ds))):Binds K fd ps ds:=by
  obtain ⟨oc,od,kV,doc,pm,an,cdv,ct,osl,rfl,lk,hcd⟩:=F.ex
  obtain ⟨tc,td,n,tsl,lt⟩:=F.tp
  intro s us KX hl
  obtain ⟨g,h1,h2⟩:=h kV doc pm an cdv ct us hl
  exact .of_defaults rfl (KX _ _ lt) rfl h1 h2
structure HereD (K:PySem.W.Frag) (C:Addr) (m qual:Str) (st:Stmt) (items:Array Value):Prop where
  ex:∃ (f:Addr) (fd:FuncData) (T:Addr),FunD K m qual st f fd T items ∧ Meth K C m f
theorem HereD.hasM (h:HereD K C m qual st items) (hv:Vals dvs ds) (b:∀ f fd T,FunD K m qual st f fd T items → Binds K fd ps ds) (ok:∀ f fd T,FunD K m qual st f fd T items → FnOk P w K mg base CX0 k f fd ps sp):HasM P w K mg base C m k ps dvs sp :=
  let ⟨f,fd,T,F,M⟩:=h.ex
  ⟨f,fd,ds,ok f fd T F,M,b f fd T F,hv⟩
theorem HereD.hasMX (h:HereD K C m qual st items) (hv:Vals dvs ds) (b:∀ f fd T,FunD K m qual st f fd T items → Binds K fd ps ds) (ok:∀ f fd T,FunD K m qual st f fd T items → FnOk P w K mg base (CXx P w) k f fd ps sp):HasMX P w K mg base C m k ps dvs sp :=
  let ⟨f,fd,T,F,M⟩:=h.ex
  ⟨f,fd,ds,ok f fd T F,M,b f fd T F,hv⟩
theorem hereD_mk {oc:Value} {od an:Option Addr} {osl:Array (Option Value)} {kV doc pm cdv ct tc:Value} {td:Option Addr} {n:Nat} {tsl:Array (Option Value)} (a:PySem.W.findIn K (.ref C) m = some (some (.ref f))) (i:PySem.W.isFn K (.ref f) = true)
    (l:K.lookup f = some ⟨oc,od,.func (PySem.W.fnOf m qual (defArgs st) (defBody st) (defScope st) (.ref T) kV doc pm an cdv ct),osl⟩) (lt:K.lookup T = some ⟨tc,td,.seq items n,tsl⟩)
    (c:PySem.W.codeIn K cdv qual = true) (k:PySem.W.keepIn K (.ref f) = true):HereD K C m qual st items:=⟨f,_,T,⟨⟨oc,od,kV,doc,pm,an,cdv,ct,osl,rfl,l,c⟩,⟨tc,td,n,tsl,lt⟩,k⟩,a,i,k⟩
end
theorem len1 {us:List Value} (h:us.length = 1):∃ a,us = [a]:=match us,h with | [a],_ => ⟨a,rfl⟩
theorem len2 {us:List Value} (h:us.length = 2):∃ a b,us = [a,b]:=match us,h with | [a,b],_ => ⟨a,b,rfl⟩
theorem len3 {us:List Value} (h:us.length = 3):∃ a b c,us = [a,b,c]:=match us,h with | [a,b,c],_ => ⟨a,b,c,rfl⟩
theorem len4 {us:List Value} (h:us.length = 4):∃ a b c d,us = [a,b,c,d]:=match us,h with | [a,b,c,d],_ => ⟨a,b,c,d,rfl⟩
end L2
namespace L2
open PySem PySem.Spec PyProof.Rows
section
variable {X:Cx} {pins:List (Addr × Obj)} {σ:St} {H:Hp} {s:Shared} {h':Heap} {fp:List Addr} {t':Nat}
theorem Inv.multi (I:Inv X pins σ H s) (hf:∀ b ∈ fp,FpOk X pins H b) (k:∀ c o,c ∉ fp → s.heap.get? c = some o → h'.get? c = some o):Inv X pins σ H { s with heap:=h',toks:=t' }:=by
  refine I.call (ch:=fp) ⟨fun b o q n hb hx => k b o hx q,fun b o q n hb hx => ⟨o.slots,k b o hx q⟩,fun b o q n hx => n,fun b o q hx => ⟨o,k b o hx q⟩,fun _ _ q => q,fun _ _ _ q => q,fun b ps q => ⟨#[],by rw [q]; simp⟩⟩ (fun b u q => ?_) I.bare fun b hb => ?_
  · refine (I.hok b u q).stay (fun c v hc z => k c v (fun m => ?_) z) (fun _ z => z) fun _ _ z => z
    rcases hc with rfl | hc
    · rw [(hf c m).1] at q; cases q
    · rw [(hf c m).1] at hc; cases hc
  · obtain ⟨_,a,_,b,c,d⟩:=hf b hb
    exact ⟨b,a,c,d⟩
theorem Inv.multiT {T:Addr} {xs:List V} {its:List Value} (I:Inv X pins σ H s) (hf:∀ b ∈ fp,FpOk X pins H b) (k:∀ c o,c ∉ fp → s.heap.get? c = some o → h'.get? c = some o) (hT:s.heap.objs.size ≤ T) (ht:IsTup h' T its.toArray) (r:Vals xs its) (hz:xs.length ≤ sizeLine) :
    Inv X pins σ (upd H T (.tup xs)) { s with heap:=h',toks:=t' }:=by
  have nT:=I.hok.fresh hT
  have nx:∀ b u,H b = some u → b ≠ T:=fun b u q z => by subst z; rw [nT] at q; cases q
  refine I.call (ch:=fp) ⟨fun b o q n hb hx => k b o hx q,fun b o q n hb hx => ⟨o.slots,k b o hx q⟩,fun b o q n hx => ?_,fun b o q hx => ⟨o,k b o hx q⟩,fun b _ q => by rw [upd_ne (nx b _ q)]; exact q,fun b _ _ q => by rw [upd_ne (nx b _ q)]; exact q,fun b ps q => ⟨#[],by rw [upd_ne (nx b _ q),q]; simp⟩⟩ (fun b u q => ?_) I.bare fun b hb => ?_
  · rw [upd_ne (Nat.ne_of_lt (Nat.lt_of_lt_of_le (Heap.lt_size q) hT))]; exact n
  · by_cases hb:b = T
    · subst hb
      rw [upd_same] at q
      cases q
      exact ⟨hz,its,r,ht⟩
    · rw [upd_ne hb] at q
      refine (I.hok b u q).stay (fun c v hc z => k c v (fun m => ?_) z) (fun c z => by rw [upd_ne (nx c _ z)]; exact z) fun c _ z => by rw [upd_ne (nx c _ z)]; exact z
      rcases hc with rfl | hc
      · rw [(hf c m).1] at q; cases q
      · rw [(hf c m).1] at hc; cases hc
  · obtain ⟨_,a,_,b,c,d⟩:=hf b hb
    exact ⟨b,a,c,d⟩
end
def Itz (K:PySem.W.Frag) (a b:Addr):It :=
  ⟨fun i H => ∃ xs ys x y,SqL K H a xs ∧ SqL K H b ys ∧ xs[i]? = some x ∧ ys[i]? = some y,
   fun i H v H' => ∃ T,H T = none ∧ v = .ref T ∧ ∃ x y,(∀ xs,SqL K H a xs → xs[i]? = some x) ∧ (∀ ys,SqL K H b ys → ys[i]? = some y) ∧ H' = upd H T (.tup [x,y]),
   fun i H => ∃ xs ys,SqL K H a xs ∧ SqL K H b ys ∧ (xs.length ≤ i ∨ ys.length ≤ i)⟩
theorem turn_zip {P:Program} {w:World} {K:PySem.W.Frag} {elts:List Expr} {k0} {pos:Pos} {a b z TI TO i1 i2:Addr} (D:ZipApart z TI TO i1 i2 a b) :
    Turn P w K (.Tuple elts k0 pos) (Itz K a b) [z,TI,TO,i1,i2] z (fun i h => IsZip h z TI TO .none ∧ IsPair h TI (.ref i1) (.ref i2) ∧ (∃ p q,IsPair h TO p q) ∧ h.IsListIter i1 a i ∧ h.IsListIter i2 b i) where
  mem:=by simp
  obj:=fun i h ⟨hz,hTI,⟨p,q,hTO⟩,⟨o1,e1,_,d1⟩,⟨o2,e2,_,d2⟩⟩ c hc => by
    simp only [List.mem_cons,List.not_mem_nil,or_false] at hc
    rcases hc with rfl | rfl | rfl | rfl | rfl
    · exact ⟨_,hz,fun v e => nomatch (show Data.fields _ = Data.cell v from e)⟩
    · exact ⟨_,hTI,fun v e => nomatch (show Data.seq _ _ = Data.cell v from e)⟩
    · exact ⟨_,hTO,fun v e => nomatch (show Data.seq _ _ = Data.cell v from e)⟩
    · exact ⟨o1,e1,fun v e => by rw [d1] at e; cases e⟩
    · exact ⟨o2,e2,fun v e => by rw [d2] at e; cases e⟩
  keep:=fun i h h' ⟨hz,hTI,⟨p,q,hTO⟩,h1,h2⟩ k =>
    ⟨k z (by simp) _ hz,k TI (by simp) _ hTI,⟨p,q,k TO (by simp) _ hTO⟩,h1.at fun o e => k i1 (by simp) o e,h2.at fun o e => k i2 (by simp) o e⟩
  item:=by
    intro X hP hw hK hc i pins s σ H E I hf ⟨hz,hTI,⟨p,q,hTO⟩,h1,h2⟩ hg
    subst hP hw hK
    obtain ⟨xs,ys,x,y,hq1,hq2,hx,hy⟩:=hg
    obtain ⟨its,rv,pl,_⟩:=I.list hq1
    obtain ⟨jts,rw',pl2,_⟩:=I.list hq2
    obtain ⟨u,hu,ru⟩:=rv.get hx
    obtain ⟨v,hv,rw2⟩:=rw'.get hy
    refine wpAny_pyNext_zip_item D hz hTI hTO h1 h2 pl.isList pl2.isList (x:=u) (y:=v) (by simpa using hu) (by simpa using hv) fun h' a1 a2 a3 a4 a5 a6 a7 => ?_
    refine ⟨_,rfl,wpAny_letOwnedTupleGo_zip (s:={ s with heap:=h' }) a1 fun h2' b1 b2 => ?_⟩
    have kz:∀ c o,c ∉ [z,TI,TO,i1,i2] → s.heap.get? c = some o → h2'.get? c = some o:=fun c o hc e => by
      simp only [List.mem_cons,List.not_mem_nil,or_false,not_or] at hc
      obtain ⟨n1,n2,n3,n4,n5⟩:=hc
      exact b2.extBut _ _ n1 (a7 c o n1 n3 n4 n5 e)
    have nTz:s.heap.objs.size ≠ z:=Nat.ne_of_gt (Heap.lt_size hz)
    have fresh:=I.hok.fresh (Nat.le_refl s.heap.objs.size)
    have I2:Inv X pins σ (upd H s.heap.objs.size (.tup [x,y])) { s with heap:=h2' }:=I.multiT (t':=s.toks) (its:=[u,v]) hf kz (Nat.le_refl _) ⟨_,b2.extBut _ _ nTz a5,rfl,_,rfl⟩ (.cons ru (.cons rw2 .nil)) (by show 2 ≤ sizeLine; decide)
    refine ⟨.ref s.heap.objs.size,_,I2,rfl,⟨_,fresh,rfl,x,y,fun xs' e => by rw [I.list_inj e hq1]; exact hx,fun ys' e => by rw [I.list_inj e hq2]; exact hy,rfl⟩,⟨b1,?_,⟨u,v,?_⟩,a3.extBut b2.extBut D.i1z,a4.extBut b2.extBut D.i2z⟩,fun c hc => ?_⟩
    · exact b2.extBut _ _ D.TIz (a7 _ _ D.TIz D.TITO D.TIi1 D.TIi2 hTI)
    · exact b2.extBut _ _ D.TOz a2
    · have lt:c < s.heap.objs.size:=by
        simp only [List.mem_cons,List.not_mem_nil,or_false] at hc
        obtain ⟨_,e1,_⟩:=id h1
        obtain ⟨_,e2,_⟩:=id h2
        rcases hc with rfl | rfl | rfl | rfl | rfl
        · exact Heap.lt_size hz
        · exact Heap.lt_size hTI
        · exact Heap.lt_size hTO
        · exact Heap.lt_size e1
        · exact Heap.lt_size e2
      rw [upd_ne (Nat.ne_of_lt lt)]
      exact (hf c hc).1
  done:=by
    intro X hP hw hK hc i pins s σ H E I hf ⟨hz,hTI,⟨p,q,hTO⟩,h1,h2⟩ hg
    subst hP hw hK
    obtain ⟨xs,ys,hq1,hq2,hx⟩:=hg
    obtain ⟨its,rv,pl,_⟩:=I.list hq1
    obtain ⟨jts,rw',pl2,_⟩:=I.list hq2
    have l1:=rv.length
    have l2:=rw'.length
    refine wpAny_pyNext_zip_end (I.ok.hd hc) D hz hTI hTO h1 h2 pl.isList pl2.isList ?_ fun h' k => ⟨rfl,I.multi (t':=s.toks) hf fun c o hc e => ?_⟩
    · rcases hx with hx | hx
      · left; simp; omega
      · right; simp; omega
    · simp only [List.mem_cons,List.not_mem_nil,or_false,not_or] at hc
      obtain ⟨n1,n2,n3,n4,n5⟩:=hc
      exact k c o n1 n3 n4 n5 e
  self:=fun _ _ _ _ _ ⟨hz,_⟩ h => wpAny_pyIter_zip hz h
section
variable {X:Cx}
def iZip (K:PySem.W.Frag) (ta:TA):TI:=fun σ H R => ta σ H fun vs H1 => ∃ a b,vs = [.ref a,.ref b] ∧ (∃ xs,SqL K H1 a xs) ∧ (∃ ys,SqL K H1 b ys) ∧ R (Itz K a b) H1
theorem pi_zip {e1 e2:Expr} {elts:List Expr} {k0} {tpos:Pos} {ta:TA} {p pos:Pos} (hg:Gl X "zip") (hm:X.mg "zip" = none) (ha:PA X [e1,e2] ta) (hs:starEach [e1,e2] X.env = [(false,eval e1 X.env),(false,eval e2 X.env)]:=by rfl) (hs2:starEach [e2] X.env = [(false,eval e2 X.env)]:=by rfl) :
    PI X (.Tuple elts k0 tpos) (.Call (.Name "zip" p) [e1,e2] [] pos) (iZip X.K ta):=by
  intro pins s σ H R I h
  refine wpAny_Call_Name_kw (ld_blt I hg hm PyProof.Rows.Boot.«zip» (PyProof.Rows.callWith_type1 (thn (ha pos pins s σ H _ I h) fun us s1 ⟨vs,H1,I1,r1,q1⟩ => ?_) (by rw [hs,hs2]) (by rw [hs2]; rfl)))
  obtain ⟨a,b,e,⟨xs,hq1⟩,⟨ys,hq2⟩,q⟩:=q1
  subst e
  obtain ⟨u,v,rfl,ru,rv⟩:=vals2 r1
  cases (show u = Value.ref a from ru)
  cases (show v = Value.ref b from rv)
  obtain ⟨its,_,pl,_⟩:=I1.list hq1
  obtain ⟨jts,_,pl2,_⟩:=I1.list hq2
  have la:a < s1.heap.objs.size:=by obtain ⟨o,e,_⟩:=pl.isList; exact Heap.lt_size e
  have lb:b < s1.heap.objs.size:=by obtain ⟨o,e,_⟩:=pl2.isList; exact Heap.lt_size e
  refine call_zip_2 pl.isList pl2.isList fun h' hz hTI hTO h1 h2 hsz k => ?_
  refine wpAny_pyIter_zip (s:={ s1 with heap:=h' }) hz ?_
  refine ⟨_,[s1.heap.objs.size + 4,s1.heap.objs.size + 2,s1.heap.objs.size + 3,s1.heap.objs.size,s1.heap.objs.size + 1],_,_,H1,rfl,I1.kept (t':=s1.toks) k,turn_zip (zipApart_new la lb),⟨hz,hTI,⟨_,_,hTO⟩,h1,h2⟩,fun c hc => ?_,q⟩
  have hc':s1.heap.objs.size ≤ c:=by
    simp only [List.mem_cons,List.not_mem_nil,or_false] at hc
    rcases hc with rfl | rfl | rfl | rfl | rfl <;> omega
  exact I1.fpOk hc' (I1.hok.fresh hc')
end
section
variable {caps:List (Nat × Str)} {te:TE}
theorem keep2 {x y:V} {cs:List (Option V)}:∀ (i:Nat) v,((none:Option V) :: none :: cs)[i]? = some (some v) → ((some x) :: (some y) :: cs)[i]? = some (some v)
  | 0,v,h => by simp at h
  | 1,v,h => by simp at h
  | i + 2,v,h => by simpa using h
end
end L2
namespace L2
open PySem PySem.Spec PyProof.Rows
theorem all_range_true (n:Nat):(List.range n).all (fun _ => true) = true:=by simp
def Bits (n:Nat) (i:Int):Prop:=Builtin.Int.intBits i ≤ n
theorem bits_weight (i:Int):(PySem.W.WData.int i).weight = Builtin.Int.intBits i:=by
  simp only [PySem.W.WData.weight,Builtin.Int.intBits]
theorem weight_mem:∀ (ns:List Int) (n:Nat),PySem.W.WData.weightAll (ns.map PySem.W.WData.int) ≤ n → ∀ i ∈ ns,Bits n i
  | [],_,_,_,h => nomatch h
  | j :: ns,n,hw,i,h => by
    simp only [List.map_cons,PySem.W.WData.weightAll] at hw
    rcases List.mem_cons.mp h with rfl | h
    · show Builtin.Int.intBits i ≤ n
      rw [← bits_weight]; omega
    · exact weight_mem ns n (by omega) i h
theorem attach_callB {l:PySem.W.OpenLaw} {n:Nat} {q:Program} {loose:List Str} {XP:(Str → Option Value) → Heap → Prop} {YP:World → Heap → Prop} {d:DefRec}
    (hn:l.most = some n) (hdf:d.params.defaults = [])
    (call:∀ (w:World) (s₀ s₁:Shared) (mg mb:Str → Option Value) (fa:Addr) (a:Addr) (vs:List Value) (ns:List Int),
      PySem.W.Ground q loose [] XP w s₀ mg mb s₁.heap → YP w s₁.heap → mg d.name = some (.ref fa) →
      s₁.heap.get? a = some { cls:=.type "list", data:=.seq vs.toArray } → IntsAre vs ns → ns.length ≤ n → (∀ i ∈ ns,Bits 1048576 i) → s₁.gens = #[] →
      codeAny (model l.prog w) callerA (.call (.ref fa) ⟨[.ref a],[]⟩) (fun r s' => r = .ok (.ret (.bool true)) ∧ OldK s₁.heap s'.heap ∧ s'.os = s₁.os ∧ AllBare s'.gens) s₁) :
    PySem.W.WalkO q loose XP YP l.row.toRowW d [] (fun f vs => PySem.call f vs):=by
  refine fun w s₀ s₁ mg mb G Y fa o pm cd doc dV kV ho hd hcd hD hmg hg args vals as hpre hlay hrd hwl hlo => ?_
  have hb:∀ (a:Addr) (vs:List Value) (ns:List Int),vals = [Value.ref a] → args = [PySem.W.WData.list (ns.map PySem.W.WData.int)] → ∀ i ∈ ns,Bits 1048576 i:=by
    rintro a vs ns - rfl
    refine weight_mem ns _ ?_
    have h1:(PySem.W.WData.list (ns.map PySem.W.WData.int)).layable = true:=(PySem.W.layW_cons hlay).1
    unfold PySem.W.WData.layable at h1
    simp only [Bool.and_eq_true,decide_eq_true_eq] at h1
    have:=h1.2
    simp only [PySem.W.WData.weight] at this
    exact this
  obtain rfl:dV = .none:=PySem.W.Dflts.none hD hdf
  obtain rfl:kV = .none:=PySem.W.Dflts.noKw hD
  obtain ⟨a,vs,ns,rfl,rfl,hobj,hints,hlen⟩:=Att.script_of hn hpre hwl
  refine PySem.W.enter_call (codeAny_mono (call w s₀ s₁ mg mb fa a vs ns G Y hmg hobj hints hlen (hb a vs ns rfl rfl) hg) fun r s' hq => ?_)
  obtain ⟨rfl,h2,h3,h4⟩:=hq
  exact ⟨.inl ⟨.bool true,.bool true,[],rfl,fun _ => rfl,.bool true,Att.post_true l _,fun _ => ⟨List.Pairwise.nil,fun _ hm => (nomatch hm)⟩⟩,h2,h3,h4⟩
theorem walk_ofB {l:PySem.W.OpenLaw} {n k:Nat} {q:Program} {loose:List Str} {XP:(Str → Option Value) → Heap → Prop} {YP:World → Heap → Prop} {d:DefRec} {K:Params → PySem.W.Frag} {CX:World → CXT} {sp:World → Sp} {x:Str}
    (hn:l.most = some n) (hn2:n ≤ sizeLine) (hdf:d.params.defaults = []) (hr:Room k callerA)
    (hY:∀ (w:World) (h:Heap),YP w h → (K w.params).In h)
    (F:∀ (w:World) (mg:Str → Option Value) (fa:Addr) (h:Heap),(K w.params).In h → h.Ns mainGlobals mg → mg d.name = some (.ref fa) →
      ∃ fd:FuncData,(∀ (s:Shared) (u:Value),BindsTo s fd ⟨[u],[]⟩ [(x,u)]) ∧
        ∀ base:Heap,(K w.params).In base → base.Ns mainGlobals mg → FnOk l.prog w (K w.params) mg base (CX w) k fa fd [x] (sp w))
    (hsp:∀ (w:World) (H:Hp) (a:Addr) (ns:List Int),ns.length ≤ n → (∀ i ∈ ns,Bits 1048576 i) → Only H → SqL (K w.params) H a (ns.map V.int) → sp w [.ref a] H (fun v _ => v = .bl true) fun _ _ _ => False)
    (hCX:∀ (w:World) (H:Hp) (s:Shared) (e:Value) (s':Shared),CX w [] H s (fun _ _ _ => False) e s' → False) :
    PySem.W.WalkO q loose XP YP l.row.toRowW d [] (fun f vs => PySem.call f vs):=by
  refine attach_callB hn hdf fun w s₀ s₁ mg mb fa a vs ns G Y hmg hobj hints hlen hbits hg => ?_
  have KX:=hY w _ Y
  obtain ⟨fd,hb,hF⟩:=F w mg fa _ KX G.T.g hmg
  exact law_call KX G.T.g G.T.b G.T.builtins G.T.nolimit hg hobj hints (Nat.le_trans hlen hn2) hr hF hb (fun H hO hS => hsp w H a ns hlen hbits hO hS) fun H e s' => hCX w H s₁ e s'
theorem Bits.lt {n:Nat} {i:Int} (h:Bits n i):i.natAbs < 2 ^ n:=by
  unfold Bits Builtin.Int.intBits at h
  by_cases h0:i = 0
  · subst h0; exact Nat.pos_of_ne_zero (by simp)
  · have:i.natAbs.log2 + 1 ≤ n:=by simpa [h0] using h
    exact (Nat.log2_lt (by omega)).mp (by omega)
theorem Bits.of {n:Nat} {i:Int} (h:i.natAbs < 2 ^ n):Bits n i:=bits_le h
theorem Bits.cell {n:Nat} {c k:Int} (h:Bits n c) (h0:0 ≤ k) (h1:k < 256):Bits (n + 17) (c * (k + 2) + k * k):=by
  refine Bits.of ?_
  have hc:=h.lt
  have e1:(c * (k + 2)).natAbs ≤ c.natAbs * 258:=by
    rw [Int.natAbs_mul]
    exact Nat.mul_le_mul_left _ (by omega)
  have e2:(k * k).natAbs ≤ 256 * 256:=by
    rw [Int.natAbs_mul]
    exact Nat.mul_le_mul (by omega) (by omega)
  have e3:2 ^ (n + 17) = 2 ^ n * 131072:=by rw [Nat.pow_add]
  have e4:1 ≤ 2 ^ n:=Nat.pos_of_ne_zero (by simp)
  rw [e3]
  generalize 2 ^ n = P at *
  omega
theorem Bits.mul {i j:Int} (h:Bits 2097152 i) (h':Bits 2097152 j):IntMulOk i j:=by
  have h1:Builtin.Int.intBits i ≤ 2097152:=h
  have h2:Builtin.Int.intBits j ≤ 2097152:=h'
  have h3:Builtin.Int.intTooBig (Builtin.Int.intBits i + Builtin.Int.intBits j) = false:=by
    unfold Builtin.Int.intTooBig
    rw [bitsLine_eq]
    exact decide_eq_false (by omega)
  unfold IntMulOk
  rw [h3]
  simp
end L2
namespace L2
open PySem PySem.Spec PyProof.Rows
section
variable {X:Cx}
theorem ix_listK (K:PySem.W.Frag) (h:X.K = K):IxR X (rIxL K):=by subst h; exact ix_list
theorem call_len_seqK (K:PySem.W.Frag) (h:X.K = K):CallR X (.builtin "len") (fun xs H Q => ∃ p ys,xs = [.ref p] ∧ (SqL K H p ys ∨ SqT K H p ys) ∧ Q (.int ys.length) H):=by subst h; exact call_len_seq
theorem call_list_ofK (K:PySem.W.Frag) (h:X.K = K):CallR X (.type "list") (fun xs H Q => ∃ p ys,xs = [.ref p] ∧ (SqL K H p ys ∨ SqT K H p ys) ∧ ∀ l,H l = none → Q (.ref l) (upd H l (.lst ys))):=by subst h; exact call_list_of
structure CxIs (X:Cx) (P:Program) (w:World) (K:PySem.W.Frag) (mg:Str → Option Value) (base:Heap):Prop where
  p:X.prog = P
  w:X.w = w
  k:X.K = K
  m:X.mg = mg
  b:X.base = base
variable {o e:Expr} {es:List Expr} {m:Str} {apos pos:Pos} {ta:TE} {t:TA} {k:Nat} {E:St → XK}
theorem pe_methXK {pl:Sem Bool} {P:Program} {w:World} {K:PySem.W.Frag} {mg:Str → Option Value} {base:Heap} (hX:CxIs X P w K mg base) (he:PE X o ta) (hx:PassS X E) (hr:Room k X.A) (ha:PA X (e :: es) t)
    (hst:starEach (e :: es) X.env = (false,eval e X.env) :: starEach es X.env:=by rfl) (hpl:(backTo pos (starEach es X.env)).any (·.1) = false:=by rfl)
    (ht:eval (.Call (.Attribute o m apos) (e :: es) [] pos) X.env = (do
      let ov ← eval o X.env
      standAt apos.atName
      let (f,first) ← holding [ov] (getMethod ov m pl)
      callWith pos f first (backTo pos (starEach (e :: es) X.env)) (backToKw pos (keywordEach [] X.env))):=by rfl) :
    PE X (.Call (.Attribute o m apos) (e :: es) [] pos) (tMethX P w K mg base m k E ta t):=by
  obtain ⟨rfl,rfl,rfl,rfl,rfl⟩:=hX
  exact pe_methX he hx hr ha hst hpl ht
theorem pe_methAK {pl:Sem Bool} {P:Program} {w:World} {K:PySem.W.Frag} {mg:Str → Option Value} {base:Heap} (hX:CxIs X P w K mg base) (he:PE X o ta) (hr:Room k X.A) (ha:PA X (e :: es) t)
    (hst:starEach (e :: es) X.env = (false,eval e X.env) :: starEach es X.env:=by rfl) (hpl:(backTo pos (starEach es X.env)).any (·.1) = false:=by rfl)
    (ht:eval (.Call (.Attribute o m apos) (e :: es) [] pos) X.env = (do
      let ov ← eval o X.env
      standAt apos.atName
      let (f,first) ← holding [ov] (getMethod ov m pl)
      callWith pos f first (backTo pos (starEach (e :: es) X.env)) (backToKw pos (keywordEach [] X.env))):=by rfl) :
    PE X (.Call (.Attribute o m apos) (e :: es) [] pos) (tMethA P w K mg base m k ta t):=by
  obtain ⟨rfl,rfl,rfl,rfl,rfl⟩:=hX
  exact pe_methA he hr ha hst hpl ht
end
end L2
namespace L2
open PySem PySem.Spec PyProof.Rows
theorem pg_tupK {X:Cx} {pos:Pos} (K:PySem.W.Frag) (h:X.K = K) {es:List Expr} {k:Nat} {t:TGs} {n:Nat} (hc:X.calm = true) (h1:PGs X es t)
    (hn:(assignEach es X.env).length = n:=by rfl) (hst:(assignEach es X.env).findIdx? (·.1) = none:=by rfl):PG X (.Tuple es k pos) (gTup K n t):=by subst h; exact pg_tup hc h1 hn hst
theorem comp_zip2 {caps:List (Nat × Str)} {te:TE} {K:PySem.W.Frag} {a b:Addr} {xs ys:List V} {σ:St} {H:Hp} {QL:List V → Hp → Prop} (Pv:Nat → List V → Hp → Prop) (hz:xs.length ≤ 1000) (h0:Pv 0 [] H) (hl:∀ i zs H,Pv i zs H → SqL K H a xs ∧ SqL K H b ys)
    (hs:∀ i x y T zs H,xs[i]? = some x → ys[i]? = some y → zs.length = i → H T = none → Pv i zs H → te (some x :: some y :: caps.map fun p => (σ[p.1]?).join) (upd H T (.tup [x,y])) fun v H' => Pv (i + 1) (zs ++ [v]) H')
    (hd:∀ zs H,zs.length = min xs.length ys.length → Pv (min xs.length ys.length) zs H → QL zs H) :
    tCompB 2 caps (gTup K 2 (gCons (gName 0) (gCons (gName 1) gNil))) te σ (Itz K a b) H QL:=by
  have hz':xs.length < sizeLine:=small1000 hz
  refine ⟨fun i m zs H => m = min xs.length ys.length - i ∧ i ≤ min xs.length ys.length ∧ zs.length = i ∧ Pv i zs H,⟨_,rfl,Nat.zero_le _,rfl,h0⟩,?_⟩
  rintro i m zs H' ⟨rfl,hi,hy,p⟩
  obtain ⟨q1,q2⟩:=hl i zs H' p
  refine ⟨by omega,?_⟩
  by_cases hlt:i < min xs.length ys.length
  · have l1:i < xs.length:=by omega
    have l2:i < ys.length:=by omega
    refine .inr ⟨⟨xs,ys,xs[i],ys[i],q1,q2,by simp [l1],by simp [l2]⟩,by omega,fun v H4 => Pv (i + 1) (zs ++ [v]) H4,fun v H4 p' => ⟨min xs.length ys.length - (i + 1),by omega,rfl,hlt,by rw [List.length_append,hy]; rfl,p'⟩,fun x H2 y => ?_⟩
    obtain ⟨T,nT,rfl,u,v,e1,e2,rfl⟩:=y
    exact ⟨T,[u,v],rfl,SqT.of upd_same,rfl,u,_,rfl,v,_,rfl,rfl,keep2,hs i u v T zs H' (e1 xs q1) (e2 ys q2) hy nT p⟩
  · have e:i = min xs.length ys.length:=by omega
    subst e
    exact .inl ⟨⟨xs,ys,q1,q2,by omega⟩,hd zs H' hy p⟩
end L2
namespace L2
open PySem PySem.Spec PyProof.Rows
theorem big_L:10 ^ 1000 < 2 ^ 4000:=by decide +kernel
theorem mulL {i j:Int} (h:i.natAbs ≤ 10 ^ 1000) (h':j.natAbs ≤ 10 ^ 1000):IntMulOk i j :=
  .of_bits (Nat.le_trans (bits_le (n:=4000) (Nat.lt_of_le_of_lt h big_L)) (by decide)) (Nat.le_trans (bits_le (n:=4000) (Nat.lt_of_le_of_lt h' big_L)) (by decide))
section
variable {X:Cx}
theorem vals_intsAre:∀ {ns:List Int} {us:List Value},Vals (ns.map V.int) us → IntsAre us ns
  | [],_,.nil => .nil
  | _ :: _,_,.cons r t => by obtain ⟨k,rfl⟩:=r; exact .cons _ _ (vals_intsAre t)
theorem call_sum (hc:X.calm = true):CallR X (.builtin "sum") (fun xs H Q => ∃ (p:Addr) (ns:List Int),xs = [.ref p] ∧ SqL X.K H p (ns.map V.int) ∧ Q (.int ns.sum) H):=by
  intro pins s σ H xs us Q I r h
  obtain ⟨p,ns,rfl,hq,q⟩:=h
  obtain ⟨u,rfl,rx⟩:=vals1 r
  cases rx
  obtain ⟨its,r',pl,hz⟩:=I.list hq
  have hi:=vals_intsAre r'
  obtain ⟨xs,e⟩:=hi.allInts.items
  have hs:(numsOf its).sum = ns.sum:=by rw [hi.numsOf]
  have e2:its = (intItems xs).toList:=by rw [← e]
  rw [e2,nums_intItems] at hs
  refine sum_intListG (xs:=xs) (I.ok.hd hc) (by rw [← e]; exact pl.isList) fun h' tk t' hk => ?_
  rw [preSum_eq,List.take_of_length_le (by simp)]
  rw [hs]
  exact ⟨.int ns.sum,H,I.kept hk,⟨t',rfl⟩,q⟩
end
end L2
namespace L2
open PySem PySem.Spec PyProof.Rows
theorem relabel_back2 {scope:Scope} {env:Env} {x:Str} (hx:(relabel scope env).names.lookup x = some .cell ∨ (relabel scope env).names.lookup x = some .free):(x,NameKind.free) ∈ scope.names ∨ (x,NameKind.cell) ∈ scope.names:=by
  unfold relabel at hx
  have hx:(scope.names.map fun (n,k) => if (k == NameKind.free && env.scope.kind == .function && env.kindOf n == some .cell) then (n,NameKind.cell) else (n,k)).lookup x = some .cell ∨ (scope.names.map fun (n,k) => if (k == NameKind.free && env.scope.kind == .function && env.kindOf n == some .cell) then (n,NameKind.cell) else (n,k)).lookup x = some .free:=hx
  generalize scope.names = ns at hx
  induction ns with
  | nil => simp at hx
  | cons p r ih =>
    obtain ⟨n,k⟩:=p
    rw [List.map_cons] at hx
    by_cases hn:x = n
    · subst hn
      by_cases hk:k = NameKind.free
      · subst hk; exact .inl List.mem_cons_self
      · have hb:(k == NameKind.free) = false:=by simpa using hk
        simp only [hb,Bool.false_and,Bool.false_eq_true,if_false,List.lookup_cons,beq_self_eq_true,Option.some.injEq] at hx
        rcases hx with e | e
        · rw [e]; exact .inr List.mem_cons_self
        · exact absurd e hk
    · have hb:(x == n) = false:=beq_eq_false_iff_ne.mpr hn
      have hx2:List.lookup x ((if (k == NameKind.free && env.scope.kind == .function && env.kindOf n == some .cell) = true then (n,NameKind.cell) else (n,k)) :: List.map (fun (p:Str × NameKind) => match p with | (n,k) => if (k == NameKind.free && env.scope.kind == .function && env.kindOf n == some .cell) = true then (n,NameKind.cell) else (n,k)) r) = some .cell ∨ List.lookup x ((if (k == NameKind.free && env.scope.kind == .function && env.kindOf n == some .cell) = true then (n,NameKind.cell) else (n,k)) :: List.map (fun (p:Str × NameKind) => match p with | (n,k) => if (k == NameKind.free && env.scope.kind == .function && env.kindOf n == some .cell) = true then (n,NameKind.cell) else (n,k)) r) = some .free:=hx
      have:=ih (by split at hx2 <;> (simp only [List.lookup_cons,hb] at hx2; exact hx2))
      rcases this with h | h
      · exact .inl (List.mem_cons_of_mem _ h)
      · exact .inr (List.mem_cons_of_mem _ h)
def compCxC (X:Cx) (x0:Str) (scope:Scope) (N:List Str) (s₀:Shared) (H₀:Hp) (C:Addr) (fp:List Addr):Cx where
  prog:=X.prog
  w:=X.w
  K:=X.K
  mg:=X.mg
  base:=X.base
  A:=X.A
  N:=N
  s₀:=s₀
  H₀:=H₀
  env:=compEnvC scope ((x0,C + 1) :: clOf X.env.cells scope.names []) C X.env
  outer:=X.stack
  stack:=X.stack
  ex:=fp
  fn:=fun x => x == x0
  calm:=X.calm
  pn:=[]
  xe:=fun _ _ => False
theorem lookC {x0 x:Str} {n c:Addr} {cl:List (Str × Addr)} (h:((x0,n) :: cl).lookup x = some c):(x = x0 ∧ c = n) ∨ (x ≠ x0 ∧ cl.lookup x = some c):=by
  by_cases hx:x = x0
  · subst hx
    simp only [List.lookup_cons,beq_self_eq_true,Option.some.injEq] at h
    exact .inl ⟨rfl,h.symm⟩
  · have hb:(x == x0) = false:=beq_eq_false_iff_ne.mpr hx
    simp only [List.lookup_cons,hb] at h
    exact .inr ⟨hx,h⟩
structure OneCell (scope:Scope) (x0:Str):Prop where
  one:∀ y ∈ scope.names,y.2 = .cell → y.1 = x0
  lk:scope.names.lookup x0 = some .cell
  cf:∀ n acc,cellsFrom n scope.names acc = (x0,n) :: acc
  pc:∀ h,pushCells h scope.names = h.push { cls:=.type "cell", data:=.cell none }
theorem newEnvC {prog:Program} {w:World} {A:Around} {E:Value → Shared → Prop} {s:Shared} {scope:Scope} {x0:Str} {globals:Addr} {closure:List (Str × Addr)} {qual:Str} {env:Env} {Q:Env → Shared → Prop} (O:OneCell scope x0)
    (hQ:Q { scope,locals:=s.heap.objs.size,globals,cells:=(x0,s.heap.objs.size + 1) :: closure,qual,func:=none,code:=env.code,frame:=env.frame,builtins:=env.builtins } { s with heap:=(s.heap.push { cls:=.type "dict", data:=.dict #[] }).push { cls:=.type "cell", data:=.cell none } }) :
    wpAny (model prog w) A (newFunctionEnv scope globals closure [] qual none .none (some env)) Q E s:=by
  simp only [newFunctionEnv,Option.isSome_some,if_true]
  refine wpAny_bind (wpAny_alloc ?_)
  refine wpAny_bind (wpAny_layCells _ (fun name kind cells => by cases hkc:kind == NameKind.cell <;> simp [hkc]) _ _ _ _ ?_)
  rw [O.cf,O.pc,Heap.size_push]
  refine wpAny_bind ?_
  rw [List.forIn_nil]
  exact wpAny_pure (wpAny_pure hQ)
section
variable {X:Cx} {tg iter elt:Expr} {scope:Scope} {pos:Pos} {wi:TI} {g:TG} {te:TE} {own:List Str} {caps:List (Nat × Str)} {x0:Str}
theorem compCxC_ok {pins:List (Addr × Obj)} {σ:St} {H:Hp} {s:Shared} {fp:List Addr} {C:Addr} {N:List Str} (I:Inv X pins σ H s) (hkind:scope.kind = .function) (O:OneCell scope x0)
    (hfree:∀ y,(y,NameKind.free) ∈ scope.names → ∃ c,X.env.cells.lookup y = some c) (hC:s.heap.objs.size ≤ C) (hf:∀ b ∈ fp,FpOk X pins H b) (hlt:∀ b ∈ fp,b < s.heap.objs.size):(compCxC X x0 scope N s H C fp).Ok:=by
  have sub:∀ x c,(clOf X.env.cells scope.names []).lookup x = some c → X.env.cells.lookup x = some c:=fun x c e => clOf_sub scope.names [] (fun p hp => (nomatch hp)) (x,c) (PySem.mem_of_lookup e)
  have clt:∀ x c,X.env.cells.lookup x = some c → c < s.heap.objs.size:=fun x c e => by
    obtain ⟨v,o,ho,_⟩:=I.cell x c e
    exact Heap.lt_size ho
  refine ⟨I.ok.mod,hkind,I.ok.glob,I.ok.blt,hC,fun x y c h1 h2 => ?_,fun x hx => ?_,fun x c hx h => ?_,I.ok.hd,I.ok.frames,.inl rfl,fun b hb => ⟨?_,fun x c e => ?_⟩,I.bs,Nat.le_trans I.ok.bsz I.sz,fun b o e hb => ?_,fun b hb z => ?_,I.stack,I.stkFree⟩
  · rcases lookC h1 with ⟨a1,a2⟩ | ⟨_,a⟩ <;> rcases lookC h2 with ⟨b1,b2⟩ | ⟨_,b⟩
    · rw [a1,b1]
    · have:=clt y c (sub y c b); rw [a2] at this; exact absurd this (Nat.not_lt.mpr (Nat.le_succ_of_le hC))
    · have:=clt x c (sub x c a); rw [b2] at this; exact absurd this (Nat.not_lt.mpr (Nat.le_succ_of_le hC))
    · exact I.ok.inj x y c (sub x c a) (sub y c b)
  · by_cases h0:x = x0
    · exact ⟨C + 1,by subst h0; show List.lookup x ((x,C + 1) :: _) = _; simp [List.lookup_cons]⟩
    · rcases relabel_back2 hx with h | h
      · obtain ⟨c,hc⟩:=clOf_has scope.names [] h (hfree x h)
        obtain ⟨d,hd⟩:=lookup_of_mem hc
        have hb:(x == x0) = false:=beq_eq_false_iff_ne.mpr h0
        exact ⟨d,by show List.lookup x ((x0,C + 1) :: _) = _; simp only [List.lookup_cons,hb]; exact hd⟩
      · exact absurd (O.one _ h rfl) h0
  · have hx':x = x0:=by simpa [compCxC] using hx
    rcases lookC h with ⟨_,a⟩ | ⟨a,_⟩
    · show s.heap.objs.size ≤ c; rw [a]; exact Nat.le_succ_of_le hC
    · exact absurd hx' a
  · exact Nat.ne_of_lt (Nat.lt_of_lt_of_le (hlt b hb) hC)
  · rcases lookC e with ⟨_,a⟩ | ⟨_,a⟩
    · rw [a]; exact fun z => by
        have h9:=hlt b hb
        rw [← z] at h9
        exact absurd h9 (Nat.not_lt.mpr (Nat.le_succ_of_le hC))
    · exact (hf b hb).2.2.2.2.1 x c (sub x c a)
  · rcases (hf b hb).2.2.2.1 with z | z
    · exact I.ok.noex b o e z
    · exact absurd (Nat.lt_of_lt_of_le (Heap.lt_size e) (Nat.le_trans I.ok.bsz z)) (Nat.lt_irrefl _)
  · rcases List.mem_cons.mp (I.stkSub b z) with e | e
    · exact (hf b hb).2.1 e
    · exact (hf b hb).2.2.1 e
theorem comp_coreC {pins:List (Addr × Obj)} {σ:St} {H:Hp} {s:Shared} {fp:List Addr} {it:Addr} {tn:Nat → Heap → Prop} {J:It} {E:Value → Shared → Prop} {RR:Value → Addr → Result → Shared → Prop} {QL:List V → Hp → Prop}
    (I:Inv X pins σ H s) (hc:X.calm = true) (T:Turn X.prog X.w X.K tg J fp it tn) (st:tn 0 s.heap) (hf:∀ b ∈ fp,FpOk X pins H b)
    (hkind:scope.kind = .function) (O:OneCell scope x0) (hfree:∀ y,(y,NameKind.free) ∈ scope.names → ∃ c,X.env.cells.lookup y = some c) (hcap:CapsOk X scope caps)
    (hg:∀ s₀ H₀ C,PG (compCxC X x0 scope (own ++ caps.map (·.2)) s₀ H₀ C fp) tg g) (he:∀ s₀ H₀ C,PE (compCxC X x0 scope (own ++ caps.map (·.2)) s₀ H₀ C fp) elt te)
    (hB:tCompB own.length caps g te σ J H QL)
    (fin:∀ D C s' m ys H',s.heap.objs.size ≤ C → D ≠ C → s'.heap.Ns C m → Inv X pins σ (upd H' D (.lst ys)) s' → H' D = none → H' C = none → QL ys H' → RR (.ref D) C (.ok .next) s') :
    wpAny (model X.prog X.w) X.A (newList []) (fun acc s₃ => wpAny (model X.prog X.w) X.A (newFunctionEnv scope X.env.globals (clOf X.env.cells scope.names []) [] X.env.qual none .none (some X.env)) (fun cenv s₄ =>
      codeAny (model X.prog X.w) X.A (.compStart (.ListComp elt [⟨tg,iter,[],0⟩] scope pos) 0 (.ref it) acc { cenv with scope:=relabel scope X.env }) (RR acc cenv.locals) s₄) E s₃) E s:=by
  refine wpAny_newObj_type (newEnvC O ?_)
  generalize hH2:s.heap.push { cls:=.type "list", dict:=none,data:=.seq ([]:List Value).toArray } = H2
  have hC:H2.objs.size = s.heap.objs.size + 1:=by rw [← hH2,Heap.size_push]
  generalize hCC:H2.objs.size = C at *
  have hCle:s.heap.objs.size ≤ C:=by rw [hC]; exact Nat.le_succ _
  generalize hDD:s.heap.objs.size = D at *
  have hDC:D ≠ C:=by rw [hC]; exact Nat.ne_of_lt (Nat.lt_succ_self _)
  have below:∀ b,b < D → b ≠ C ∧ b ≠ D:=fun b hb => ⟨by rw [hC]; exact Nat.ne_of_lt (Nat.lt_succ_of_lt hb),Nat.ne_of_lt hb⟩
  have lts:∀ {b o},s.heap.get? b = some o → b < D:=fun {b o} e => by rw [← hDD]; exact Heap.lt_size e
  have s1:(H2.push { cls:=.type "dict", data:=.dict #[] }).objs.size = C + 1:=by rw [Heap.size_push,hCC]
  have old2:∀ b o,H2.get? b = some o → ((H2.push { cls:=.type "dict", data:=.dict #[] }).push { cls:=.type "cell", data:=.cell none }).get? b = some o:=fun b o e => Heap.get?_push_of_some _ (Heap.get?_push_of_some _ e)
  have old:∀ b o,s.heap.get? b = some o → ((H2.push { cls:=.type "dict", data:=.dict #[] }).push { cls:=.type "cell", data:=.cell none }).get? b = some o:=fun b o e => old2 b o (hH2 ▸ Heap.get?_push_of_some _ e)
  have hacc:((H2.push { cls:=.type "dict", data:=.dict #[] }).push { cls:=.type "cell", data:=.cell none }).get? D = some { cls:=.type "list", data:=.seq ([]:List Value).toArray 0 }:=old2 _ _ (hH2 ▸ (hDD ▸ Heap.get?_push_size _ rfl))
  have hns₁:((H2.push { cls:=.type "dict", data:=.dict #[] }).push { cls:=.type "cell", data:=.cell none }).Ns C (fun _ => none):=by rw [← hCC]; exact (Heap.Ns.new H2 _).push _
  have hc0:((H2.push { cls:=.type "dict", data:=.dict #[] }).push { cls:=.type "cell", data:=.cell none }).get? (C + 1) = some { cls:=.type "cell", data:=.cell none }:=by rw [← s1]; exact Heap.get?_push_size _ rfl
  generalize (H2.push { cls:=.type "dict", data:=.dict #[] }).push { cls:=.type "cell", data:=.cell none } = h₁ at *
  have hlt:∀ b ∈ fp,b < D:=fun b hb => let ⟨o,e,_⟩:=T.obj 0 _ st b hb; lts e
  have freshS:∀ b,D ≤ b → s.heap.get? b = none:=fun b hb => by
    cases e:s.heap.get? b with
    | none => rfl
    | some o => exact absurd (lts e) (Nat.not_lt.mpr hb)
  have nH:∀ b,D ≤ b → H b = none:=fun b hb => I.hok.fresh (by rw [hDD]; exact hb)
  let Y:Cx:=compCxC X x0 scope (own ++ caps.map (·.2)) s H C fp
  have okY:Y.Ok:=compCxC_ok I hkind O hfree (by rw [hDD]; exact hCle) hf (by rw [hDD]; exact hlt)
  have sub:∀ x c,(clOf X.env.cells scope.names []).lookup x = some c → X.env.cells.lookup x = some c:=fun x c e => clOf_sub scope.names [] (fun p hp => (nomatch hp)) (x,c) (PySem.mem_of_lookup e)
  have celllt:∀ x c,X.env.cells.lookup x = some c → c < D:=fun x c e => by
    obtain ⟨v,o,ho,_⟩:=I.cell x c e
    exact lts ho
  have stklt:∀ b ∈ frs X.stack,b < D:=fun b hb => by
    rcases List.mem_cons.mp (I.stkSub b hb) with e | e
    · rw [e,← hDD]; exact I.lt
    · obtain ⟨_,o,ho,_⟩:=I.funs.mem e
      exact lts ho
  have I0:Inv Y [] (st0 own.length caps σ) H { s with heap:=h₁ }:=by
    refine ⟨okY,rfl,I.bare,Un.kept old,⟨_,hns₁,fun i x v h1 h2 h3 => ?_⟩,fun x c e => ?_,nH C hCle,fun x c e => ?_,fun p hp => ?_,I.hok.kept old,?_⟩
    · obtain ⟨hk,p,hp,hv⟩:=st0_get h2
      have h1':caps[i - own.length]?.map (·.2) = some x:=by
        have:(own ++ caps.map (·.2))[i]? = some x:=h1
        rw [List.getElem?_append_right hk,List.getElem?_map] at this
        exact this
      rw [hp] at h1'
      cases h1'
      obtain ⟨q1,q2,q3⟩:=hcap.mem p (List.mem_of_getElem? hp)
      obtain ⟨m,hn,hl⟩:=I.loc
      obtain ⟨u,r,l⟩:=hl p.1 p.2 v q1 hv (by rcases q3 with z | z; exact .inr (.inl z); exact .inr (.inr z))
      refine ⟨u,r,.inr ⟨relabel_kind q2,?_⟩⟩
      rcases l with ⟨z,_⟩ | ⟨_,c,hc',z⟩
      · rcases q3 with y | y <;> (rw [y] at z; cases z)
      · have hm:(p.2,NameKind.free) ∈ scope.names:=PySem.mem_of_lookup q2
        obtain ⟨d,hd⟩:=clOf_has scope.names [] hm ⟨c,hc'⟩
        obtain ⟨d',hd'⟩:=lookup_of_mem hd
        have e:=sub _ _ hd'
        rw [hc'] at e
        cases e
        obtain ⟨oc,ho,hdt⟩:=z
        have hne:(p.2 == x0) = false:=beq_eq_false_iff_ne.mpr fun z => by rw [z,O.lk] at q2; cases q2
        exact ⟨c,by show List.lookup p.2 ((x0,C + 1) :: _) = _; simp only [List.lookup_cons,hne]; exact hd',oc,old _ _ ho,hdt⟩
    · rcases lookC e with ⟨_,z⟩ | ⟨_,z⟩
      · exact ⟨none,_,by rw [z]; exact hc0,rfl⟩
      · obtain ⟨v,o,ho,hd⟩:=I.cell x c (sub x c z)
        exact ⟨v,o,old _ _ ho,hd⟩
    · rcases lookC e with ⟨_,z⟩ | ⟨_,z⟩
      · rw [z]; exact nH _ (by omega)
      · exact I.freeC x c (sub x c z)
    · exact absurd (show p ∈ ([]:List (Addr × Obj)) from hp) (by simp)
    · rw [st0_len]
      show _ = (own ++ caps.map (·.2)).length
      rw [List.length_append,List.length_map]
  have pinD:∀ {its:List Value} {n:Nat} {σ':St} {H':Hp} {s':Shared},Inv Y [] σ' H' s' → H' D = none → s'.heap.get? D = some { cls:=.type "list", data:=.seq its.toArray n } → Inv Y [(D,{ cls:=.type "list", data:=.seq its.toArray n })] σ' H' s':=fun {its n σ' H' s'} J hn e =>
    J.pins_of fun p hp => by
      have ep:p = (D,{ cls:=.type "list", data:=.seq its.toArray n }):=List.mem_singleton.mp hp
      subst ep
      refine ⟨e,hn,hDC,fun z => ?_,fun v z => by cases z⟩
      exact absurd (stklt D z) (Nat.lt_irrefl _)
  obtain ⟨W,⟨m0,w0⟩,turn⟩:=hB
  have fpY:∀ {H':Hp} {pins':List (Addr × Obj)},(∀ b ∈ fp,H' b = none) → (∀ p ∈ pins',∀ b ∈ fp,p.1 ≠ b) → ∀ b ∈ fp,FpOk Y pins' H' b:=fun {H' pins'} hn hp b hb =>
    ⟨hn b hb,(okY.exf b hb).1,okY.exfs b hb,.inl hb,(okY.exf b hb).2,fun p q => hp p (by simpa [Y,compCxC] using q) b hb⟩
  have loop:∀ s₃:Shared,s₃ = { s with heap:=h₁ } →
      codeAny (model X.prog X.w) X.A (.compLoop (.ListComp elt [⟨tg,iter,[],0⟩] scope pos) 0 (.ref it) (.ref D) (compEnvC scope ((x0,C + 1) :: clOf X.env.cells scope.names []) C X.env)) (RR (.ref D) C) s₃:=by
    rintro s₃ rfl
    refine compLoop_own (fun k s' => ∃ (i:Nat) (ys:List V) (its:List Value) (n:Nat) (H':Hp),Inv Y [(D,{ cls:=.type "list", data:=.seq its.toArray n })] (st0 own.length caps σ) H' s' ∧ tn i s'.heap ∧ (∀ b ∈ fp,H' b = none) ∧ Vals ys its ∧ W i k ys H') ?_ m0
      ⟨0,[],[],0,H,pinD I0 (nH D (Nat.le_refl _)) hacc,T.keep _ _ _ st fun b _ o e => old b o e,fun b hb => (hf b hb).1,.nil,w0⟩
    rintro k s3 ⟨i,ys,its,n,H3,I3,st3,fr3,rv,w3⟩
    obtain ⟨pD,nD,_⟩:=I3.pin (D,{ cls:=.type "list", data:=.seq its.toArray n }) (List.mem_append_right _ List.mem_cons_self)
    have ff:=fpY (pins':=[(D,{ cls:=.type "list", data:=.seq its.toArray n })]) fr3 (fun p hp b hb => by
      rw [List.mem_singleton.mp hp]; exact (Ne.symm (below b (hlt b hb)).2))
    obtain ⟨hsz,turn⟩:=turn i k ys H3 w3
    rcases turn with ⟨stop,q⟩ | ⟨go,hsz',NN,hNN,step⟩
    · refine thn (T.done Y rfl rfl rfl hc i _ s3 _ H3 _ I3 ff st3 stop) fun r s4 ⟨hr,I4⟩ => ?_
      subst hr
      obtain ⟨m4,hn4,_⟩:=I4.loc
      obtain ⟨pD4,nD4,_⟩:=I4.pin (D,{ cls:=.type "list", data:=.seq its.toArray n }) (List.mem_append_right _ List.mem_cons_self)
      refine fin D C s4 m4 ys H3 hCle hDC hn4 ?_ nD4 I4.free q
      have hk:=I4.base
      have hok4:HOk X.prog X.w H3 s4.heap:=I4.hok
      have neD:∀ b u,H3 b = some u → b ≠ D:=fun b u e z => by rw [z,nD4] at e; cases e
      refine I.call' (ch:=fp) I4.os ⟨fun b o e n hb hx => hk.keep b o e n hb hx,fun b o e n hb hx => hk.slot b o e n hb hx,fun b o e n hx => ?_,fun b o e hx => hk.there b o e hx,fun b xs e => ?_,fun b o u e => ?_,fun b ps e => ?_⟩ ?_ I4.bare ?_
      · rw [upd_ne (below b (lts e)).2]; exact hk.free b o e n hx
      · have:=hk.tups b xs e
        rw [upd_ne (neD b _ this)]; exact this
      · have:=hk.frzs b o u e
        rw [upd_ne (neD b _ this)]; exact this
      · obtain ⟨more,e'⟩:=hk.tbls b ps e
        exact ⟨more,by rw [upd_ne (neD b _ e')]; exact e'⟩
      · intro b u e
        by_cases hb:b = D
        · subst hb
          rw [upd_same] at e
          cases e
          exact ⟨hsz,its,n,rv,pD4⟩
        · rw [upd_ne hb] at e
          exact (hok4 b u e).stay (fun c v _ q => q) (fun c q => by rw [upd_ne (neD c _ q)]; exact q) fun c xs q => by rw [upd_ne (neD c _ q)]; exact q
      · intro b hb
        obtain ⟨_,f1,_,f3,f4,f5⟩:=hf b hb
        exact ⟨f3,f1,f4,f5⟩
    · refine thn (T.item Y rfl rfl rfl hc i _ s3 _ H3 _ I3 ff st3 go) fun r s4 ⟨u,hr,h4⟩ => ?_
      subst hr
      refine thn h4 fun _ s5 ⟨x,H5,I5,r5,y5,st5,fr5⟩ => ?_
      have ff5:=fpY (pins':=[(D,{ cls:=.type "list", data:=.seq its.toArray n })]) fr5 (fun p hp b hb => by
        rw [List.mem_singleton.mp hp]; exact (Ne.symm (below b (hlt b hb)).2))
      have I5':=I5.pinned ff5 (T.obj _ _ st5)
      refine thn (hg s H C _ s5 _ H5 x u _ I5' r5 (step x H5 y5)) fun _ s6 ⟨σ6,H6,I6,wk,q6⟩ => ?_
      refine thn (he s H C _ s6 σ6 H6 _ I6 q6) fun y s7 ⟨v,H7,I7,r7,n7⟩ => ?_
      obtain ⟨m',hm,w7⟩:=hNN v H7 n7
      obtain ⟨pD7,nD7,_,_,_⟩:=I7.pin (D,{ cls:=.type "list", data:=.seq its.toArray n }) (List.mem_append_right _ (List.mem_append_left _ List.mem_cons_self))
      refine append_at (n:=n) pD7 (fun h' hs' hD' => ?_) (by rw [List.size_toArray,← rv.length]; exact hsz)
      have st7:tn (i + 1) s7.heap:=T.keep _ _ _ st5 fun b hb o e => (I7.pin (b,o) (List.mem_append_right _ (List.mem_append_right _ (mem_pinsAt hb e)))).1
      have fr7:∀ b ∈ fp,H7 b = none:=fun b hb => by
        obtain ⟨o,e,d⟩:=T.obj _ _ st5 b hb
        exact (I7.pin (b,o) (List.mem_append_right _ (List.mem_append_right _ (mem_pinsAt hb e)))).2.1
      have I8:Inv Y [] σ6 H7 s7:=I7.pins_of fun p hp => (nomatch hp)
      have I9:Inv Y [] (st0 own.length caps σ) H7 s7:=I8.weak (by rw [I0.len,I8.len]) wk
      have I10:Inv Y [] (st0 own.length caps σ) H7 { s7 with heap:=h' }:=I9.turned (t':=s7.toks) (it:=D) (fun b o hb e => hs'.extBut b o hb e) nD7 hDC (.inr (Nat.le_of_eq hDD)) (fun x c e => by
        rcases lookC e with ⟨_,z⟩ | ⟨_,z⟩
        · rw [z,hC]; exact Nat.ne_of_gt (Nat.lt_succ_of_lt (Nat.lt_succ_self _))
        · exact Nat.ne_of_lt (celllt x c (sub x c z))) (fun p hp => absurd (show p ∈ ([]:List (Addr × Obj)) from hp) (by simp))
      refine ⟨m',hm,i + 1,ys ++ [v],its ++ [y],n + 1,H7,pinD I10 nD7 ?_,?_,fr7,rv.append (.cons r7 .nil),w7⟩
      · rw [hD',List.push_toArray]
      · exact T.keep _ _ _ st7 fun b hb o e => hs'.extBut b o (below b (hlt b hb)).2 e
  have tn1:tn 0 h₁:=T.keep _ _ _ st fun b _ o e => old b o e
  exact codeAny_compStart_list (loop _ rfl) (T.self _ 0 _ _ _ tn1 (loop _ rfl))
theorem pe_compC (x0:Str) (own:List Str) (caps:List (Nat × Str)) (hc:X.calm = true) (hi:PI X tg iter wi) (hg:∀ fp s₀ H₀ C,PG (compCxC X x0 scope (own ++ caps.map (·.2)) s₀ H₀ C fp) tg g) (he:∀ fp s₀ H₀ C,PE (compCxC X x0 scope (own ++ caps.map (·.2)) s₀ H₀ C fp) elt te)
    (hcap:CapsOk X scope caps) (O:OneCell scope x0)
    (hfr:(scope.names.all fun y => !(y.2 == NameKind.free) || (X.env.cells.lookup y.1).isSome) = true:=by rfl)
    (hkind:scope.kind = .function:=by rfl)
    (hnames:∀ y ∈ scope.names,y.2 = .local → scope.names.lookup y.1 = some .local:=by decide +kernel) (hs:∀ x,foldedSetIterable iter X.env x = pure x:=by intro _; rfl) :
    PE X (.ListComp elt [⟨tg,iter,[],0⟩] scope pos) (tComp own.length caps wi g te):=by
  intro pins s σ H Q I h
  have hfree:=free_has hfr
  have hclos:=closure_eq hfree
  rw [eval_ListComp]
  refine wpAny_comprehension_free (use:=none) rfl hs hclos hkind hnames (thn (hi pins s σ H _ I h) fun v s1 h1 => thn h1 fun itv s2 h2 => ?_)
  obtain ⟨it,fp,tn,J,H2,e,I2,T,st2,f2,hB⟩:=h2
  subst e
  refine comp_coreC (RR:=fun acc C => compPost (model X.prog X.w) X.A X.xe none (EP X pins σ Q) acc C) I2 hc T st2 f2 hkind O hfree hcap (hg fp) (he fp) hB ?_
  intro D C s' m ys H' hC hDC hn I3 nD nC q
  refine ⟨m,hn,fun h' hs' => ⟨.ref D,upd H' D (.lst ys),?_,rfl,q D nD⟩⟩
  exact I3.turned (t':=s'.toks) (it:=C) (fun b o hb e => hs'.extBut b o hb e) (by rw [upd_ne (Ne.symm hDC)]; exact nC) (Ne.symm (Nat.ne_of_lt (Nat.lt_of_lt_of_le I2.lt hC))) (.inr (Nat.le_trans I2.sz hC))
    (fun x c e z => by
      obtain ⟨v,o,ho,_⟩:=I2.cell x c e
      rw [z] at ho
      exact absurd (Nat.lt_of_lt_of_le (Heap.lt_size ho) hC) (Nat.lt_irrefl _))
    (fun p hp z => by
      have:=(I2.pin p hp).1
      rw [z] at this
      exact absurd (Nat.lt_of_lt_of_le (Heap.lt_size this) hC) (Nat.lt_irrefl _))
end
end L2
namespace L2
open PySem PySem.Spec PyProof.Rows
section
variable {X:Cx} {k:Nat} {f C:Addr} {fd:FuncData} {ps:List Str} {sp:Sp} {dvs:List V} {ds:List Value} {E:St → XK} {x:Str} {p pos:Pos} {e:Expr} {es:List Expr} {t:TA}
end
end L2
namespace L2
open PySem PySem.Spec PyProof.Rows
@[irreducible] def PEI (X:Cx) (e:Expr) (t:TE):Prop:=PE X e t
@[irreducible] def PSI (X:Cx) (st:Stmt) (t:TS):Prop:=PS X st t
@[irreducible] def PSsI (X:Cx) (st:List Stmt) (t:TS):Prop:=PSs X st t
section
variable {X:Cx} {st:Stmt} {rest:List Stmt} {t u:TS} {e:Expr} {te:TE} {pos:Pos}
end
end L2
namespace L2
open PySem PySem.Spec PyProof.Rows
section
variable {X:Cx}
end
def Fl (H:Hp) (x:V) (d:PyData):Prop:=(x = .non ∧ d = .none) ∨ (∃ b,x = .bl b ∧ d = .bool b) ∨ (∃ i,x = .int i ∧ d = .int i) ∨ (∃ y,x = .str y ∧ d = .str y) ∨ (∃ a,x = .ref a ∧ d = .dict [] ∧ H a = some (.dK []))
def Rp (H:Hp):Nat → V → PyData → Prop
  | 0,x,d => Fl H x d
  | n + 1,x,d => Fl H x d ∨ (∃ a xs ds,x = .ref a ∧ d = .list ds ∧ H a = some (.lst xs) ∧ xs.length = ds.length ∧ ∀ (i:Nat) u e,xs[i]? = some u → ds[i]? = some e → Rp H n u e) ∨
      (∃ a xs ds,x = .ref a ∧ d = .tuple ds ∧ H a = some (.tup xs) ∧ xs.length = ds.length ∧ ∀ (i:Nat) u e,xs[i]? = some u → ds[i]? = some e → Rp H n u e)
theorem Fl.same {H H':Hp} {x:V} {d:PyData} (h:Fl H x d) (S:Same H H'):Fl H' x d:=by
  rcases h with h | h | h | h | ⟨a,e1,e2,h⟩
  · exact .inl h
  · exact .inr (.inl h)
  · exact .inr (.inr (.inl h))
  · exact .inr (.inr (.inr (.inl h)))
  · exact .inr (.inr (.inr (.inr ⟨a,e1,e2,S _ _ h⟩)))
theorem Rp.same {H H':Hp} (S:Same H H'):∀ {n:Nat} {x:V} {d:PyData},Rp H n x d → Rp H' n x d
  | 0,_,_,h => Fl.same h S
  | n + 1,x,d,h => by
    rcases h with h | ⟨a,xs,ds,e1,e2,h,l,r⟩ | ⟨a,xs,ds,e1,e2,h,l,r⟩
    · exact .inl (Fl.same h S)
    · exact .inr (.inl ⟨a,xs,ds,e1,e2,S _ _ h,l,fun i u e a b => Rp.same S (r i u e a b)⟩)
    · exact .inr (.inr ⟨a,xs,ds,e1,e2,S _ _ h,l,fun i u e a b => Rp.same S (r i u e a b)⟩)
theorem Rp.up {H:Hp}:∀ {n:Nat} {x:V} {d:PyData},Rp H n x d → Rp H (n + 1) x d
  | 0,_,_,h => .inl h
  | n + 1,x,d,h => by
    rcases h with h | ⟨a,xs,ds,e1,e2,h,l,r⟩ | ⟨a,xs,ds,e1,e2,h,l,r⟩
    · exact .inl h
    · exact .inr (.inl ⟨a,xs,ds,e1,e2,h,l,fun i u e a b => Rp.up (r i u e a b)⟩)
    · exact .inr (.inr ⟨a,xs,ds,e1,e2,h,l,fun i u e a b => Rp.up (r i u e a b)⟩)
theorem Rp.mono {H:Hp} {x:V} {d:PyData} {n m:Nat} (h:Rp H n x d) (l:n ≤ m):Rp H m x d:=by
  induction m with
  | zero => obtain rfl:n = 0:=by omega
            exact h
  | succ m ih =>
    by_cases e:n = m + 1
    · subst e; exact h
    · exact (ih (by omega)).up
section
variable {X:Cx} {pins:List (Addr × Obj)} {σ:St} {H:Hp} {s:Shared}
theorem dK_of (I:Inv X pins σ H s) {a:Addr} (h:H a = some (.dK [])):(a == sysModules) = false ∧ s.heap.DictOf (mixKind X.prog X.w) a []:=by
  obtain ⟨_,z,vs,kv,p⟩:=(show ObjOk X.prog X.w H s.heap a (.dK []) from I.hok a _ h)
  cases kv
  exact ⟨z,p⟩
theorem dict_any {P P':Program} {w w':World} {h:Heap} {a:Addr} (d:h.DictOf (mixKind P w) a []):h.DictOf (mixKind P' w') a []:=by
  obtain ⟨o,es,ep,h1,h2,h3,h4,h5,h6⟩:=d
  refine ⟨o,es,ep,h1,h2,h3,?_,?_,h6⟩
  · have:es.toList = []:=by cases q:es.toList with
      | nil => rfl
      | cons x r => rw [q] at h5; cases h5
    intro e he
    rw [Array.mem_def,this] at he
    cases he
  · cases q:es.toList with
    | nil => exact .nil
    | cons x r => rw [q] at h5; cases h5
theorem Fl.rc {A:Around} {x y:V} {v u:Value} {d:PyData} (I:Inv X pins σ H s) (hu:A.units < cLine) (hx:Fl H x d) (hy:Fl H y d) (rx:RelV x v) (ry:RelV y u):SeqAt.RcAt A s v u true ∧ SeqAt.RcNeAt A s v u false:=by
  rcases hx with ⟨rfl,rfl⟩ | ⟨b,rfl,rfl⟩ | ⟨i,rfl,rfl⟩ | ⟨z,rfl,rfl⟩ | ⟨a,rfl,rfl,ha⟩ <;> rcases hy with ⟨rfl,e⟩ | ⟨b',rfl,e⟩ | ⟨i',rfl,e⟩ | ⟨z',rfl,e⟩ | ⟨a',rfl,e,ha'⟩ <;> cases e
  · cases rx; cases ry; exact ⟨SeqAt.RcAt.none_none,SeqAt.RcNeAt.none_none⟩
  · cases rx; cases ry
    exact ⟨by have:=SeqAt.RcAt.bool_bool (A:=A) (s:=s) b b; simpa using this,by have:=SeqAt.RcNeAt.bool_bool (A:=A) (s:=s) b b; simpa using this⟩
  · obtain ⟨t1,rfl⟩:=rx
    obtain ⟨t2,rfl⟩:=ry
    exact ⟨by have:=SeqAt.RcAt.int_int (A:=A) (s:=s) i t1 i t2; simpa using this,by have:=SeqAt.RcNeAt.int_int (A:=A) (s:=s) i t1 i t2; simpa using this⟩
  · obtain ⟨t1,rfl⟩:=rx
    obtain ⟨t2,rfl⟩:=ry
    exact ⟨by have:=SeqAt.RcAt.str_str (A:=A) (s:=s) z t1 z t2; simpa using this,by have:=SeqAt.RcNeAt.str_str (A:=A) (s:=s) z t1 z t2; simpa using this⟩
  · cases rx; cases ry
    obtain ⟨n1,d1⟩:=dK_of I ha
    obtain ⟨n2,d2⟩:=dK_of I ha'
    refine ⟨fun prog w E Q q => ?_,fun prog w E Q q => ?_⟩
    · exact PySem.W.keq_eq (knd:=mixKind prog w) (r:=true) n1 n2 (dict_any d1) (dict_any d2) hu (fun _ => .nil) q
    · exact PySem.W.keq_ne (knd:=mixKind prog w) (r:=true) n1 n2 (dict_any d1) (dict_any d2) hu (fun _ => .nil) q
theorem Fl.at {A:Around} {x y:V} {v u:Value} {d:PyData} (I:Inv X pins σ H s) (hu:A.units < cLine) (hx:Fl H x d) (hy:Fl H y d) (rx:RelV x v) (ry:RelV y u):SeqAt.EqAt A s v u true:=by
  have rc:=(Fl.rc I hu hx hy rx ry).1
  rcases hx with ⟨rfl,rfl⟩ | ⟨b,rfl,rfl⟩ | ⟨i,rfl,rfl⟩ | ⟨z,rfl,rfl⟩ | ⟨a,rfl,rfl,ha⟩ <;> rcases hy with ⟨rfl,e⟩ | ⟨b',rfl,e⟩ | ⟨i',rfl,e⟩ | ⟨z',rfl,e⟩ | ⟨a',rfl,e,ha'⟩ <;> cases e
  · cases rx; cases ry; exact SeqAt.EqAt.same _
  · cases rx; cases ry; exact SeqAt.EqAt.same _
  · obtain ⟨t1,rfl⟩:=rx
    obtain ⟨t2,rfl⟩:=ry
    have:=SeqAt.EqAt.int_int (A:=A) (s:=s) i t1 i t2
    simpa using this
  · obtain ⟨t1,rfl⟩:=rx
    obtain ⟨t2,rfl⟩:=ry
    have:=SeqAt.EqAt.str_str (A:=A) (s:=s) z t1 z t2
    simpa using this
  · cases rx; cases ry
    by_cases hab:a = a'
    · subst hab; exact SeqAt.EqAt.same _
    · exact SeqAt.EqAt.of_refs hab rc
theorem Vals.at2 {xs:List V} {its:List Value} (r:Vals xs its) {j:Nat} (h:j < its.toArray.size):∃ x,xs[j]? = some x ∧ RelV x its.toArray[j]:=by
  have l:=r.length
  have j1:j < xs.length:=by simp at h; omega
  obtain ⟨v1,e1,q1⟩:=r.get (i:=j) (x:=xs[j]) (by simp [j1])
  have f1:its.toArray[j] = v1:=by
    have:its[j]? = some its.toArray[j]:=by simp at h; simp [h]
    rw [this] at e1; exact Option.some.inj e1
  exact ⟨xs[j],by simp [j1],by rw [f1]; exact q1⟩
theorem get_of_lt {α β:Type} {xs:List α} {ds:List β} {j:Nat} {x:α} (h:xs[j]? = some x) (l:xs.length = ds.length):∃ d,ds[j]? = some d:=by
  have:=(List.getElem?_eq_some_iff.mp h).1
  exact ⟨ds[j]'(by omega),List.getElem?_eq_getElem (by omega)⟩
theorem Rp.both (I:Inv X pins σ H s):∀ (n:Nat) (A:Around) (x y:V) (v u:Value) (d:PyData),A.units + n < cLine → Rp H n x d → Rp H n y d → RelV x v → RelV y u → SeqAt.EqAt A s v u true ∧ SeqAt.RcAt A s v u true ∧ SeqAt.RcNeAt A s v u false
  | 0,A,x,y,v,u,d,hu,hx,hy,rx,ry => ⟨Fl.at I hu hx hy rx ry,Fl.rc I hu hx hy rx ry⟩
  | n + 1,A,x,y,v,u,d,hu,hx,hy,rx,ry => by
    have hu0:A.units < cLine:=by omega
    rcases hx with hx | ⟨a,xs,ds,rfl,rfl,ha,hl,hi⟩ | ⟨a,xs,ds,rfl,rfl,ha,hl,hi⟩
    · have hy':Fl H y d:=by
        rcases hy with hy | ⟨b,ys,es,rfl,rfl,hb,hm,hj⟩ | ⟨b,ys,es,rfl,rfl,hb,hm,hj⟩
        · exact hy
        · rcases hx with ⟨_,e⟩ | ⟨_,_,e⟩ | ⟨_,_,e⟩ | ⟨_,_,e⟩ | ⟨_,_,e,_⟩ <;> cases e
        · rcases hx with ⟨_,e⟩ | ⟨_,_,e⟩ | ⟨_,_,e⟩ | ⟨_,_,e⟩ | ⟨_,_,e,_⟩ <;> cases e
      exact ⟨Fl.at I hu0 hx hy' rx ry,Fl.rc I hu0 hx hy' rx ry⟩
    · obtain ⟨b,ys,rfl,hb,hm,hj⟩:∃ b ys,y = .ref b ∧ H b = some (.lst ys) ∧ ys.length = ds.length ∧ ∀ (i:Nat) u e,ys[i]? = some u → ds[i]? = some e → Rp H n u e:=by
        rcases hy with hy | ⟨b,ys,es,e1,e2,hb,hm,hj⟩ | ⟨b,ys,es,e1,e2,hb,hm,hj⟩
        · rcases hy with ⟨_,e⟩ | ⟨_,_,e⟩ | ⟨_,_,e⟩ | ⟨_,_,e⟩ | ⟨_,_,e,_⟩ <;> cases e
        · cases e2; exact ⟨b,ys,e1,hb,hm,hj⟩
        · cases e2
      cases rx
      cases ry
      obtain ⟨its,r1,p1,_⟩:=I.list (SqL.of ha)
      obtain ⟨jts,r2,p2,_⟩:=I.list (SqL.of hb)
      have l1:=r1.length
      have l2:=r2.length
      have el:∀ (j:Nat) (h1:j < its.toArray.size) (h2:j < jts.toArray.size),SeqAt.EqAt A.in1 s its.toArray[j] jts.toArray[j] true:=fun j h1 h2 => by
        obtain ⟨x1,g1,q1⟩:=r1.at2 h1
        obtain ⟨x2,g2,q2⟩:=r2.at2 h2
        obtain ⟨d,gd⟩:=get_of_lt g1 hl
        exact (Rp.both I n A.in1 _ _ _ _ d (by show A.units + 1 + n < cLine; omega) (hi j _ _ g1 gd) (hj j _ _ g2 gd) q1 q2).1
      have rc:=SeqAt.RcAt.lists (A:=A) (e:=fun _ => true) p1.isList p2.isList (by simp; omega) hu0 el
      have rn:=SeqAt.RcNeAt.lists (A:=A) (e:=fun _ => true) p1.isList p2.isList (by simp; omega) hu0 el
      rw [all_range_true] at rc rn
      refine ⟨?_,rc,rn⟩
      by_cases hab:a = b
      · subst hab; exact SeqAt.EqAt.same _
      · exact SeqAt.EqAt.of_refs hab rc
    · obtain ⟨b,ys,rfl,hb,hm,hj⟩:∃ b ys,y = .ref b ∧ H b = some (.tup ys) ∧ ys.length = ds.length ∧ ∀ (i:Nat) u e,ys[i]? = some u → ds[i]? = some e → Rp H n u e:=by
        rcases hy with hy | ⟨b,ys,es,e1,e2,hb,hm,hj⟩ | ⟨b,ys,es,e1,e2,hb,hm,hj⟩
        · rcases hy with ⟨_,e⟩ | ⟨_,_,e⟩ | ⟨_,_,e⟩ | ⟨_,_,e⟩ | ⟨_,_,e,_⟩ <;> cases e
        · cases e2
        · cases e2; exact ⟨b,ys,e1,hb,hm,hj⟩
      cases rx
      cases ry
      obtain ⟨its,r1,p1,_⟩:=I.tuple (SqT.of ha)
      obtain ⟨jts,r2,p2,_⟩:=I.tuple (SqT.of hb)
      have l1:=r1.length
      have l2:=r2.length
      have el:∀ (j:Nat) (h1:j < its.toArray.size) (h2:j < jts.toArray.size),SeqAt.EqAt A.in1 s its.toArray[j] jts.toArray[j] true:=fun j h1 h2 => by
        obtain ⟨x1,g1,q1⟩:=r1.at2 h1
        obtain ⟨x2,g2,q2⟩:=r2.at2 h2
        obtain ⟨d,gd⟩:=get_of_lt g1 hl
        exact (Rp.both I n A.in1 _ _ _ _ d (by show A.units + 1 + n < cLine; omega) (hi j _ _ g1 gd) (hj j _ _ g2 gd) q1 q2).1
      have es:(its.toArray.size == jts.toArray.size) = true:=by simp; omega
      have rc:=SeqAt.RcAt.tuples (A:=A) (e:=fun _ => true) p1 p2 hu0 el
      have rn:=SeqAt.RcNeAt.tuples (A:=A) (e:=fun _ => true) p1 p2 hu0 el
      rw [all_range_true,es] at rc rn
      refine ⟨?_,rc,rn⟩
      by_cases hab:a = b
      · subst hab; exact SeqAt.EqAt.same _
      · exact SeqAt.EqAt.of_refs hab rc
end
section
variable {X:Cx} {k:Nat}
def rEqT:R2:=fun x y H Q => ∃ d,Rp H 8 x d ∧ Rp H 8 y d ∧ Q (.bl true) H
def rNeT:R2:=fun x y H Q => ∃ d,Rp H 8 x d ∧ Rp H 8 y d ∧ Q (.bl false) H
theorem op_eqT (hr:Room k X.A):OpR X (compareOp .Eq) rEqT:=by
  intro pins s σ H x y v u Q I rx ry h
  obtain ⟨d,hx,hy,q⟩:=h
  have hu:=hr.units
  exact (Rp.both I 8 X.A x y v u d (by omega) hx hy rx ry).2.1 _ _ _ _ ⟨.bl true,H,I,rfl,q⟩
theorem op_neT (hr:Room k X.A):OpR X (compareOp .NotEq) rNeT:=by
  intro pins s σ H x y v u Q I rx ry h
  obtain ⟨d,hx,hy,q⟩:=h
  have hu:=hr.units
  exact (Rp.both I 8 X.A x y v u d (by omega) hx hy rx ry).2.2 _ _ _ _ ⟨.bl false,H,I,rfl,q⟩
end
end L2
namespace L2
open PySem PySem.Spec PyProof.Rows
section
variable {X:Cx} {es:List Expr} {te:TE} {t:TA} {p:Pos} {k:Nat}
end
def All2 (R:V → PyData → Prop) (xs:List V) (ds:List PyData):Prop:=xs.length = ds.length ∧ ∀ (i:Nat) v d,xs[i]? = some v → ds[i]? = some d → R v d
section
variable {R R':V → PyData → Prop} {xs ys:List V} {ds es:List PyData} {x:V} {d:PyData}
theorem All2.nil:All2 R [] []:=⟨rfl,fun i v d h => by simp at h⟩
theorem All2.cons (h:R x d) (t:All2 R xs ds):All2 R (x :: xs) (d :: ds):=by
  refine ⟨by simp [t.1],fun i v e hv he => ?_⟩
  cases i with
  | zero => cases hv; cases he; exact h
  | succ i => exact t.2 i v e (by simpa using hv) (by simpa using he)
theorem rp_lst {H:Hp} {n:Nat} {a:Addr} (h:H a = some (.lst xs)) (g:All2 (Rp H n) xs ds):Rp H (n + 1) (.ref a) (.list ds):=.inr (.inl ⟨a,xs,ds,rfl,rfl,h,g.1,g.2⟩)
theorem rp_tup {H:Hp} {n:Nat} {a:Addr} (h:H a = some (.tup xs)) (g:All2 (Rp H n) xs ds):Rp H (n + 1) (.ref a) (.tuple ds):=.inr (.inr ⟨a,xs,ds,rfl,rfl,h,g.1,g.2⟩)
end
end L2
namespace L2
open PySem PySem.Spec PyProof.Rows
theorem Bits.le {n:Nat} {i j:Int} (h:Bits n j) (l:i.natAbs ≤ j.natAbs):Bits n i:=Bits.of (Nat.lt_of_le_of_lt l h.lt)
theorem Bits.up {n m:Nat} {i:Int} (h:Bits n i) (l:n ≤ m):Bits m i:=Nat.le_trans h l
theorem Bits.mulT {i j:Int} (h:Bits 1000000 i) (h':Bits 1000000 j):IntMulOk i j:=Bits.mul (h.up (by decide)) (h'.up (by decide))
theorem Bits.times {n m:Nat} {i j:Int} (h:Bits n i) (h':Bits m j):Bits (n + m) (i * j):=Bits.of (by
  rw [Int.natAbs_mul,Nat.pow_add]
  exact Nat.mul_lt_mul'' h.lt h'.lt)
theorem Bits.plus {n:Nat} {i j:Int} (h:Bits n i) (h':Bits n j):Bits (n + 1) (i + j):=Bits.of (by
  have:=Int.natAbs_add_le i j
  have a:=h.lt
  have b:=h'.lt
  rw [Nat.pow_succ]
  omega)
section
variable {X:Cx}
end
end L2
namespace L2
open PySem PySem.Spec PyProof.Rows
def AllG {β:Type} (R:V → β → Prop) (xs:List V) (ds:List β):Prop:=xs.length = ds.length ∧ ∀ (i:Nat) v d,xs[i]? = some v → ds[i]? = some d → R v d
section
variable {β:Type} {R R':V → β → Prop} {xs ys:List V} {ds es:List β} {x:V} {d:β}
theorem AllG.nil:AllG R [] []:=⟨rfl,fun i v d h => by simp at h⟩
theorem AllG.cons (h:R x d) (t:AllG R xs ds):AllG R (x :: xs) (d :: ds):=by
  refine ⟨by simp [t.1],fun i v e hv he => ?_⟩
  cases i with
  | zero => cases hv; cases he; exact h
  | succ i => exact t.2 i v e (by simpa using hv) (by simpa using he)
theorem AllG.mono (h:AllG R xs ds) (f:∀ v d,R v d → R' v d):AllG R' xs ds:=⟨h.1,fun i v d a b => f v d (h.2 i v d a b)⟩
theorem AllG.append (h:AllG R xs ds) (g:AllG R ys es):AllG R (xs ++ ys) (ds ++ es):=by
  refine ⟨by rw [List.length_append,List.length_append,h.1,g.1],fun i v e hv he => ?_⟩
  have l:=h.1
  by_cases hi:i < xs.length
  · rw [List.getElem?_append_left hi] at hv
    rw [List.getElem?_append_left (by omega)] at he
    exact h.2 i v e hv he
  · rw [List.getElem?_append_right (by omega)] at hv he
    rw [← l] at he
    exact g.2 _ v e hv he
theorem AllG.one (h:R x d):AllG R [x] [d]:=.cons h .nil
theorem AllG.get (h:AllG R xs ds) {i:Nat} (hv:xs[i]? = some x):∃ d,ds[i]? = some d ∧ R x d:=by
  obtain ⟨d,e⟩:=get_of_lt hv h.1
  exact ⟨d,e,h.2 i x d hv e⟩
theorem AllG.get' (h:AllG R xs ds) {i:Nat} (hi:i < ds.length):∃ x,xs[i]? = some x ∧ R x ds[i]:=by
  have l:=h.1
  exact ⟨xs[i]'(by omega),List.getElem?_eq_getElem (by omega),h.2 i _ _ (List.getElem?_eq_getElem (by omega)) (List.getElem?_eq_getElem hi)⟩
theorem AllG.all2 {D:β → PyData} {R2:V → PyData → Prop} (h:AllG R xs ds) (f:∀ v b,R v b → R2 v (D b)):All2 R2 xs (ds.map D):=by
  refine ⟨by rw [List.length_map]; exact h.1,fun i v d hv hd => ?_⟩
  rw [List.getElem?_map] at hd
  cases e:ds[i]? with
  | none => rw [e] at hd; cases hd
  | some b => rw [e] at hd; cases hd; exact f v b (h.2 i v b hv e)
theorem AllG.zip {α:Type} {R3:V → α → Prop} {as:List α} (h:AllG R xs ds) (g:AllG R3 ys as) {i:Nat} {a b:V} (ha:xs[i]? = some a) (hb:ys[i]? = some b):∃ p q,ds[i]? = some p ∧ as[i]? = some q ∧ R a p ∧ R3 b q:=by
  obtain ⟨p,hp,rp⟩:=h.get ha
  obtain ⟨q,hq,rq⟩:=g.get hb
  exact ⟨p,q,hp,hq,rp,rq⟩
end
end L2
namespace L2
open PySem PySem.Spec PyProof.Rows
section
variable {X:Cx} {k:Nat}
theorem valsB2 {x y:V} {us:List Value} (r:Vals [x,y] us):∃ u v,us = [u,v] ∧ RelV x u ∧ RelV y v:=by
  cases r with
  | cons r t => cases t with
    | cons r2 t2 => cases t2; exact ⟨_,_,rfl,r,r2⟩
end
end L2
namespace L2
open PySem PySem.Spec PyProof.Rows
section
variable {X:Cx} {tg:Expr}
end
section
variable {X:Cx} {k:Nat}
end
end L2
namespace L2
open PySem PySem.Spec PyProof.Rows
section
variable {X:Cx} {tg iter elt:Expr} {scope:Scope} {pos:Pos} {wi:TI} {g:TG} {te:TE} {own:List Str} {caps:List (Nat × Str)}
end
end L2
namespace L2
open PySem PySem.Spec PyProof.Rows
def EqNum (H:Hp) (x y:V) (b:Bool):Prop:=(∃ i j:Int,x = .int i ∧ y = .int j ∧ b = decide (i = j)) ∨
  (∃ (a c:Addr) (n1 d1 n2 d2:Int),x = .ref a ∧ y = .ref c ∧ H a = some (.tup [.int n1,.int d1]) ∧ H c = some (.tup [.int n2,.int d2]) ∧ b = (decide (n1 = n2) && decide (d1 = d2)))
section
variable {X:Cx} {k:Nat}
def rEqN:R2:=fun x y H Q => ∃ b,EqNum H x y b ∧ Q (.bl b) H
theorem pair_at {pins:List (Addr × Obj)} {s:Shared} {σ:St} {H:Hp} {a c:Addr} {n1 d1 n2 d2:Int} {A:Around} (I:Inv X pins σ H s) (ha:H a = some (.tup [.int n1,.int d1])) (hc:H c = some (.tup [.int n2,.int d2])) (hu:A.units < cLine) :
    SeqAt.RcAt A s (.ref a) (.ref c) (decide (n1 = n2) && decide (d1 = d2)) ∧ SeqAt.RcNeAt A s (.ref a) (.ref c) (!(decide (n1 = n2) && decide (d1 = d2))):=by
  obtain ⟨its,r1,p1,_⟩:=I.tuple (SqT.of ha)
  obtain ⟨u1,u2,rfl,ru1,ru2⟩:=valsB2 r1
  obtain ⟨t1,rfl⟩:=ru1
  obtain ⟨t2,rfl⟩:=ru2
  obtain ⟨jts,r2,p2,_⟩:=I.tuple (SqT.of hc)
  obtain ⟨w1,w2,rfl,rw1,rw2⟩:=valsB2 r2
  obtain ⟨s1,rfl⟩:=rw1
  obtain ⟨s2,rfl⟩:=rw2
  have el:∀ (j:Nat) (h1:j < (#[Value.int n1 t1,Value.int d1 t2]:Array Value).size) (h2:j < (#[Value.int n2 s1,Value.int d2 s2]:Array Value).size),SeqAt.EqAt A.in1 s (#[Value.int n1 t1,Value.int d1 t2]:Array Value)[j] (#[Value.int n2 s1,Value.int d2 s2]:Array Value)[j] (if j = 0 then n1 == n2 else d1 == d2):=fun j h1 h2 => by
    have h1':j < 2:=h1
    match j,h1' with
    | 0,_ => exact SeqAt.EqAt.int_int n1 t1 n2 s1
    | 1,_ => exact SeqAt.EqAt.int_int d1 t2 d2 s2
  have e:((List.range (min (#[Value.int n1 t1,Value.int d1 t2]).size (#[Value.int n2 s1,Value.int d2 s2]).size)).all (fun j => if j = 0 then n1 == n2 else d1 == d2) && (#[Value.int n1 t1,Value.int d1 t2]).size == (#[Value.int n2 s1,Value.int d2 s2]).size) = (decide (n1 = n2) && decide (d1 = d2)):=by
    show ((n1 == n2) && ((d1 == d2) && true) && true) = _
    rw [Bool.and_true,Bool.and_true]
    rfl
  have rc:=SeqAt.RcAt.tuples (A:=A) (e:=fun j => if j = 0 then n1 == n2 else d1 == d2) p1 p2 hu el
  have rn:=SeqAt.RcNeAt.tuples (A:=A) (e:=fun j => if j = 0 then n1 == n2 else d1 == d2) p1 p2 hu el
  rw [e] at rc rn
  exact ⟨rc,rn⟩
theorem op_eqN (hr:Room k X.A):OpR X (compareOp .Eq) rEqN:=by
  intro pins s σ H x y v u Q I rx ry h
  obtain ⟨b,hb,q⟩:=h
  rcases hb with ⟨i,j,rfl,rfl,rfl⟩ | ⟨a,c,n1,d1,n2,d2,rfl,rfl,ha,hc,rfl⟩
  · refine op_eq pins s σ H _ _ v u Q I rx ry ⟨rfl,?_⟩
    have:decide (V.int i = V.int j) = decide (i = j):=by rw [dec_int]; rfl
    rw [this]; exact q
  · cases rx
    cases ry
    have hu:X.A.units < cLine:=by have:=hr.units; omega
    exact (pair_at I ha hc hu).1 _ _ _ _ ⟨.bl _,H,I,rfl,q⟩
end
end L2
namespace L2
open PySem PySem.Spec PyProof.Rows
section
variable {X:Cx} {tg iter elt cnd:Expr} {scope:Scope} {pos:Pos} {wi:TI} {g:TG} {tt:TT} {te:TE} {own:List Str} {caps:List (Nat × Str)}
end
end L2
namespace L2
open PySem PySem.Spec PyProof.Rows
end L2
set_option maxHeartbeats 1000000
namespace L2
open PySem PySem.Spec PyProof.Rows
def ownExc (K:PySem.W.Frag) (C CE:Addr):Bool:=(K.lookup C).any fun o => match o.cls,o.data with
  | .type ty,.cls c => ty == "type" && !c.hasDel && c.hasDict && c.mro == .ref C :: .ref CE :: bmV && (match o.slots.toList with | [_,_,_,_,some (.builtin n),_] => n == "ValueError.__new__" | _ => false)
  | _,_ => false
structure XIni (K:PySem.W.Frag) (mg:Str → Option Value) (x:Str) (C CE f:Addr):Prop where
  cls:XCls K C
  mgx:mg x = some (.ref C)
  own:ownExc K C CE = true
  tail:PySem.W.tailIn K bmV (.ref CE :: bmV) = true
  ini:PySem.W.findIn K (.ref C) "__init__" = some (some (.ref f))
  fn:PySem.W.typeIn K (.ref f) = some (.type "function")
  kp:PySem.W.keepIn K (.ref C) = true
  sa:PySem.W.findIn K (.ref C) "__setattr__" = some (some (.builtin "object.__setattr__"))
  sf:PySem.W.mroIn K C (.ref C) = some true
theorem ownExc_obj {K:PySem.W.Frag} {C CE:Addr} {h:Heap} (X:K.In h) (q:ownExc K C CE = true) :
    ∃ nm qn N bs sn sub ab col dd k0 k1 k2 k3 k5,h.get? C = some (excClassObj nm qn C N bs (.ref CE :: bmV) true sn sub ab col dd k0 k1 k2 k3 k5 "ValueError.__new__"):=by
  unfold ownExc at q
  cases e:K.lookup C with
  | none => rw [e] at q; cases q
  | some o =>
    rw [e,Option.any_some] at q
    obtain ⟨oc,od,dat,⟨sl⟩⟩:=o
    dsimp only at q
    split at q
    · rename_i ty c
      simp only [Bool.and_eq_true,beq_iff_eq,Bool.not_eq_true'] at q
      obtain ⟨⟨⟨⟨rfl,a2⟩,a3⟩,a4⟩,a5⟩:=q
      split at a5
      · rename_i k0 k1 k2 k3 n k5
        obtain rfl:n = "ValueError.__new__" := beq_iff_eq.mp a5
        obtain ⟨nm,bs,mro,ns,qn,hd,sn,sub,ab,col,del⟩:=c
        dsimp only at a2 a3 a4
        subst a2 a3 a4
        exact ⟨nm,qn,ns,bs,sn,sub,ab,col,od,k0,k1,k2,k3,k5,X _ _ e⟩
      · cases a5
    · cases q
def excH (h:Heap) (C:Addr) (rest:List Value):Heap:=(h.push { cls:=.type "tuple", data:=.seq rest.toArray }).push { cls:=.ref C,data:=.fields #[.ref h.objs.size,.none,.none,.none,.bool false,.none] }
section
variable {prog:Program} {w:World} {A:Around} {K:PySem.W.Frag} {mg:Str → Option Value} {x:Str} {C CE f:Addr} {h:Heap} {g:Array GenState} {d:Drawn} {t:Nat} {os:OsState} {R:Result → Shared → Prop}
theorem exc_make (X:K.In h) (c:XIni K mg x C CE f) {rest:List Value} (hrest:rest.length ≤ sizeLine)
    (hq:codeAny (model prog w) (A.under (.builtin "type.__call__" ⟨.ref C :: rest,[]⟩)) (.call (.ref f) ⟨.ref (h.objs.size + 1) :: rest,[]⟩) (PySem.W.InitBack (h.objs.size + 1) R) ⟨excH h C rest,g,d,t,os⟩) :
    codeAny (model prog w) A (.call (.ref C) ⟨rest,[]⟩) R ⟨h,g,d,t,os⟩:=by
  obtain ⟨nm,qn,N,bs,sn,sub,ab,col,dd,k0,k1,k2,k3,k5,hC⟩:=ownExc_obj X c.own
  have T:OwnTail h bmV (.ref CE :: bmV):=PySem.W.tail_of_in X c.tail
  have FV:=PySem.F.excBase_ValueError
  have f1:=tc_lookup
  have f2:=tc_bind (.ref C)
  have hT:(⟨h,g,d,t,os⟩:Shared).TypeIs (.ref C) "type" := ⟨_,hC,rfl⟩
  refine codeAny_of_tree ?_
  show wpAny _ _ (callAny (.ref C) _) _ _ _
  repeat (any_goals (first | assumption | with_reducible refine wpAny_loadPart_at hC ?_ | wp_step))
  refine ⟨rfl,codeAny_call_builtin_at (Code.quiet_builtin _ (by decide +kernel)) entry_typeCall (wpAny_check_type_call_sub hC ?_)⟩
  repeat (first | with_reducible refine wpAny_loadPart_at hC ?_ | with_reducible refine wpAny_madeBy_exc hC ?_ | wp_step)
  refine codeAny_call_builtin_code (Code.quiet_builtin _ FV.quiet) (wpAny_check_new_subT FV T hC (codeAny_exc_new_subT FV T hC ?_ hrest))
  show wpAny _ _ _ _ _ _
  have k:∀ b o,h.get? b = some o → (excH h C rest).get? b = some o:=fun b o e => Heap.get?_push_of_some _ (Heap.get?_push_of_some _ e)
  have hC1:=k _ _ hC
  have X1:K.In (excH h C rest):=X.keeps k
  have he:(excH h C rest).get? (h.objs.size + 1) = some { cls:=.ref C,data:=.fields #[.ref h.objs.size,.none,.none,.none,.bool false,.none] }:=by unfold excH; heap_get
  have t1:PySem.W.Looks (model prog w) (excH h C rest) (typeOf (.ref (h.objs.size + 1))) (.ref C):=(PySem.W.Looks.ld he).andThen .now
  have s1:PySem.W.Looks (model prog w) (excH h C rest) (isInstance (.ref (h.objs.size + 1)) (.ref C)) true:=t1.andThen (PySem.W.looks_mroIn X1 c.sf)
  have i1:=PySem.W.looks_findIn (M:=model prog w) X1 c.ini
  have b1:=PySem.W.bind_fn (M:=model prog w) X1 (.ref (h.objs.size + 1)) c.fn
  show wpAny _ _ _ _ _ ⟨excH h C rest,g,d,t,os⟩
  refine wpAny_bind (s1.at ?_)
  unfold callSpecial? specialOf
  dsimp only [Bool.not_true,Bool.false_eq_true,if_false]
  rw [if_neg (by decide)]
  refine wpAny_bind (wpAny_holding ?_)
  repeat (first | with_reducible refine wpAny_call ?_ | lk)
  refine codeAny_mono hq fun r s' z => ?_
  rcases r with e | (v | _ | _ | _) <;> first | exact z | exact z.elim | skip
  obtain ⟨rfl,z⟩:=z
  exact wpAny_pure (wpAny_pure z)
theorem exc_set (X:K.In h) (c:XIni K mg x C CE f) {e:Addr} {oe:Obj} {vs:Array Value} {name:Str} {v:Value} {E:Value → Shared → Prop} {Q:Unit → Shared → Prop} (he:h.get? e = some oe) (hc:oe.cls = .ref C) (hn:oe.dict = none) (hd:oe.data = .fields vs)
    (hna:PySem.W.findIn K (.ref C) name = some none)
    (hq:∀ h' tk,(∀ b o,b ≠ e → h.get? b = some o → h'.get? b = some o) → h'.get? e = some { oe with dict:=some h.objs.size } → h'.Ns1 h.objs.size (fun y => if y = name then some v else none) → Q () ⟨h',g,d,tk,os⟩) :
    wpAny (model prog w) A (setAttr (.ref e) name v) Q E ⟨h,g,d,t,os⟩:=by
  obtain ⟨nm,qn,N,bs,sn,sub,ab,col,dd,k0,k1,k2,k3,k5,hC⟩:=ownExc_obj X c.own
  have J:PySem.W.InstAt h e oe C none:=⟨he,hc,by unfold PySem.W.notCls; rw [hd],by rw [hn]; trivial⟩
  refine PySem.W.set_plain (s:=⟨h,g,d,t,os⟩) X J c.sa ?_
  have SF:=PySem.F.store_object
  have ob:PySem.W.Looks (model prog w) h (isInstance (.ref e) (.type "object")) true:=J.type.andThen (PySem.W.looks_mroIn X c.cls.ob)
  refine codeAny_call_builtin SF.slot.plain SF.entry (@PySem.W.check_slot (model prog w) _ _ ⟨h,g,d,t + 1,os⟩ "object.__setattr__" "object" "__setattr__" (.ref e) [.str name t,v] [] _ SF.kind SF.split ob (SF.args (.ref e) (.str name t) v) ?_)
  rw [PySem.W.osa_eq,refuse_eq]
  refine wpAny_bind (wpAny_bind (J.type.here (s:=⟨h,g,d,t + 1,os⟩) (wpAny_bind (wpAny_mroOf_exc hC ?_))))
  rw [refuseLoop_ref,refuseLoop_ref,PySem.F.store_ValueError.passes]
  refine wpAny_pure (wpAny_bind (J.type.here (s:=⟨h,g,d,t + 1,os⟩) (wpAny_bind ((PySem.W.looks_findIn X hna).here (s:=⟨h,g,d,t + 1,os⟩) (wpAny_bind (wpAny_pure ?_))))))
  have es:e ≠ h.objs.size:=Nat.ne_of_lt (Heap.lt_size he)
  have he1:(h.push { cls:=.type "dict", data:=.dict #[] }).get? e = some oe:=Heap.get?_push_of_some _ he
  repeat (first | (with_reducible refine wpAny_loadPart_at he ?_; rw [hc]) | with_reducible refine wpAny_loadPart_at hC ?_ | wp_step)
  rw [hn]
  dsimp only
  rw [if_neg (by simp [typeHasDict]),hd]
  dsimp only
  obtain ⟨hp,hhp⟩:∃ hp,(h.push { cls:=.type "dict", data:=.dict #[] }).update e (fun o => { cls:=o.cls,dict:=some h.objs.size,data:=o.data,slots:=o.slots }) = hp:=⟨_,rfl⟩
  have up:∀ b,b ≠ e → hp.get? b = (h.push { cls:=.type "dict", data:=.dict #[] }).get? b:=fun b hb => by rw [← hhp]; exact Heap.get?_update_ne _ _ _ _ hb
  have gd:hp.get? h.objs.size = some { cls:=.type "dict", data:=.dict #[] }:=(up _ (Ne.symm es)).trans (Heap.get?_push_at rfl rfl)
  have ge:hp.get? e = some { oe with dict:=some h.objs.size }:=by
    rw [← hhp]
    refine Heap.get?_update_self _ he1 ?_
    exact Obj.isFreed_of_fields (vs:=vs) hd
  have nd:hp.Ns h.objs.size (fun _ => none):=⟨_,#[],_,gd,rfl,(fun z hz => absurd hz (by simp)),fun _ => rfl⟩
  refine wpAny_bind (wpAny_alloc' (wpAny_bind (wpAny_update' he1 (wpAny_pure ?_))))
  show wpAny _ _ (Builtin.ObjectAttr.storeInDict h.objs.size (.str name t) name v) _ _ _
  unfold Builtin.ObjectAttr.storeInDict Builtin.ObjectAttr.newKeyGuard
  rw [hhp]
  refine wpAny_bind (wpAny_pure (wpAny_bind (wpAny_nsSet1 (Heap.Ns1.of_empty nd) fun h2 n2 s2 => ?_)))
  obtain ⟨oD,esD,epD,o1,o2,o3⟩:=n2.count (Within.cons name v Within.nil)
  refine wpAny_bind (wpAny_lookBehind o1 (by rw [o2]; exact pastItsLine_dict (Nat.le_trans o3 (by show 1 ≤ sizeLine + 1; decide))) ?_)
  wp_walk
  refine hq h2 _ (fun b o hb q => ?_) ((s2.2 e es).trans ge) n2
  exact (s2.2 b (Nat.ne_of_lt (Heap.lt_size q))).trans ((up b hb).trans (Heap.get?_push_of_some _ q))
theorem bexc_val {s:Shared} {y:Addr} {oy:Obj} {od:Option Obj} {name:Str} {v:Value} (c:XCls K C) {tk:Tok} (X:K.In s.heap) (I:PySem.W.InstAt s.heap y oy C od) (hf:PySem.W.findObj K C od name = some (.value v)) (hq:R (.ok (.ret v)) s) :
    codeAny (model prog w) A (.call (.builtin "BaseException.__getattribute__") ⟨[.ref y,.str name tk],[]⟩) R s:=by
  obtain ⟨hh,gg,d,t,os⟩:=s
  have M0:=I.type (M:=model prog w)
  have M1:=PySem.W.looks_find (M:=model prog w) X I hf
  have M2:PySem.W.Looks (model prog w) hh (isInstance (.ref y) (.type "BaseException")) true:=M0.andThen (PySem.W.looks_mroIn X c.be)
  refine codeAny_call_builtin F.excAttr_ValueError.ga.plain F.entry_bexc_ga ?_
  simp only [checkBuiltinCall,show builtinKind "BaseException.__getattribute__" = some .slot by decide +kernel,show splitId "BaseException.__getattribute__" = some ("BaseException", "__getattribute__") by decide +kernel]
  refine wpAny_bind (M2.at ?_)
  simp only [Bool.not_true,Bool.false_eq_true,if_false]
  refine wpAny_of_eq (F.args_bexc_ga (.ref y) (.str name tk)) ?_
  exact wpAny_bind (wpAny_pure (wpAny_bind (wpAny_pure (wpAny_bind (M0.at (wpAny_bind (M1.at (wpAny_pure hq))))))))
theorem exc_get {s:Shared} {E:Value → Shared → Prop} {y:Addr} {oy:Obj} {od:Option Obj} {name:Str} {v:Value} {b:Bool} {Q:Value → Shared → Prop} (c:XCls K C) (X:K.In s.heap) (I:PySem.W.InstAt s.heap y oy C od) (hf:PySem.W.findObj K C od name = some (.value v)) (hh:PySem.W.handedIn v = true)
    (hq:Q v { s with toks:=s.toks + 1 }):wpAny (model prog w) A (getAttr (.ref y) name b) Q E s:=by
  have M0:=I.type (M:=model prog w)
  have M1:=PySem.W.looks_findIn (M:=model prog w) X c.ga
  have M3:=PySem.W.looks_findIn (M:=model prog w) X c.ha
  obtain ⟨hp,g,d,t,os⟩:=s
  unfold getAttr getAttrBy
  refine wpAny_bind (wpAny_mkText (wpAny_holding (wpAny_bind (M0.at (wpAny_bind (M1.at ?_))))))
  show wpAny _ _ (getAttrByItsOwn _ _ _ _ _ _) _ _ _
  unfold getAttrByItsOwn
  refine wpAny_bind (M3.at (wpAny_bind (wpAny_attempt (wpAny_holding ?_))))
  unfold callGetattribute
  rw [show (b && onTheHeap (Value.builtin "BaseException.__getattribute__")) = false from by cases b <;> rfl,if_neg (by decide)]
  unfold boundAndCalled
  refine wpAny_bind (wpAny_of_eq (F.excAttr_ValueError.ga.bind (.ref y)) (wpAny_call (bexc_val (s:=⟨hp,g,d,t + 1,os⟩) c X I hf ?_)))
  exact PySem.W.handed_on hh hq
end
def excN (e C:Addr) (dd:Option Addr):HO:=.ext fun h => ∃ oe t,h.get? e = some oe ∧ oe.cls = .ref C ∧ oe.dict = dd ∧ oe.data = .fields #[.ref t,.none,.none,.none,.bool false,.none]
theorem excN_ok {P:Program} {w:World} {H:Hp} {h:Heap} {e C t:Addr} {dd:Option Addr} {oe:Obj} (he:h.get? e = some oe) (hc:oe.cls = .ref C) (hd:oe.dict = dd) (hv:oe.data = .fields #[.ref t,.none,.none,.none,.bool false,.none]):ObjOk P w H h e (excN e C dd) :=
  ⟨⟨oe,t,he,hc,hd,hv⟩,⟨oe,he⟩,fun h1 h2 ⟨o1,t1,a,b,c,d⟩ k => ⟨o1,t1,k _ a,b,c,d⟩⟩
section
variable {X:Cx} {pins:List (Addr × Obj)} {σ:St} {H:Hp} {s:Shared} {C CE f e dd:Addr} {x:Str}
theorem Inv.exc (I:Inv X pins σ H s) (rest:List Value):Inv X pins σ (upd H (s.heap.objs.size + 1) (excN (s.heap.objs.size + 1) C none)) { s with heap:=excH s.heap C rest }:=by
  have he:(excH s.heap C rest).get? (s.heap.objs.size + 1) = some { cls:=.ref C,data:=.fields #[.ref s.heap.objs.size,.none,.none,.none,.bool false,.none] }:=by unfold excH; heap_get
  exact I.laid (t':=s.toks) (fun b o q => Heap.get?_push_of_some _ (Heap.get?_push_of_some _ q)) (Nat.le_succ _) (excN_ok he rfl rfl rfl)
theorem run_exc {k:Nat} {fd:FuncData} {ps:List Str} {sp:Sp} {Q:VK} {us:List Value} {vs:List V} (c:XIni X.K X.mg x C CE f) (F:FnOk X.prog X.w X.K X.mg X.base CX0 k f fd ps sp) (hr:Room (k + 1) X.A) (hb:Binds X.K fd ps []) (I:Inv X pins σ H s) (r:Vals vs us) (hz:us.length ≤ sizeLine)
    (h:∀ e,H e = none → X.s₀.heap.objs.size ≤ e → sp (.ref e :: vs) (upd H e (excN e C none)) (fun v H2 => v = .non ∧ Q (.ref e) H2) E0):wpAny (model X.prog X.w) X.A (call (.ref C) us) (EP X pins σ Q) X.xe s:=by
  have hq:=h (s.heap.objs.size + 1) (I.hok.fresh (Nat.le_succ _)) (Nat.le_trans I.sz (Nat.le_succ _))
  have I2:=Inv.exc (C:=C) I us
  have r2:Vals (V.ref (s.heap.objs.size + 1) :: vs) (Value.ref (s.heap.objs.size + 1) :: us):=.cons rfl r
  have hl:(Value.ref (s.heap.objs.size + 1) :: us ++ ([]:List Value)).length = ps.length:=by
    have e:=r2.length
    rw [F.len _ _ _ _ hq] at e
    rw [List.append_nil]
    exact e.symm
  have hb':=hb _ (Value.ref (s.heap.objs.size + 1) :: us) I2.kIn hl
  rw [List.append_nil] at hb'
  refine wpAny_call (exc_make I.kIn c hz (codeAny_mono (F.run _ X.stack _ _ ⟨Value.ref (s.heap.objs.size + 1) :: us,[]⟩ (Value.ref (s.heap.objs.size + 1) :: us) _ _ E0 (hr.make C us []) (I2.env0.make C us []) hb' r2 hq) fun r s' hq' => ?_))
  cases r with
  | error e => exact False.elim hq'
  | ok fl =>
    cases fl with
    | ret u =>
      obtain ⟨v,H',I3,rv,ev,q3⟩:=I2.after hq'
      subst ev
      exact ⟨rv,⟨V.ref (s.heap.objs.size + 1),H',I3,rfl,q3⟩⟩
    | next => exact False.elim hq'
    | brk => exact False.elim hq'
    | cont => exact False.elim hq'
theorem Inv.hide {od:Option Addr} (I:Inv X pins σ (upd H e (excN e C od)) s) (hn:H e = none) (hs:X.s₀.heap.objs.size ≤ e):Inv X pins σ H { s with heap:=PySem.W.hideAll s.heap [e] }:=by
  have up:∀ {b u},b ≠ e → upd H e (excN e C od) b = u → H b = u:=fun hb q => by rw [upd_ne hb] at q; exact q
  have ne0:∀ b o,X.s₀.heap.get? b = some o → b ≠ e:=fun b o q z => by subst z; exact absurd (Heap.lt_size q) (Nat.not_lt.mpr hs)
  have hid:∀ {b o},b ≠ e → s.heap.get? b = some o → (PySem.W.hideAll s.heap [e]).get? b = some o:=fun hb q => PySem.W.hideAll_get _ q (fun m => hb (List.mem_singleton.mp m))
  have nx:∀ {b},upd H e (excN e C od) b = none → b ≠ e:=fun q z => by subst z; rw [upd_same] at q; cases q
  have nk:∀ {b u},upd H e (excN e C od) b = some u → excN e C od ≠ u → b ≠ e:=fun q d z => by subst z; rw [upd_same] at q; exact d (Option.some.inj q)
  have ib:=I.base
  refine ⟨I.ok,I.os,I.bare,⟨fun b o q n hb hx => hid (ne0 b o q) (ib.keep b o q n hb hx),fun b o q n hb hx => ?_,fun b o q n hx => up (ne0 b o q) (ib.free b o q n hx),fun b o q hx => ?_,fun b xs q => ?_,fun b o u q => ?_,fun b ps q => ?_⟩,?_,fun y c q => ?_,up (nx I.free) I.free,fun y c q => up (nx (I.freeC y c q)) (I.freeC y c q),fun p hp => ?_,fun b u q => ?_,I.len⟩
  · obtain ⟨sl,z⟩:=ib.slot b o q n hb hx
    exact ⟨sl,hid (ne0 b o q) z⟩
  · obtain ⟨o',z⟩:=ib.there b o q hx
    exact ⟨o',hid (ne0 b o q) z⟩
  · have z:=ib.tups b xs q
    exact up (nk z (by intro y; cases y)) z
  · have z:=ib.frzs b o u q
    exact up (nk z (by intro y; cases y)) z
  · obtain ⟨m,z⟩:=ib.tbls b ps q
    exact ⟨m,up (nk z (by intro y; cases y)) z⟩
  · obtain ⟨m,⟨o,es,ep,z,r⟩,lk⟩:=I.loc
    refine ⟨m,⟨o,es,ep,hid (nx I.free) z,r⟩,fun i y v a b c => ?_⟩
    obtain ⟨u,ru,l⟩:=lk i y v a b c
    refine ⟨u,ru,?_⟩
    rcases l with l | ⟨l1,cc,l2,oc,l3,l4⟩
    · exact .inl l
    · exact .inr ⟨l1,cc,l2,oc,hid (nx (I.freeC _ _ l2)) l3,l4⟩
  · obtain ⟨v0,oc,k3,k4⟩:=I.cell y c q
    exact ⟨v0,oc,hid (nx (I.freeC _ _ q)) k3,k4⟩
  · obtain ⟨a,b,c,d,g⟩:=I.pin p hp
    exact ⟨hid (nx b) a,up (nx b) b,c,d,g⟩
  · have hb:b ≠ e:=fun z => by subst z; rw [hn] at q; cases q
    refine (I.hok b u (by rw [upd_ne hb]; exact q)).stay (fun c v hc z => ?_) (fun c z => up (nk z (by intro y; cases y)) z) (fun c ys z => up (nk z (by intro y; cases y)) z)
    refine hid ?_ z
    rcases hc with rfl | hc
    · exact hb
    · exact nk hc (by intro y; cases y)
end
section
variable {M:Model} {A:Around} {E:Value → Shared → Prop} {s:Shared} {P:Program} {w:World} {env:Env} {outer:List Env} {H:Hp} {L e t:Addr} {cls:Value} {dd:Option Addr} {Q:Unit → Shared → Prop} {B0:Heap}
theorem tracked_at {s0:Heap} (hok:HOk P w H s0) {b:Addr} {u:HO} (q:H b = some u):∃ o,s0.get? b = some o:=by
  have z:=hok b u q
  cases u with
  | lst xs => obtain ⟨_,_,_,_,z⟩:=z; exact ⟨_,z⟩
  | tup xs => obtain ⟨_,_,_,o,z,_⟩:=z; exact ⟨_,z⟩
  | dK kvs => obtain ⟨_,_,_,_,o,_,_,z,_⟩:=z; exact ⟨_,z⟩
  | dT kvs => obtain ⟨_,_,_,_,o,_,_,z,_⟩:=z; exact ⟨_,z⟩
  | set S n => obtain ⟨o,_,_,_,z,_⟩:=z; exact ⟨_,z⟩
  | ins C dx fs => obtain ⟨_,_,_,z,_⟩:=z; exact ⟨_,z⟩
  | own y => obtain ⟨_,z⟩:=z; exact ⟨_,z⟩
  | xd fs => obtain ⟨_,⟨_,_,_,z,_⟩,_⟩:=z; exact ⟨_,z⟩
  | rng lo hi => obtain ⟨_,_,_,z⟩:=z; exact ⟨_,z⟩
  | frz ob v => obtain ⟨z,_⟩:=z; exact ⟨_,z⟩
  | tbl ps => exact ⟨_,(show s0.get? b = some _ from z)⟩
  | met f y => exact ⟨_,(show s0.get? b = some _ from z)⟩
  | ext φ => obtain ⟨_,⟨_,z⟩,_⟩:=z; exact ⟨_,z⟩
theorem air_newD {s0:Heap} {oe:Obj} (hok:HOk P w H s0) (fl0:s0.FunFrames B0 (env :: outer)) (kp:∀ b o,s0.get? b = some o → s.heap.get? b = some o) (ne:s0.get? e = none) (he:s.heap.get? e = some oe) (hc:oe.cls = cls) (hdd:oe.dict = dd) (hv:oe.data = .fields #[.ref t,.none,.none,.none,.bool false,.none])
    (hn:∀ b ∈ frs (env :: outer),H b = none) (hfr:A.frames = some (env :: outer)) (hf:env.frame = some L)
    (k:∀ h',Air P w (PySem.W.hideAll s0 (frs (env :: outer))) (env :: outer) H h' e t cls dd (rawInt L) → s0.UpToSlots h' → Q () { s with heap:=h' }):wpAny M A (noteFrame (.ref e) env) Q E s:=by
  have st0:(PySem.W.hideAll s0 (frs (env :: outer))).StaysIn s0:=fun b o q => PySem.W.of_hideAll _ q
  have st:(PySem.W.hideAll s0 (frs (env :: outer))).StaysIn s.heap:=fun b o q => kp b o (st0 b o q)
  have tk:∀ b u,H b = some u → ∃ o,(PySem.W.hideAll s0 (frs (env :: outer))).get? b = some o:=fun b u q => by
    obtain ⟨o,ho⟩:=tracked_at hok q
    exact ⟨o,PySem.W.hideAll_get _ ho fun hm => by rw [hn b hm] at q; cases q⟩
  have nb:(PySem.W.hideAll s0 (frs (env :: outer))).get? e = none:=by
    cases q:(PySem.W.hideAll s0 (frs (env :: outer))).get? e with
    | none => rfl
    | some o => have:=st0 e o q; rw [ne] at this; cases this
  have fl1:s0.FunFrames (PySem.W.hideAll s0 (frs (env :: outer))) (env :: outer):=PySem.W.funFrames_hide fl0 fun y hy a ha => List.mem_filterMap.mpr ⟨y,hy,ha⟩
  refine note_first hfr (frames_up (.of_keeps kp) fl1) hf he st nb hv rfl rfl fun h' st' fr tr up => ?_
  rw [hc,hdd] at tr
  exact k h' ⟨hok_in hok st0 st' tk,st',nb,fr,tr,tk⟩ ((Heap.UpToSlots.of_keeps kp).trans up)
def RaiseOkD (X:Cx) (E:XK):Prop:=∀ (pins:List (Addr × Obj)) (σ:St) (H:Hp) (s:Shared) (h':Heap) (e t:Addr) (oe:Obj) (cls:Value) (dd:Option Addr),Inv X pins σ H s → (∀ b o,s.heap.get? b = some o → h'.get? b = some o) → s.heap.get? e = none → h'.get? e = some oe → oe.cls = cls → oe.dict = dd → oe.data = .fields #[.ref t,.none,.none,.none,.bool false,.none] → E cls dd H → X.xe (.ref e) { s with heap:=h' }
end
section
variable {P:Program} {w:World} {K:PySem.W.Frag} {mg:Str → Option Value} {base:Heap} {N:List Str} {qual:Str} {scope:Scope} {f:Addr} {cd:Value} {A:Around} {outer:List Env} {s:Shared} {H:Hp} {E:XK}
theorem raiseED:RaiseOkD (cxX P w K mg base N qual scope f cd A outer s H E) E:=by
  intro pins σ H1 s1 h' e t oe cls dd I kp ne he hc hdd hv q
  show wpAny (model P w) (A.deeper (envOfC qual scope s.heap.objs.size f cd)) (leaving (envOfC qual scope s.heap.objs.size f cd) (.ref e)) _ _ _
  have hfr:=I.ok.frames
  unfold leaving
  refine wpAny_bind (air_newD (s:={ s1 with heap:=h' }) I.hok I.stack kp ne he hc hdd hv I.stkFree hfr rfl fun h2 a2 u2 => ?_)
  refine Air.off (s:={ s1 with heap:=h2 }) a2 fun h3 a3 u3 => ?_
  obtain ⟨_,_,fr⟩:=a3.fr
  have fr0:s1.heap.FunFrames (PySem.W.hideAll s1.heap (frs (cxX P w K mg base N qual scope f cd A outer s H E).stack)) (cxX P w K mg base N qual scope f cd A outer s H E).stack:=PySem.W.funFrames_hide I.stack fun y hy a ha => List.mem_filterMap.mpr ⟨y,hy,ha⟩
  obtain ⟨u,i1,i2⟩:=un_left I rfl rfl rfl .refl fr0 (u2.trans u3) a3.st (fun b o e _ hb => PySem.W.hideAll_get _ e hb) (fun b o e hb => ⟨o,PySem.W.hideAll_get _ e hb⟩)
  exact ⟨e,t,cls,dd,H1,_,rfl,I.os,I.bare,u,⟨a3.hok,a3.st,a3.nb,fr,a3.tr,a3.tk⟩,i1,i2,q⟩
end
end L2
set_option maxHeartbeats 1000000
namespace L2
open PySem PySem.Spec PyProof.Rows
section
variable {M:Model} {A:Around} {E:Value → Shared → Prop} {env:Env} {nm qn:Str} {C N:Addr} {bs bm:List Value} {hdct:Bool} {sn:List Str} {sub:List Value} {ab:Bool} {col:Option Bool} {dd:Option Addr} {k0 k1 k2 k3 k5:Option Value} {newId:String}
theorem raise_made {s:Shared} {x:Sem Value} {Q:Flow → Shared → Prop} (hbase:bm.contains (.type "BaseException") = true) (hh:A.handled = none)
    (h:wpAny M A x (fun v s1 => ∃ e oe,v = .ref e ∧ s1.heap.get? C = some (excClassObj nm qn C N bs bm hdct sn sub ab col dd k0 k1 k2 k3 k5 newId) ∧ s1.heap.get? e = some oe ∧ oe.cls = .ref C ∧ (∃ t,oe.data = .fields #[.ref t,.none,.none,.none,.bool false,.none]) ∧ E (.ref e) s1) E s):wpAny M A (raiseStmt env (some x) none) Q E s:=by
  have hcB:(Value.ref C :: bm).contains (.type "BaseException") = true:=by rw [List.contains_cons,hbase,Bool.or_true]
  unfold raiseStmt
  refine wpAny_bind (wpAny_mono h (fun v s1 h1 => ?_) fun _ _ y => y)
  obtain ⟨e,oe,rfl,hC,he,hc,⟨ta,hv⟩,hE⟩:=h1
  obtain ⟨hp,g,d,tk,os⟩:=s1
  obtain ⟨oc,od,odt,osl⟩:=oe
  dsimp only at hc hv
  subst hc hv
  repeat (first | with_reducible refine wpAny_loadPart_at he ?_ | with_reducible refine wpAny_loadPart_at hC ?_ | (with_reducible refine wpAny_isSubtype_exc hC ?_; rw [hcB]) | wp_step)
  exact wpAny_raiseNew_none hh hE
end
section
variable {X:Cx} {k:Nat} {C CE f:Addr} {fd:FuncData} {ps:List Str} {sp:Sp} {x:Str} {p pos np cpos:Pos} {e:Expr} {es:List Expr} {t:TA}
def tMakeE (X:Cx) (C:Addr) (sp:Sp) (t:TA):TE:=fun σ H Q => t σ H fun vs H1 => vs.length ≤ 1000 ∧ ∀ a,H1 a = none → X.s₀.heap.objs.size ≤ a → sp (.ref a :: vs) (upd H1 a (excN a C none)) (fun v H2 => v = .non ∧ Q (.ref a) H2) E0
theorem pe_makeE (c:XIni X.K X.mg x C CE f) (F:FnOk X.prog X.w X.K X.mg X.base CX0 k f fd ps sp) (hb:Binds X.K fd ps []) (hr:Room (k + 1) X.A) (hg:Gl X x) (ha:PA X (e :: es) t) (hdb:(x == ("__debug__" : Str)) = false:=by decide)
    (he:starEach (e :: es) X.env = (false,eval e X.env) :: starEach es X.env:=by rfl) (hpl:(backTo pos (starEach es X.env)).any (·.1) = false:=by rfl):PE X (.Call (.Name x p) (e :: es) [] pos) (tMakeE X C sp t):=by
  intro pins s σ H Q I h
  refine wpAny_Call_Name_kw (ld_glob I hg c.mgx ?_ hdb)
  refine PySem.W.callWith_K (h₀:=X.base) I.ok.mod.kin c.kp (thn (ha pos pins s σ H _ I h) fun us s1 ⟨vs,H1,I1,r,hz,q⟩ => ⟨I1.kIn,?_⟩) he hpl
  exact run_exc c F hr hb I1 r (by rw [List.nil_append,← r.length]; exact Nat.le_of_lt (small1000 hz)) q
theorem ps_raiseI {E:XK} (c:XIni X.K X.mg x C CE f) (F:FnOk X.prog X.w X.K X.mg X.base CX0 k f fd ps sp) (hb:Binds X.K fd ps []) (hR:RaiseOkD X E) (hcalm:X.calm = true) (hr:Room (k + 1) X.A) (hg:Gl X x) (ha:PA X (e :: es) t) (hdb:(x == ("__debug__" : Str)) = false:=by decide)
    (he:starEach (e :: es) X.env = (false,eval e X.env) :: starEach es X.env:=by rfl) (hpl:(backTo cpos (starEach es X.env)).any (·.1) = false:=by rfl) :
    PS X (.Raise (some (.Call (.Name x np) (e :: es) [] cpos)) none pos) (fun _ σ H => tMakeE X C sp t σ H fun v H2 => ∃ a od H3,v = .ref a ∧ X.s₀.heap.objs.size ≤ a ∧ H2 = upd H3 a (excN a C od) ∧ H3 a = none ∧ E (.ref C) od H3):=by
  intro pins s σ H D I h
  obtain ⟨nm,qn,N,bs,sn,sub,ab,col,dd,k0,k1,k2,k3,k5,hC⟩:=ownExc_obj (I.ok.mod.kin) c.own
  rw [arm_exec_Raise]
  refine wpAny_bind (wpAny_standAt ?_)
  show wpAny _ _ (raiseStmt X.env (some _) none) _ _ _
  refine raise_made (C:=C) (nm:=nm) (qn:=qn) (N:=N) (bs:=bs) (bm:=.ref CE :: bmV) (hdct:=true) (sn:=sn) (sub:=sub) (ab:=ab) (col:=col) (dd:=dd) (k0:=k0) (k1:=k1) (k2:=k2) (k3:=k3) (k5:=k5) (newId := "ValueError.__new__") rfl (I.ok.hd hcalm) ?_
  refine wpAny_bind (wpAny_mono (pe_makeE (pos:=cpos) (p:=np) c F hb hr hg ha hdb he hpl pins s σ H _ I h) (fun v s3 h3 => wpAny_bind (wpAny_standAt (wpAny_pure ?_))) fun _ _ y => y)
  obtain ⟨V',H2,I3,rv,a,od,H3,rfl,hs,rfl,hn,q⟩:=h3
  cases rv
  obtain ⟨⟨oe,ta,he',hc,hd,hv⟩,_⟩:=I3.hok a _ upd_same
  refine ⟨a,oe,rfl,I3.bk _ _ hC,he',hc,⟨ta,hv⟩,?_⟩
  have hid:(PySem.W.hideAll s3.heap [a]).get? a = none:=PySem.W.hideAll_none _ (List.mem_singleton.mpr rfl)
  exact hR pins σ H3 { s3 with heap:=PySem.W.hideAll s3.heap [a] } s3.heap a ta oe (.ref C) od (I3.hide hn hs) (fun b o q => PySem.W.of_hideAll _ q) hid he' hc hd hv q
end
section
variable {X:Cx} {e:Expr} {te:TE} {c1 c2:Str} {p1 p2 p3 pos:Pos}
theorem pe_fmt3 {j1 j2} (he:PE X e te) (hz:(Str.empty ++ c1).length ≤ sizeLine:=by decide):PE X (.JoinedStr [.Constant (.str c1) j1 p1,.FormattedValue e (-1) none p2,.Constant (.str c2) j2 p3] pos)
    (fun σ H Q => te σ H fun x H1 => ∃ r:Int,x = .int r ∧ r.natAbs.log2 < 1920 ∧ (Str.empty ++ c1 ++ (toString r:String)).length ≤ sizeLine ∧ (Str.empty ++ c1 ++ (toString r:String) ++ c2).length ≤ sizeLine ∧ Q (.str (Str.empty ++ c1 ++ (toString r:String) ++ c2)) H1):=by
  intro pins s σ H Q I h
  refine JoinedStr_many (joinParts_cons (Calls.Constant_str ⟨hz,joinParts_cons (FormattedValue_plain (thn (he pins _ σ H _ (I.tok _) h) fun v s1 ⟨y,H1,I1,ry,r,ey,hl,z2,z3,q⟩ => ?_))⟩))
  subst ey
  obtain ⟨tk,rfl⟩:=ry
  refine formatField_int_small hl ⟨z2,joinParts_cons (Calls.Constant_str ⟨z3,joinParts_nil ⟨.str _,H1,?_,⟨_,rfl⟩,q⟩ z3⟩)⟩
  exact I1.tok _
structure XUp (K:PySem.W.Frag) (mg:Str → Option Value) (x:Str) (CE:Addr):Prop where
  mgx:mg x = some (.ref CE)
  sg:PySem.W.specialIn K (.ref CE) "__getattribute__" = some (some (.builtin "type.__getattribute__"))
  rd:PySem.W.readsIn K CE (.type "type") = true
  fc:PySem.W.findCls K (.ref CE) (.type "type") "__init__" = some (.val (.builtin "ValueError.__init__"))
theorem pe_excInit {x y:Str} {C CE f:Addr} {e1 e2:Expr} {t:TA} {p apos pos:Pos} {pl:Sem Bool} (u:XUp X.K X.mg x CE) (c:XIni X.K X.mg y C CE f) (hg:Gl X x) (ha:PA X [e1,e2] t) (hdb:(x == ("__debug__" : Str)) = false:=by decide)
    (hs:starEach [e1,e2] X.env = (false,eval e1 X.env) :: starEach [e2] X.env:=by rfl) (hplain:(backTo pos (starEach [e2] X.env)).any (·.1) = false:=by rfl)
    (ht:eval (.Call (.Attribute (.Name x p) "__init__" apos) [e1,e2] [] pos) X.env = (do
      let ov ← eval (.Name x p) X.env
      standAt apos.atName
      let (f,first) ← holding [ov] (getMethod ov "__init__" pl)
      callWith pos f first (backTo pos (starEach [e1,e2] X.env)) (backToKw pos (keywordEach [] X.env))):=by rfl) :
    PE X (.Call (.Attribute (.Name x p) "__init__" apos) [e1,e2] [] pos) (fun σ H Q => t σ H fun vs H1 => ∃ a z,vs = [.ref a,.str z] ∧ H1 a = some (excN a C none) ∧ Q .non H1):=by
  intro pins s σ H Q I h
  refine PySem.W.methodCall_KW (pl:=pl) (ld_glob I hg u.mgx ?_ hdb) ht
  refine PySem.W.method_cls I.kIn u.sg (PySem.W.cls_value I.kIn u.rd u.fc rfl ?_)
  rw [hs]
  refine Calls.callWith_builtin (by show (false || (backTo pos (starEach [e2] X.env)).any (·.1)) = false; rw [hplain] <;> rfl) (Calls.evalArgs_plain ?_)
  have hA:=ha pos pins _ σ H _ (I.tok (s.toks + 1)) h
  rw [hs] at hA
  refine thn hA fun us s2 ⟨vs,H2,I2,r2,a,z,ev,hH,q2⟩ => ?_
  subst ev
  obtain ⟨u1,u2,rfl,r3,r4⟩:=vals2 r2
  cases r3
  obtain ⟨nm,qn,N,bs,sn,sub,ab,col,dd,k0,k1,k2,k3,k5,hC⟩:=ownExc_obj I2.kIn c.own
  have T:OwnTail s2.heap bmV (.ref CE :: bmV):=PySem.W.tail_of_in I2.kIn c.tail
  obtain ⟨⟨oe,ta,he,hc,hd,hv⟩,_⟩:=I2.hok a _ hH
  have FV:=PySem.F.excBase_ValueError
  obtain ⟨hp,g,d,tk,os⟩:=s2
  refine wpAny_call (codeAny_call_builtin FV.init.plain FV.initEntry (wpAny_check_init_subT FV T hC he hc ?_))
  obtain ⟨oc,od,odt,osl⟩:=oe
  dsimp only at hc hd hv
  subst hc hd hv
  wp_walk
  have eH:upd H2 a (excN a C none) = H2:=by
    funext b
    by_cases hb:b = a
    · subst hb; rw [upd_same]; exact hH.symm
    · rw [upd_ne hb]
  have h1:=Heap.get?_push_of_some { cls:=.type "tuple", data:=.seq #[u2] } he
  have ga:=Heap.get?_update_self (fun o => Obj.mapFields (fun x => x.setIfInBounds 0 (Value.ref hp.objs.size)) o) h1 (Obj.isFreed_of_fields (Obj.data_mapFields rfl _))
  have I4:=I2.write (x:=a) (e:=a) (o:=excN a C none) (t':=tk) (by rw [hH]; exact True.intro) (.inl rfl) (h':=(hp.push { cls:=.type "tuple", data:=.seq #[u2] }).update a (fun o => Obj.mapFields (fun x => x.setIfInBounds 0 (Value.ref hp.objs.size)) o))
    (fun b u hb q => by rw [Heap.get?_update_ne _ _ _ _ hb]; exact Heap.get?_push_of_some _ q) ⟨_,ga⟩ (excN_ok (t:=hp.objs.size) ga rfl rfl rfl)
  rw [eH] at I4
  exact ⟨.non,H2,I4,rfl,q2⟩
theorem ps_fldE {x:Str} {C CE fi:Addr} {o value:Expr} {ta tv:TE} {f:Str} {pos':Pos} (c:XIni X.K X.mg x C CE fi) (hna:PySem.W.findIn X.K (.ref C) f = some none) (ha:PE X o ta) (hv:PE X value tv) (hs:swapsWith value (some (.Attribute o f pos')) pos.line X.env = pure false) :
    PS X (.Assign [.Attribute o f pos'] value pos) (fun D σ H => tv σ H fun y H1 => ta σ H1 fun z H2 => ∃ a,z = .ref a ∧ H2 a = some (excN a C none) ∧ ∀ d,H2 d = none → D.nx σ (upd (upd H2 d (.xd [(f,y)])) a (excN a C (some d)))):=by
  intro pins s σ H D I h
  refine plainObj_wpAny_Assign_Attribute (thn (hv pins s σ H _ I h) fun u s1 ⟨y,H1,I1,ry,q⟩ => thn (ha pins s1 σ H1 _ I1 q) fun ov s2 ⟨z,H2,I2,rz,a,ez,hH,q2⟩ => ?_) hs
  subst ez
  obtain rfl:ov = Value.ref a:=rz
  obtain ⟨⟨oe,ta',he,hc,hd,hv'⟩,_⟩:=I2.hok a _ hH
  obtain ⟨hp,g,dr,tk,os⟩:=s2
  refine exc_set I2.kIn c he hc hd hv' hna fun h2 tk2 kp ge nd => ?_
  have nD:H2 hp.objs.size = none:=I2.hok.fresh (Nat.le_refl _)
  have nad:a ≠ hp.objs.size:=Nat.ne_of_lt (Heap.lt_size he)
  have I3:Inv X pins σ (upd (upd H2 hp.objs.size (.xd [(f,y)])) a (excN a C (some hp.objs.size))) ⟨h2,g,dr,tk2,os⟩:=by
    have na:∀ {b u},H2 b = u → some (excN a C none) ≠ u → b ≠ a:=fun q d z => by subst z; exact d (hH.symm.trans q)
    have nd':∀ {b u},H2 b = some u → b ≠ hp.objs.size:=fun q z => by subst z; rw [nD] at q; cases q
    have to:∀ {b u},H2 b = u → b ≠ a → b ≠ hp.objs.size → upd (upd H2 hp.objs.size (.xd [(f,y)])) a (excN a C (some hp.objs.size)) b = u:=fun q n1 n2 => by rw [upd_ne n1,upd_ne n2]; exact q
    have nh:∀ {b o},hp.get? b = some o → b ≠ hp.objs.size:=fun q => Nat.ne_of_lt (Heap.lt_size q)
    refine I2.un ⟨fun b o q n _ _ => kp b o (na n (by intro z; cases z)) q,fun b o q n _ _ => ⟨o.slots,kp b o (na n (by intro z; cases z)) q⟩,fun b o q n _ => to n (na n (by intro z; cases z)) (nh q),fun b o q _ => ?_,fun b xs q => to q (na q (by intro z; cases z)) (nd' q),fun b o v q => to q (na q (by intro z; cases z)) (nd' q),fun b ps q => ⟨#[],by rw [Array.append_empty]; exact to q (na q (by intro z; cases z)) (nd' q)⟩⟩ fun b v q => ?_
    · by_cases hb:b = a
      · subst hb; exact ⟨_,ge⟩
      · exact ⟨o,kp b o hb q⟩
    · by_cases hb:b = a
      · subst hb
        rw [upd_same] at q
        cases q
        exact excN_ok ge hc rfl hv'
      · rw [upd_ne hb] at q
        by_cases hb2:b = hp.objs.size
        · subst hb2
          rw [upd_same] at q
          cases q
          refine ⟨_,nd,fun gg => ?_⟩
          by_cases e:gg = f
          · subst e
            rw [if_pos rfl]
            have:([(gg,y)]:List (Str × V)).lookup gg = some y:=by simp [List.lookup]
            rw [this]
            exact ry
          · rw [if_neg e]
            have:([(f,y)]:List (Str × V)).lookup gg = none:=by simp [List.lookup,beq_eq_false_iff_ne.mpr e]
            rw [this]
            trivial
        · rw [upd_ne hb2] at q
          refine (I2.hok b v q).stay (fun cc w' hcc z => kp cc w' ?_ z) (fun cc z => to z (na z (by intro y; cases y)) (nd' z)) (fun cc ys z => to z (na z (by intro y; cases y)) (nd' z))
          rcases hcc with rfl | hcc
          · exact hb
          · exact na hcc (by intro y; cases y)
  exact ⟨σ,_,I3,q2 _ nD⟩
theorem pe_fldE {C:Addr} {o:Expr} {to:TE} {f:Str} (c:XCls X.K C) (hna:PySem.W.findIn X.K (.ref C) f = some none) (ho:PE X o to) (hb:attributeBase o f X.env (eval o X.env) = eval o X.env) :
    PE X (.Attribute o f pos) (fun σ H Q => to σ H fun z H1 => ∃ a d fs v,z = .ref a ∧ H1 a = some (excO a C (some d)) ∧ H1 d = some (.xd fs) ∧ fs.lookup f = some v ∧ Q v H1):=by
  intro pins s σ H Q I h
  refine attr_of hb (thn (ho pins s σ H _ I h) fun u s1 ⟨z,H1,I1,rz,a,d,fs,v,ez,hH,hD,l,q⟩ => ?_)
  subst ez
  obtain rfl:u = Value.ref a:=rz
  obtain ⟨⟨oe,vs,he,hc,hd,hv⟩,_⟩:=I1.hok a _ hH
  obtain ⟨mA,nn,r⟩:=I1.hok d _ hD
  obtain ⟨u',hu,ru⟩:=RelO.some_of (v:=v) (o:=mA f) (by rw [← l]; exact r f)
  obtain ⟨od,hod,hl⟩:=lookIn_ns nn
  have J:PySem.W.InstAt s1.heap a oe C (some od):=⟨he,hc,by unfold PySem.W.notCls; rw [hv],by rw [hd]; exact hod⟩
  exact exc_get c I1.kIn J (PySem.W.findObj_own c.hd hna rfl (by rw [hl,hu])) (handed_of ru) ⟨v,H1,I1.tok _,ru,q⟩
end
end L2
set_option maxHeartbeats 1000000
namespace L2
open PySem PySem.Spec PyProof.Rows
section
variable {X:Cx} {e1:Expr} {ta:TA} {p p2 pos pos2:Pos}
end
end L2
namespace L2
open PySem PySem.Spec PyProof.Rows
section
variable {X:Cx}
theorem call_isinstD {C:Addr} (c:XCls X.K C):CallR X (.builtin "isinstance") (fun xs H Q => ∃ e d fs y b,xs = [.ref e,y] ∧ H e = some (excO e C (some d)) ∧ H d = some (.xd fs) ∧ AskC X.K H (.ref C) y b ∧ Q (.bl b) H):=by
  intro pins s σ H xs us Q I r h
  obtain ⟨e,d,fs,y,b,rfl,he,hD,ask,q⟩:=h
  obtain ⟨u,w',rfl,r1,r2⟩:=vals2 r
  have fin:∀ tk,EP X pins σ Q (.bool b) { s with toks:=tk }:=fun tk => ⟨.bl b,H,I.tok _,rfl,q⟩
  cases (show u = Value.ref e from r1)
  obtain ⟨⟨oe,vs,a1,a2,a3,a4⟩,_⟩:=I.hok e _ he
  obtain ⟨mA,nn,_⟩:=I.hok d _ hD
  obtain ⟨od,hod,_⟩:=lookIn_ns nn
  obtain ⟨G,Z,g,hb⟩:∃ G:Heap → Prop,PySem.W.KitX X.K (.ref e) (.ref C) G ∧ G s.heap ∧ (Value.ref e) ≠ .builtin "__main__.__loader__#opaque" := by
    refine ⟨_,kitx_exc c,⟨oe,some od,a1,a2,?_,?_⟩,fun z => nomatch z⟩
    · unfold PySem.W.notCls; rw [a4]
    · rw [a3]; exact hod
  cases ask with
  | ty k => cases (show w' = Value.type _ from r2); exact PySem.W.kia_one Z I.kIn g k hb fin
  | ref k => cases (show w' = Value.ref _ from r2); exact PySem.W.kia_one Z I.kIn g k hb fin
  | @tup tp cs b ht k =>
    cases (show w' = Value.ref tp from r2)
    obtain ⟨_,its,rv,o,h1,h2,n,h3⟩:=(show ObjOk X.prog X.w H s.heap tp (.tup (cs.map V.ref)) from I.hok tp _ ht)
    obtain ⟨oc,od,odt,osl⟩:=o
    dsimp only at h2 h3
    subst h2 h3
    exact PySem.W.kia_tup Z I.kIn g h1 (by rw [vals_refs rv]; exact k) hb fin
end
end L2
set_option maxHeartbeats 1000000
namespace L2
open PySem PySem.Spec PyProof.Rows
section
variable {X:Cx}
def rInsert:V → List V → Hp → VK → Prop:=fun x vs H Q => ∃ l xs y,∃ k:Nat,x = .ref l ∧ vs = [.int (k:Int),y] ∧ H l = some (.lst xs) ∧ k ≤ xs.length ∧ xs.length < 1000 ∧ Q .non (upd H l (.lst (xs.take k ++ y :: xs.drop k)))
theorem mt_insert:MtM X "list.insert" rInsert:=by
  intro pins s σ H x vs v us Q I rx rv h
  obtain ⟨l,xs,y,k,rfl,rfl,hH,hk,hl,q⟩:=h
  cases rx
  obtain ⟨u,u2,rfl,ru,ru2⟩:=vals2 rv
  obtain ⟨t,rfl⟩:=ru
  obtain ⟨z,its,n,r,hl',e⟩:=I.lstM hH
  have big:(1001:Nat) ≤ sizeLine:=by decide
  have fit:¬ (!Builtin.List.listFitsIndex (k:Int)) = true:=by
    have:Builtin.List.listFitsIndex (k:Int) = true:=by
      unfold Builtin.List.listFitsIndex
      rw [Bool.and_eq_true]
      exact ⟨decide_eq_true (by omega),decide_eq_true (by omega)⟩
    rw [this]
    exact Bool.false_ne_true
  have sz:its.toArray.size ≤ sizeLine:=by rw [List.size_toArray]; omega
  generalize hx:(k:Int) = x at *
  have mt:=@PySem.AutoSeq1.list_insert_list_int_val_1 l its.toArray n x t u2 fit sz
  refine call_meets PySem.F.slot_list_insert ⟨_,e,rfl⟩ PySem.F.entry_list_insert (PySem.F.args_list_insert_3 (.ref l) (.int x t) u2) mt ⟨e,?_⟩
  refine ⟨.non,_,I.lset (its':=its.take k ++ u2 :: its.drop k) hH e ?_ ((r.take k).append (.cons ru2 (r.drop k))) ?_,rfl,q⟩
  · dsimp only
    rw [← hx,if_neg (by omega),Int.toNat_natCast,List.size_toArray,Nat.min_eq_left (by omega)]
    exact PySem.W.kl_ins_eq its k u2
  · rw [List.length_append,List.length_cons,List.length_take,List.length_drop]
    omega
end
end L2
namespace My
open PySem L2 PyProof.Rows
def top (i:Nat):Stmt:=PySem.Challenge.pw_turnframe_k72_whole_powers.main.body.getD i (.Pass ⟨0,0,0,0⟩)
abbrev s_NoInverse___init__:Stmt:=inClass (top 7) 0
abbrev s_is_square:Stmt:=top 9
abbrev s_need_square:Stmt:=top 10
abbrev s_unit_row:Stmt:=top 11
abbrev s_unit:Stmt:=top 12
abbrev s_column_at:Stmt:=top 13
abbrev s_turned:Stmt:=top 14
abbrev s_scaled_row:Stmt:=top 15
abbrev s_scaled:Stmt:=top 16
abbrev s_plus_row:Stmt:=top 17
abbrev s_sums_with:Stmt:=top 18
abbrev s_times_table:Stmt:=top 19
abbrev s_evenly_freed:Stmt:=top 20
abbrev s_is_whole:Stmt:=top 23
abbrev s_shares:Stmt:=top 24
abbrev s_less_times:Stmt:=top 25
abbrev s_is_prime:Stmt:=top 26
abbrev s_is_place:Stmt:=top 28
abbrev s_is_turn:Stmt:=top 29
abbrev s_make_turn:Stmt:=top 30
abbrev s_done:Stmt:=top 31
abbrev s_is_idle:Stmt:=top 33
abbrev s_take:Stmt:=top 34
abbrev s_take_bottoms:Stmt:=top 35
abbrev s_first_filled:Stmt:=top 36
abbrev s_empty_column:Stmt:=top 37
abbrev s_emptied:Stmt:=top 38
abbrev s_steps:Stmt:=top 39
abbrev s_inverse:Stmt:=top 41
abbrev s_power_parts:Stmt:=top 43
abbrev s_power:Stmt:=top 44
abbrev s_Kind_common_bottom:Stmt:=inClass (top 46) 2
abbrev s_Rests___init__:Stmt:=inClass (top 47) 0
abbrev s_Rests_number:Stmt:=inClass (top 47) 1
abbrev s_Rests_plus:Stmt:=inClass (top 47) 2
abbrev s_Rests_minus:Stmt:=inClass (top 47) 3
abbrev s_Rests_times:Stmt:=inClass (top 47) 4
abbrev s_Rests_back:Stmt:=inClass (top 47) 5
abbrev s_Rests_sum_of_products:Stmt:=inClass (top 47) 6
abbrev s_Rests_is_nought:Stmt:=inClass (top 47) 7
abbrev s_l_whole:Stmt:=top 49
abbrev s_l_is_prime:Stmt:=top 50
abbrev s_l_prime:Stmt:=top 51
abbrev s_l_table:Stmt:=top 52
abbrev s_l_product:Stmt:=top 53
abbrev s_l_unit:Stmt:=top 54
abbrev s_l_power:Stmt:=top 55
abbrev s_l_rank:Stmt:=top 56
abbrev s_l_is_table:Stmt:=top 57
abbrev s_l_refused:Stmt:=top 58
abbrev s_l_below:Stmt:=top 59
abbrev s_law:Stmt:=top 60
structure Nm (mg:Str → Option Value):Prop where
  abs:mg "abs" = none
  isinstance:mg "isinstance" = none
  int:mg "int" = none
  bool:mg "bool" = none
  tuple:mg "tuple" = none
  list:mg "list" = none
  len:mg "len" = none
  range:mg "range" = none
  PB:∃ t,mg "PRIME_BOUND" = some (.int 1000000 t)
theorem nm_mk {mg:Str → Option Value} {v:Value} (h1:mg "PRIME_BOUND" = some v) (h2:∃ t,v = .int 1000000 t) (a1:mg "abs" = none) (a2:mg "isinstance" = none) (a3:mg "int" = none) (a4:mg "bool" = none) (a5:mg "tuple" = none) (a6:mg "list" = none) (a7:mg "len" = none) (a8:mg "range" = none):Nm mg :=
  ⟨a1,a2,a3,a4,a5,a6,a7,a8,let ⟨t,e⟩:=h2; ⟨t,by rw [h1,e]⟩⟩
structure Kd (K:PySem.W.Frag) (mg:Str → Option Value) (CF CR:Addr):Prop where
  clR:Cls K CR
  nP:NoAttr K CR "prime"
  mgR:mg "Rests" = some (.ref CR)
def fsR (p:Int):List (Str × V):=putF "prime" (.int p) []
theorem fsR_prime (p:Int):(fsR p).lookup ("prime" : Str) = some (.int p):=by
  unfold fsR
  rw [lookup_putF,if_pos rfl]
theorem fsR_no (p:Int) {m:Str} (h:¬ m = "prime"):(fsR p).lookup m = none:=by
  unfold fsR
  rw [lookup_putF,if_neg h]
  rfl
structure Fc (a b:Int):Prop where
  pos:0 < b
  cop:Int.gcd a b = 1
def sp_whole:Sp:=fun vs H Q _ => ∃ i:Int,vs = [.int i] ∧ Q (.bl true) H
section
variable {P:Program} {w:World} {K:PySem.W.Frag} {mg:Str → Option Value} {base:Heap}
theorem sc_is_whole:FnScope ["thing"] ["thing"] (defScope s_is_whole):=⟨rfl,rfl,rfl,by decide +kernel,rfl,by decide +kernel,by decide +kernel⟩
theorem ok_is_whole (h:Here K mg "is_whole" s_is_whole) (T:Nm mg):Has P w K mg base "is_whole" 1 ["thing"] sp_whole:=by
  refine h.has (fun f fd F => F.binds fun _ _ _ _ _ _ us hl => by obtain ⟨_,rfl⟩:=len1 hl; exact rfl) fun f fd F => F.ok sc_is_whole (fun vs H Q E h => ?_) (fun cdv A outer s H vs Q E hr h => ?_)
  · obtain ⟨_,rfl,_⟩:=h
    rfl
  obtain ⟨i,rfl,k⟩:=h
  refine ⟨_,(pss_one (ps_ret (pe_and (pe_callB call_isinst (by rfl) T.isinstance boot_isinstance (pa_cons (pv 0) (pa_cons (pe_ty (by rfl) T.int boot_int) pa_nil))) (pe_one (pe_not (pe_callB call_isinst (by rfl) T.isinstance boot_isinstance (pa_cons (pv 0) (pa_cons (pe_ty (by rfl) T.bool boot_bool) pa_nil)))))))),?_⟩
  refine ⟨_,rfl,_,_,_,_,rfl,.int i,kit_same K _,_,rfl,?_⟩
  refine iteT ?_
  exact ⟨_,rfl,_,_,_,_,rfl,.int i,kit_int_bool K,_,rfl,k⟩
end
section
variable {P:Program} {w:World} {K:PySem.W.Frag} {mg:Str → Option Value} {base:Heap}
theorem sc_l_whole:FnScope ["_law_found"] ["_law_found"] (defScope s_l_whole):=⟨rfl,rfl,rfl,by decide +kernel,rfl,by decide +kernel,by decide +kernel⟩
theorem ok_l_whole (h:Here K mg "_law_whole" s_l_whole) (T:Nm mg):Has P w K mg base "_law_whole" 1 ["_law_found"] sp_whole:=by
  refine h.has (fun f fd F => F.binds fun _ _ _ _ _ _ us hl => by obtain ⟨_,rfl⟩:=len1 hl; exact rfl) fun f fd F => F.ok sc_l_whole (fun vs H Q E h => ?_) (fun cdv A outer s H vs Q E hr h => ?_)
  · obtain ⟨_,rfl,_⟩:=h
    rfl
  obtain ⟨i,rfl,k⟩:=h
  refine ⟨_,(pss_one (ps_ret (pe_and (pe_callB call_isinst (by rfl) T.isinstance boot_isinstance (pa_cons (pv 0) (pa_cons (pe_ty (by rfl) T.int boot_int) pa_nil))) (pe_one (pe_not (pe_callB call_isinst (by rfl) T.isinstance boot_isinstance (pa_cons (pv 0) (pa_cons (pe_ty (by rfl) T.bool boot_bool) pa_nil)))))))),?_⟩
  refine ⟨_,rfl,_,_,_,_,rfl,.int i,kit_same K _,_,rfl,?_⟩
  refine iteT ?_
  exact ⟨_,rfl,_,_,_,_,rfl,.int i,kit_int_bool K,_,rfl,k⟩
end
def sp_prime:Sp:=fun vs H Q _ => ∃ n:Int,vs = [.int n] ∧ n < 1000000 ∧ (M2.Prm n → Q (.bl true) H) ∧ (¬ M2.Prm n → Q (.bl false) H)
section
variable {P:Program} {w:World} {K:PySem.W.Frag} {mg:Str → Option Value} {base:Heap}
theorem sc_is_prime:FnScope ["number", "trial"] ["number"] (defScope s_is_prime):=⟨rfl,rfl,rfl,by decide +kernel,rfl,by decide +kernel,by decide +kernel⟩
theorem ok_is_prime (h:Here K mg "is_prime" s_is_prime) (T:Nm mg):Has P w K mg base "is_prime" 1 ["number"] sp_prime:=by
  refine h.has (fun f fd F => F.binds fun _ _ _ _ _ _ us hl => by obtain ⟨_,rfl⟩:=len1 hl; exact rfl) fun f fd F => F.ok sc_is_prime (fun vs H Q E h => ?_) (fun cdv A outer s H vs Q E hr h => ?_)
  · obtain ⟨_,rfl,_⟩:=h
    rfl
  obtain ⟨n,rfl,hn,kt,kf⟩:=h
  have nd:=sc_is_prime.nd
  obtain ⟨tk,hPB⟩:=T.PB
  refine ⟨_,(pss_cons (ps_if (pw_or (pt_cmpR op_lt (pv 0) pe_int (nomark _)) (pw_or1 (pt_cmpR op_ge (pv 0) (pe_glob (v:=.int 1000000) (by rfl) hPB ⟨tk,rfl⟩) (nomark _)))).pt (pss_one (ps_ret pe_bl)) pss_nil)
    (pss_cons (ps_if (pt_cmpR op_eq (pe_op op_mod (pv 0) pe_int) pe_int (nomark _)) (pss_one (ps_ret (pe_cmpR op_eq (pv 0) pe_int (nomark _)))) pss_nil)
    (pss_cons (ps_set (i:=1) nd rfl (Or.inl rfl) pe_int)
    (pss_cons (ps_while PassesOwn.never (pt_cmpR op_le (pe_op op_mulO (pv 1) (pv 1)) (pv 0) (nomark _)) (pss_cons (ps_if (pt_cmpR op_eq (pe_op op_modN (pv 0) (pv 1)) pe_int (nomark _)) (pss_one (ps_ret pe_bl)) pss_nil)
      (pss_one (ps_aug (i:=1) nd rfl (Or.inl rfl) pe_int ip_add))))
    (pss_one (ps_ret pe_bl)))))),?_⟩
  refine ⟨_,rfl,_,_,rfl,rfl,_,rfl,?_⟩
  refine if_dec (fun h => iteT (kf fun p => by have:=p.1; omega)) (fun h2 => ?_)
  refine ⟨_,rfl,_,_,rfl,rfl,_,rfl,?_⟩
  refine if_dec (fun h => absurd h (by omega)) (fun _ => ?_)
  refine ⟨_,rfl,_,_,rfl,rfl,(by show (0:Int) < _; decide),rfl,_,rfl,?_⟩
  refine if_eqI (fun e => ?_) (fun e => ?_)
  · refine ⟨_,rfl,rfl,?_⟩
    rw [eqI_iff]
    have iff:=M2.prm_even (n:=n) (by omega) e
    by_cases hp:n = 2
    · rw [decide_eq_true hp]; exact kt (iff.mpr hp)
    · rw [decide_eq_false hp]; exact kf fun z => hp (iff.mp z)
  refine ⟨fun m σ H' => ∃ t:Int,m = (n + 2 - t).toNat ∧ σ = [some (.int n),some (.int t)] ∧ H' = H ∧ 3 ≤ t ∧ t % 2 = 1 ∧ t ≤ n + 2 ∧ M2.No n t,⟨_,3,rfl,rfl,rfl,by omega,by omega,by omega,M2.No.odd e⟩,?_⟩
  rintro m σ H' ⟨t,rfl,rfl,rfl,h3,ho,hle,no⟩
  have tf:t.natAbs ≤ 10 ^ 150:=Nat.le_trans (show t.natAbs ≤ 1000002 by omega) (by decide)
  refine ⟨_,rfl,_,rfl,_,_,rfl,rfl,(mul_fit tf tf),_,rfl,_,_,rfl,rfl,_,rfl,?_⟩
  refine if_dec (fun hl => ⟨_,fun _ _ h => h,?_⟩) (fun hl => ?_)
  · refine ⟨_,rfl,_,rfl,_,_,rfl,rfl,(show t ≠ 0 by omega),rfl,_,rfl,?_⟩
    have lt:=M2.le_of_sq (by omega) hl
    refine if_eqI (fun z => kf (M2.found (by omega) hl ((M2.fmod_dvd (by omega)).mp z))) (fun z => ?_)
    refine ⟨_,rfl,_,_,rfl,rfl,?_⟩
    exact ⟨_,by omega,t + 2,rfl,rfl,rfl,by omega,by omega,by omega,no.next e ho fun d => z ((M2.fmod_dvd (by omega)).mpr d)⟩
  · exact kt (no.done (by omega) (by omega) hl)
end
section
variable {P:Program} {w:World} {K:PySem.W.Frag} {mg:Str → Option Value} {base:Heap}
theorem sc_l_is_prime:FnScope ["_law_number", "_law_by"] ["_law_number"] (defScope s_l_is_prime):=⟨rfl,rfl,rfl,by decide +kernel,rfl,by decide +kernel,by decide +kernel⟩
theorem ok_l_is_prime (h:Here K mg "_law_is_prime" s_l_is_prime):Has P w K mg base "_law_is_prime" 1 ["_law_number"] sp_prime:=by
  refine h.has (fun f fd F => F.binds fun _ _ _ _ _ _ us hl => by obtain ⟨_,rfl⟩:=len1 hl; exact rfl) fun f fd F => F.ok sc_l_is_prime (fun vs H Q E h => ?_) (fun cdv A outer s H vs Q E hr h => ?_)
  · obtain ⟨_,rfl,_⟩:=h
    rfl
  obtain ⟨n,rfl,hn,kt,kf⟩:=h
  have nd:=sc_l_is_prime.nd
  refine ⟨_,(pss_cons (ps_set (i:=1) nd rfl (Or.inl rfl) pe_int)
    (pss_cons (ps_while PassesOwn.never (pt_cmpR op_le (pe_op op_mulO (pv 1) (pv 1)) (pv 0) (nomark _)) (pss_cons (ps_if (pt_cmpR op_eq (pe_op op_modN (pv 0) (pv 1)) pe_int (nomark _)) (pss_one (ps_ret pe_bl)) pss_nil)
      (pss_one (ps_set (i:=1) nd rfl (Or.inl rfl) (pe_op op_add (pv 1) pe_int)))))
    (pss_one (ps_ret (pe_cmpR op_gt (pv 0) pe_int (nomark _)))))),?_⟩
  refine ⟨fun m σ H' => ∃ t:Int,m = (n + 2 - t).toNat ∧ σ = [some (.int n),some (.int t)] ∧ H' = H ∧ 2 ≤ t ∧ (t ≤ 2 ∨ t ≤ n) ∧ M2.No n t,⟨_,2,rfl,rfl,rfl,by omega,by omega,M2.No.two⟩,?_⟩
  rintro m σ H' ⟨t,rfl,rfl,rfl,h3,hle,no⟩
  have tf:t.natAbs ≤ 10 ^ 150:=Nat.le_trans (show t.natAbs ≤ 1000002 by omega) (by decide)
  refine ⟨_,rfl,_,rfl,_,_,rfl,rfl,(mul_fit tf tf),_,rfl,_,_,rfl,rfl,_,rfl,?_⟩
  refine if_dec (fun hl => ⟨_,fun _ _ h => h,?_⟩) (fun hl => ?_)
  · refine ⟨_,rfl,_,rfl,_,_,rfl,rfl,(show t ≠ 0 by omega),rfl,_,rfl,?_⟩
    have lt:=M2.le_of_sq (by omega) hl
    refine if_eqI (fun z => kf (M2.found (by omega) hl ((M2.fmod_dvd (by omega)).mp z))) (fun z => ?_)
    refine ⟨_,rfl,_,_,rfl,rfl,?_⟩
    exact ⟨_,by omega,t + 1,rfl,rfl,rfl,by omega,by omega,no.one fun d => z ((M2.fmod_dvd (by omega)).mpr d)⟩
  · refine ⟨_,rfl,_,_,rfl,rfl,?_⟩
    show Q (V.bl (decide (1 < n))) _
    by_cases h2:1 < n
    · rw [decide_eq_true h2]; exact kt (no.done (by omega) (by omega) hl)
    · rw [decide_eq_false h2]; exact kf fun p => by have:=p.1; omega
end
def sp_less_times (K:PySem.W.Frag):Sp:=fun vs H Q _ => ∃ (p r:Addr) (q a0 a1 a2 b0 b1 b2:Int),vs = [.ref p,.int q,.ref r] ∧ SqT K H p [.int a0,.int a1,.int a2] ∧ SqT K H r [.int b0,.int b1,.int b2] ∧
  IntMulOk q b0 ∧ IntMulOk q b1 ∧ IntMulOk q b2 ∧ ∀ t,H t = none → Q (.ref t) (upd H t (.tup [.int (a0 - q * b0),.int (a1 - q * b1),.int (a2 - q * b2)]))
section
variable {P:Program} {w:World} {K:PySem.W.Frag} {mg:Str → Option Value} {base:Heap}
theorem sc_less_times:FnScope ["some", "factor", "others"] ["some", "factor", "others"] (defScope s_less_times):=⟨rfl,rfl,rfl,by decide +kernel,rfl,by decide +kernel,by decide +kernel⟩
theorem ok_less_times (h:Here K mg "less_times" s_less_times):Has P w K mg base "less_times" 1 ["some", "factor", "others"] (sp_less_times K):=by
  refine h.has (fun f fd F => F.binds fun _ _ _ _ _ _ us hl => by obtain ⟨_,_,_,rfl⟩:=len3 hl; exact rfl) fun f fd F => F.ok sc_less_times (fun vs H Q E h => ?_) (fun cdv A outer s H vs Q E hr h => ?_)
  · obtain ⟨_,_,_,_,_,_,_,_,_,rfl,_⟩:=h
    rfl
  obtain ⟨p,r,q,a0,a1,a2,b0,b1,b2,rfl,hp,hq,m0,m1,m2,k⟩:=h
  refine ⟨_,(pss_one (ps_ret (pe_tup (pa_cons (pe_op op_sub (pe_ix ix_tup (pv 0) pe_int (fun _ _ => rfl)) (pe_op op_mulO (pv 1) (pe_ix ix_tup (pv 2) pe_int (fun _ _ => rfl)))) (pa_cons (pe_op op_sub (pe_ix ix_tup (pv 0) pe_int (fun _ _ => rfl)) (pe_op op_mulO (pv 1) (pe_ix ix_tup (pv 2) pe_int (fun _ _ => rfl)))) (pa_cons (pe_op op_sub (pe_ix ix_tup (pv 0) pe_int (fun _ _ => rfl)) (pe_op op_mulO (pv 1) (pe_ix ix_tup (pv 2) pe_int (fun _ _ => rfl)))) pa_nil)))))),?_⟩
  refine ⟨_,rfl,_,_,_,_,rfl,rfl,hp,rfl,_,rfl,_,rfl,_,_,_,_,rfl,rfl,hq,rfl,_,_,rfl,rfl,m0,_,_,rfl,rfl,?_⟩
  refine ⟨_,rfl,_,_,_,_,rfl,rfl,hp,rfl,_,rfl,_,rfl,_,_,_,_,rfl,rfl,hq,rfl,_,_,rfl,rfl,m1,_,_,rfl,rfl,?_⟩
  refine ⟨_,rfl,_,_,_,_,rfl,rfl,hp,rfl,_,rfl,_,rfl,_,_,_,_,rfl,rfl,hq,rfl,_,_,rfl,rfl,m2,_,_,rfl,rfl,?_⟩
  exact ⟨(by show 3 ≤ sizeLine; decide),k⟩
end
def sp_shares:Sp:=fun vs H Q _ => ∃ x y:Int,vs = [.int x,.int y] ∧ x.natAbs ≤ 10 ^ 100 ∧ y.natAbs ≤ 10 ^ 100 ∧
  ∀ (t:Addr) (H':Hp) (u v:Int),Same H H' → H' t = some (.tup [.int (Int.gcd x y),.int u,.int v]) → (Int.gcd x y:Int) = x * u + y * v → u.natAbs ≤ 10 ^ 101 → v.natAbs ≤ 10 ^ 101 → Q (.ref t) H'
section
variable {P:Program} {w:World} {K:PySem.W.Frag} {mg:Str → Option Value} {base:Heap}
theorem sc_shares:FnScope ["one", "other", "upper", "lower", "following"] ["one", "other"] (defScope s_shares):=⟨rfl,rfl,rfl,by decide +kernel,rfl,by decide +kernel,by decide +kernel⟩
theorem ok_shares (h:Here K mg "shares" s_shares) (h_less_times:Has P w K mg base "less_times" 1 ["some", "factor", "others"] (sp_less_times K)):Has P w K mg base "shares" 2 ["one", "other"] sp_shares:=by
  refine h.has (fun f fd F => F.binds fun _ _ _ _ _ _ us hl => by obtain ⟨_,_,rfl⟩:=len2 hl; exact rfl) fun f fd F => F.ok sc_shares (fun vs H Q E h => ?_) (fun cdv A outer s H vs Q E hr h => ?_)
  · obtain ⟨_,_,rfl,_⟩:=h
    rfl
  obtain ⟨x,y,rfl,bx,bY,k⟩:=h
  have nd:=sc_shares.nd
  refine ⟨_,(pss_cons (ps_set (i:=2) nd rfl (Or.inl rfl) (pe_tup (pa_cons (pv 0) (pa_cons pe_int (pa_cons pe_int pa_nil)))))
    (pss_cons (ps_set (i:=3) nd rfl (Or.inl rfl) (pe_tup (pa_cons (pv 1) (pa_cons pe_int (pa_cons pe_int pa_nil)))))
    (pss_cons (ps_while PassesOwn.never (pt_cmpR op_ne (pe_ix ix_tup (pv 3) pe_int (fun _ _ => rfl)) pe_int (nomark _)) (pss_cons (ps_set (i:=4) nd rfl (Or.inl rfl) (pe_has h_less_times hr (by rfl) (pa_cons (pv 2) (pa_cons (pe_op op_fdivO (pe_ix ix_tup (pv 2) pe_int (fun _ _ => rfl)) (pe_ix ix_tup (pv 3) pe_int (fun _ _ => rfl))) (pa_cons (pv 3) pa_nil)))))
      (pss_cons (ps_set (i:=2) nd rfl (Or.inl rfl) (pv 3))
      (pss_one (ps_set (i:=3) nd rfl (Or.inl rfl) (pv 4))))))
    (pss_cons (ps_if (pt_cmpR op_lt (pe_ix ix_tup (pv 2) pe_int (fun _ _ => rfl)) pe_int (nomark _)) (pss_one (ps_ret (pe_has h_less_times hr (by rfl) (pa_cons (pe_tup (pa_cons pe_int (pa_cons pe_int (pa_cons pe_int pa_nil)))) (pa_cons pe_int (pa_cons (pv 2) pa_nil)))))) pss_nil)
    (pss_one (ps_ret (pv 2))))))),?_⟩
  refine ⟨_,rfl,(by show 3 ≤ sizeLine; decide),fun p0 hp0 => ?_⟩
  refine ⟨_,rfl,(by show 3 ≤ sizeLine; decide),fun p1 hp1 => ?_⟩
  have S0:Same H (upd H p0 (.tup [.int x,.int 1,.int 0])):=same_new hp0 _
  have S1:=S0.trans (same_new hp1 (.tup [.int y,.int 0,.int 1]))
  refine ⟨fun m σ H' => ∃ (p r:Addr) (f:Option V) (a u1 v1 b u2 v2:Int),m = b.natAbs ∧ σ = [some (.int x),some (.int y),some (.ref p),some (.ref r),f] ∧ Same H H' ∧ H' p = some (.tup [.int a,.int u1,.int v1]) ∧ H' r = some (.tup [.int b,.int u2,.int v2]) ∧ M1.Sh x y a u1 v1 b u2 v2,
    ⟨_,p0,p1,none,x,1,0,y,0,1,rfl,rfl,S1,by rw [upd_ne (ne_of_none upd_same hp1)]; exact upd_same,upd_same,M1.Sh.start x y⟩,?_⟩
  rintro m σ H' ⟨p,r,f,a,u1,v1,b,u2,v2,rfl,rfl,S,hp,hr',I⟩
  have bd:=I.bound
  have lim:x.natAbs + 2 * y.natAbs + 1 + 1 ≤ 10 ^ 150:=by omega
  have lim0:=Nat.le_of_succ_le lim
  refine ⟨_,rfl,_,_,_,_,rfl,rfl,SqT.of hr',rfl,rfl,_,rfl,?_⟩
  refine if_neI (fun hb => ⟨_,fun _ _ h => h,?_⟩) (fun hb => ?_)
  · refine ⟨_,rfl,_,rfl,_,_,_,_,rfl,rfl,SqT.of hp,rfl,_,rfl,_,_,_,_,rfl,rfl,SqT.of hr',rfl,_,_,rfl,rfl,⟨hb,Nat.le_trans bd.2.2.2.1 lim0⟩,_,rfl,?_⟩
    have fd:=Nat.le_trans (M1.fdiv_small a hb) (Nat.le_trans (Nat.succ_le_succ bd.1) lim)
    refine ⟨p,r,a.fdiv b,a,u1,v1,b,u2,v2,rfl,SqT.of hp,SqT.of hr',mul_fit fd (Nat.le_trans bd.2.2.2.1 lim0),mul_fit fd (Nat.le_trans bd.2.2.2.2.1 lim0),mul_fit fd (Nat.le_trans bd.2.2.2.2.2 lim0),fun t ht => ?_⟩
    refine ⟨_,rfl,_,rfl,?_⟩
    exact ⟨_,(by rw [M1.rest_eq]; exact M1.fmod_lt a hb),r,t,_,b,u2,v2,_,_,_,rfl,rfl,S.trans (same_new ht _),by rw [upd_ne (ne_of_none hr' ht)]; exact hr',upd_same,I.turn hb⟩
  · subst hb
    obtain ⟨g1,g2⟩:=I.done
    refine ⟨_,rfl,_,_,_,_,rfl,rfl,SqT.of hp,rfl,_,_,rfl,rfl,_,rfl,?_⟩
    refine if_dec (fun hn => ?_) (fun hn => ?_)
    · refine ⟨(by show 3 ≤ sizeLine; decide),fun z hz => ?_⟩
      refine ⟨_,rfl,?_⟩
      refine ⟨z,p,1,0,0,0,a,u1,v1,rfl,SqT.of upd_same,SqT.of (by rw [upd_ne (ne_of_none hp hz)]; exact hp),mul_fit (by decide) (Nat.le_trans bd.1 lim0),mul_fit (by decide) (Nat.le_trans bd.2.1 lim0),mul_fit (by decide) (Nat.le_trans bd.2.2.1 lim0),fun t ht => ?_⟩
      have ed:(0:Int) - 1 * a = Int.gcd x y:=by omega
      refine k t _ (0 - 1 * u1) (0 - 1 * v1) ((S.trans (same_new hz _)).trans (same_new ht _)) (by rw [upd_same,ed]) ?_ (by omega) (by omega)
      rw [← ed,g2,Int.one_mul,Int.one_mul,Int.one_mul,Int.mul_sub,Int.mul_sub]
      omega
    · refine ⟨_,rfl,?_⟩
      have ed:a = Int.gcd x y:=by omega
      refine k p H' u1 v1 S (by rw [← ed]; exact hp) (by rw [← ed]; exact g2) (by omega) (by omega)
end
def ReA (CR:Addr) (p:Int) (H:Hp) (a:Addr):Prop:=∃ dx,H a = some (.ins CR dx (fsR p))
def sp_Rinit (CR:Addr):Sp:=fun vs H Q _ => ∃ (x dx:Addr) (p:Int),vs = [.ref x,.int p] ∧ H x = some (.ins CR dx []) ∧ M2.Prm p ∧ p < 1000000 ∧ Q .non (upd H x (.ins CR dx (fsR p)))
section
variable {P:Program} {w:World} {K:PySem.W.Frag} {mg:Str → Option Value} {base:Heap}
theorem sc_Rests___init__:FnScope ["self", "prime"] ["self", "prime"] (defScope s_Rests___init__):=⟨rfl,rfl,rfl,by decide +kernel,rfl,by decide +kernel,by decide +kernel⟩
theorem ok_Rinit {CR:Addr} (h:HereI K CR "Rests.__init__" s_Rests___init__) (cl:Cls K CR) (nP:NoAttr K CR "prime") (h_is_whole:Has P w K mg base "is_whole" 1 ["thing"] sp_whole) (h_is_prime:Has P w K mg base "is_prime" 1 ["number"] sp_prime):HasI P w K mg base CR 2 ["self", "prime"] (sp_Rinit CR):=by
  refine h.hasI (fun f fd F => F.binds fun _ _ _ _ _ _ us hl => by obtain ⟨_,_,rfl⟩:=len2 hl; exact rfl) fun f fd F => F.ok sc_Rests___init__ (fun vs H Q E h => ?_) (fun cdv A outer s H vs Q E hr h => ?_)
  · obtain ⟨_,_,_,rfl,_⟩:=h
    rfl
  obtain ⟨x,dx,p,rfl,hx,hp,lp,k⟩:=h
  refine ⟨_,(pss_cons (ps_if (pw_or (pt_not (pt_val (pe_has h_is_whole hr (by rfl) (pa_cons (pv 1) pa_nil)))) (pw_or1 (pt_not (pt_val (pe_has h_is_prime hr (by rfl) (pa_cons (pv 1) pa_nil)))))).pt (pss_one ps_never) pss_nil)
    (pss_one (ps_fld (pv 0) (pv 1) rfl))),?_⟩
  refine ⟨_,rfl,p,rfl,_,rfl,?_⟩
  refine iteF ?_
  refine ⟨_,rfl,p,rfl,lp,fun _ => ⟨_,rfl,?_⟩,fun z => absurd hp z⟩
  refine iteF ?_
  exact ⟨_,rfl,_,rfl,x,CR,dx,_,rfl,hx,cl,nP,(by show 0 < 1000; decide),k⟩
end
structure CN (K:PySem.W.Frag) (mg:Str → Option Value) (x:Str) (C:Addr):Prop where
  m:mg x = some (.ref C)
  c:PySem.W.isClsIn K C = true
  t:PySem.W.typeIn K (.ref C) = some (.type "type")
structure Rf (K:PySem.W.Frag) (mg:Str → Option Value) (CE cK cN cF cT cI cX cM cR:Addr):Prop where
  e:CN K mg "FrameError" CE
  eb:PySem.W.mroIn K CE (.type "BaseException") = some true
  k:CN K mg "NoKind" cK
  n:CN K mg "NoNumber" cN
  f:CN K mg "NoFit" cF
  t:CN K mg "NoTurn" cT
  i:CN K mg "NoInverse" cI
  x:CN K mg "NoText" cX
  m:CN K mg "NoName" cM
  r:CN K mg "NoRow" cR
  ve:mg "ValueError" = none
theorem Rf.cat {K:PySem.W.Frag} {mg:Str → Option Value} {CE cK cN cF cT cI cX cM cR:Addr} (R:Rf K mg CE cK cN cF cT cI cX cM cR):CatC K mg "FrameError" CE:=⟨R.e.m,R.e.t,R.eb,R.e.c⟩
def Apart (K:PySem.W.Frag) (C:Addr):List Addr → Prop
  | [] => True
  | D :: r => (PySem.W.mroIn K C (.ref D) = some false ∧ C ≠ D) ∧ Apart K C r
structure Rz (K:PySem.W.Frag) (mg:Str → Option Value) (x:Str) (CE C:Addr) (os:List Addr):Prop where
  c:ExcC K mg x C
  e:PySem.W.mroIn K C (.ref CE) = some true
  v:PySem.W.mroIn K C (.type "ValueError") = some true
  o:Apart K C os
theorem CN.no {K:PySem.W.Frag} {mg:Str → Option Value} {x:Str} {C D:Addr} (n:CN K mg x D) (h:PySem.W.mroIn K C (.ref D) = some false ∧ C ≠ D):PySem.W.kitOne K (.ref C) (.ref D) = some false:=kit_ref n.c n.t h.1 h.2
def rowV (m:Nat) (g:Nat → V):List V:=(List.range m).map g
theorem map_ref_get {rs:List Addr} {i:Nat} {x:V} (h:(rs.map V.ref)[i]? = some x):∃ r,rs[i]? = some r ∧ x = .ref r:=by
  rw [List.getElem?_map] at h
  cases e:rs[i]? with
  | none => rw [e] at h; cases h
  | some r => rw [e] at h; exact ⟨r,rfl,(Option.some.inj h).symm⟩
theorem ref_at {rs:List Addr} {i:Nat} {r:Addr} (h:rs[i]? = some r):atI (rs.map V.ref) (i:Int) = some (.ref r):=atI_nat (by rw [List.getElem?_map,h]; rfl)
def Rows (H:Hp) (rs:List Addr) (m:Nat) (g:Nat → Nat → V):Prop:=∀ (i:Nat) (r:Addr),rs[i]? = some r → H r = some (.lst (rowV m (g i)))
structure Tb (H:Hp) (t:Addr) (rs:List Addr) (m:Nat) (g:Nat → Nat → V):Prop where
  l:H t = some (.lst (rs.map V.ref))
  r:Rows H rs m g
structure New (H:Hp) (rs:List Addr):Prop where
  nd:rs.Nodup
  no:∀ r ∈ rs,H r = none
theorem nodup_inj {l:List Addr} (h:l.Nodup) {i j:Nat} {a:Addr} (hi:l[i]? = some a) (hj:l[j]? = some a):i = j:=by
  obtain ⟨l1,e1⟩:=List.getElem?_eq_some_iff.mp hi
  obtain ⟨l2,e2⟩:=List.getElem?_eq_some_iff.mp hj
  have p:=List.pairwise_iff_getElem.mp h
  rcases Nat.lt_trichotomy i j with c | c | c
  · exact absurd (e1.trans e2.symm) (p i j l1 l2 c)
  · exact c
  · exact absurd (e2.trans e1.symm) (p j i l2 l1 c)
theorem New.out {H:Hp} {rs:List Addr} {a:Addr} {o:HO} (h:New H rs) (q:H a = some o):a ∉ rs:=fun m => by rw [h.no a m] at q; cases q
theorem ixN_nat {n i:Nat} (h:i < n):ixN n ((i:Nat):Int) = some i:=by
  have:=atI_nat (xs:=List.range n) (j:=i) (v:=i) (by simp [h])
  unfold atI at this
  rw [List.length_range] at this
  cases q:ixN n (i:Int) with
  | none => rw [q] at this; cases this
  | some j =>
    rw [q] at this
    simp only [Option.bind_some] at this
    have h2:=(List.getElem?_eq_some_iff.mp this).2
    simp at h2
    rw [h2]
def Ez (H:Hp) (p e:Int) (v:V):Prop:=(p = 0 ∧ ∃ t,v = .ref t ∧ H t = some (.tup [.int e,.int 1])) ∨ (0 < p ∧ v = .int e)
theorem int_at {ns:List Int} {i:Nat} (h:i < ns.length):atI (ns.map V.int) (i:Int) = some (.int ns[i]):=atI_nat (by rw [List.getElem?_map,List.getElem?_eq_getElem h] <;> rfl)
def PK (p:Int):Prop:=p = 0 ∨ (M2.Prm p ∧ p < 1000000)
theorem PK.ge {p:Int} (h:PK p):0 ≤ p:=by
  rcases h with rfl | ⟨h,_⟩
  · exact Int.le_refl _
  · have:=h.1; omega
def Nu (H:Hp) (p:Int) (v:V):Prop:=(p = 0 ∧ ∃ t a b,v = .ref t ∧ H t = some (.tup [.int a,.int b]) ∧ Fc a b ∧ a.natAbs ≤ 10 ^ 60 ∧ b.natAbs ≤ 10 ^ 60) ∨ (0 < p ∧ ∃ x,v = .int x ∧ 0 ≤ x ∧ x < p)
structure Ce (H:Hp) (c:Addr) (cs:List Int):Prop where
  l:H c = some (.lst (cs.map V.int))
  h1:1 ≤ cs.length
  h2:cs.length ≤ 66
  b:∀ i ∈ cs,Bits 1048576 i
theorem Ce.same {H H':Hp} {c:Addr} {cs:List Int} (h:Ce H c cs) (S:Same H H'):Ce H' c cs:=⟨S _ _ h.l,h.h1,h.h2,h.b⟩
def Off (D:List Addr) (H H':Hp):Prop:=∀ a o,a ∉ D → H a = some o → H' a = some o
theorem Off.same {D:List Addr} {H0 H H':Hp} (O:Off D H H') (S:Same H0 H) (n:∀ r ∈ D,H0 r = none):Same H0 H':=fun b o q => O b o (fun m => by rw [n b m] at q; cases q) (S _ _ q)
def NuEq (H:Hp) (p:Int) (x y:V):Prop:=(0 < p ∧ ∃ i,x = .int i ∧ y = .int i) ∨ (p = 0 ∧ ∃ s t a b,x = .ref s ∧ y = .ref t ∧ H s = some (.tup [.int a,.int b]) ∧ H t = some (.tup [.int a,.int b]))
theorem Ez.eq {H:Hp} {p e:Int} {x y:V} (h:Ez H p e x) (h':Ez H p e y):NuEq H p x y:=by
  rcases h with ⟨z,t,e1,h1⟩ | ⟨z,e1⟩
  · rcases h' with ⟨_,t',e2,h2⟩ | ⟨z',_⟩
    · exact .inr ⟨z,t,t',_,_,e1,e2,h1,h2⟩
    · omega
  · rcases h' with ⟨z',_⟩ | ⟨_,e2⟩
    · omega
    · exact .inl ⟨z,_,e1,e2⟩
theorem Nu.kind {H:Hp} {p:Int} {x:V} (h:Nu H p x):(∃ i,x = .int i) ∨ ∃ a,x = .ref a:=by
  rcases h with ⟨_,t,_,_,e,_⟩ | ⟨_,i,e,_⟩
  · exact .inr ⟨t,e⟩
  · exact .inl ⟨i,e⟩
end My
namespace My
open PySem L2 PyProof.Rows
class Fd (α:Type) extends Lean.Grind.CommRing α where
  inv:α → α
  mul_inv:∀ a:α,a ≠ 0 → a * inv a = 1
  zne:(0:α) ≠ 1
instance:Fd Rat where
  inv:=Rat.inv
  mul_inv:=fun a h => Rat.mul_inv_cancel a h
  zne:=by decide
theorem bez:∀ a b:Nat,∃ u v:Int,a * u + b * v = (Nat.gcd a b:Int):=by
  intro a b
  induction a,b using Nat.gcd.induction with
  | H0 n => exact ⟨0,1,by simp⟩
  | H1 m n hm ih =>
    obtain ⟨u,v,e⟩:=ih
    refine ⟨v - (n / m:Nat) * u,u,?_⟩
    rw [Nat.gcd_rec,← e]
    have h:(n:Int) = m * (n / m:Nat) + (n % m:Nat):=by
      have:=Nat.div_add_mod n m
      exact_mod_cast this.symm
    rw [Int.mul_sub]
    conv => lhs; rw [h]
    rw [Int.add_mul]
    generalize ((n / m:Nat):Int) = q
    generalize ((n % m:Nat):Int) = r
    have e1:(m:Int) * (q * u) = m * q * u:=by rw [Int.mul_assoc]
    omega
structure PrN (p:Nat):Prop where
  pr:M2.Prm (p:Int)
  lt:p < 1000000
theorem PrN.two {p:Nat} (h:PrN p):2 ≤ p:=by have:=h.pr.1; omega
theorem PrN.nz {p:Nat} (h:PrN p):NeZero p:=⟨by have:=h.two; omega⟩
theorem fin_inv {p:Nat} (h:PrN p):letI:=h.nz; ∀ a:Fin p,a ≠ 0 → ∃ b:Fin p,a * b = 1:=by
  letI:=h.nz
  intro a ha
  have h2:=h.two
  have nd:¬ (p:Int) ∣ (a.val:Int):=by
    rintro ⟨k,hk⟩
    have hv:a.val ≠ 0:=fun z => ha (Fin.ext (by simpa using z))
    have hl:=a.isLt
    have hk0:0 < k:=by
      rcases Int.lt_or_le 0 k with c | c
      · exact c
      · have:(p:Int) * k ≤ 0:=Int.mul_nonpos_of_nonneg_of_nonpos (by omega) c
        omega
    have:(p:Int) * 1 ≤ p * k:=Int.mul_le_mul_of_nonneg_left (by omega) (by omega)
    omega
  have g:=M2.prm_gcd h.pr nd
  obtain ⟨u,v,e⟩:=bez a.val p
  have g':Nat.gcd a.val p = 1:=by
    have:Int.gcd (a.val:Int) (p:Int) = Nat.gcd a.val p:=rfl
    omega
  rw [g'] at e
  refine ⟨⟨(u % p).toNat,?_⟩,?_⟩
  · have:=Int.emod_lt_of_pos u (show 0 < (p:Int) by omega)
    have:=Int.emod_nonneg u (show (p:Int) ≠ 0 by omega)
    omega
  · refine Fin.ext ?_
    rw [Fin.val_mul]
    have e0:=Int.emod_nonneg u (show (p:Int) ≠ 0 by omega)
    have e1:((a.val * (u % p).toNat % p:Nat):Int) = ((1:Nat):Int):=by
      rw [Int.natCast_emod,Int.natCast_mul,Int.toNat_of_nonneg e0,Int.mul_emod,Int.emod_emod_of_dvd _ (Int.dvd_refl _),← Int.mul_emod]
      have:(a.val:Int) * u = 1 - p * v:=by omega
      rw [this,Int.sub_emod,Int.mul_emod_right]
      simp
      exact Int.emod_eq_of_lt (by omega) (by omega)
    have e2:a.val * (u % p).toNat % p = 1:=by exact_mod_cast e1
    have e3:(1:Fin p).val = 1:=by
      show 1 % p = 1
      exact Nat.mod_eq_of_lt h2
    rw [e3]
    exact e2
@[reducible] noncomputable def finFd {p:Nat} (h:PrN p):Fd (Fin p) :=
  letI:=h.nz
  { (inferInstance:Lean.Grind.CommRing (Fin p)) with
    inv:=fun a => if ha:a ≠ 0 then Classical.choose (fin_inv h a ha) else 0
    mul_inv:=fun a ha => by
      simp only [dif_pos ha]
      exact Classical.choose_spec (fin_inv h a ha)
    zne:=fun z => by
      have:=congrArg Fin.val z
      have h2:=h.two
      have e3:(1:Fin p).val = 1:=by
        show 1 % p = 1
        exact Nat.mod_eq_of_lt h2
      have e4:(0:Fin p).val = 0:=by simp
      rw [e3,e4] at this
      cases this }
inductive KX where
  | q
  | r (p:Nat) (h:PrN p)
@[reducible] def KX.F:KX → Type
  | .q => Rat
  | .r p _ => Fin p
noncomputable instance (κ:KX):Fd κ.F:=match κ with
  | .q => inferInstanceAs (Fd Rat)
  | .r _ h => finFd h
def KX.P:KX → Int
  | .q => 0
  | .r p _ => p
def KX.D:(κ:KX) → κ.F → PyData
  | .q,x => .tuple [.int x.num,.int x.den]
  | .r _ _,x => .int x.val
def NR (κ:KX) (H:Hp) (v:V) (x:κ.F):Prop:=match κ with
  | .q => ∃ a,v = .ref a ∧ H a = some (.tup [.int x.num,.int x.den])
  | .r _ _ => v = .int x.val
theorem NR.same {κ:KX} {H H':Hp} {v:V} {x:κ.F} (h:NR κ H v x) (S:Same H H'):NR κ H' v x:=by
  cases κ with
  | q => obtain ⟨a,e,h⟩:=h; exact ⟨a,e,S _ _ h⟩
  | r p hp => exact h
theorem NR.off {κ:KX} {H H':Hp} {t:Addr} {ys:List V} {v:V} {x:κ.F} (h:NR κ H v x) (ht:H t = some (.lst ys)) (O:Off [t] H H'):NR κ H' v x:=by
  cases κ with
  | q =>
    obtain ⟨a,e,h⟩:=h
    refine ⟨a,e,O _ _ (fun m => ?_) h⟩
    rw [List.mem_singleton.mp m,ht] at h
    cases h
  | r p hp => exact h
theorem fl_int' {H:Hp} {i:Int}:Fl H (.int i) (.int i):=.inr (.inr (.inl ⟨i,rfl,rfl⟩))
theorem NR.rp {κ:KX} {H:Hp} {v:V} {x:κ.F} (h:NR κ H v x):Rp H 1 v (κ.D x):=by
  cases κ with
  | q =>
    obtain ⟨a,rfl,h⟩:=h
    exact rp_tup h (.cons fl_int' (.cons fl_int' .nil))
  | r p hp =>
    have h:v = .int x.val:=h
    subst h
    exact .inl fl_int'
def Bd (κ:KX) (n m:Nat) (x:κ.F):Prop:=match κ with
  | .q => Bits n x.num ∧ Bits m (x.den:Int)
  | .r _ _ => True
theorem rat_of {n d N D:Int} (fc:Fc n d) (hD:0 < D) (e:n * D = N * d):(Rat.divInt N D).num = n ∧ ((Rat.divInt N D).den:Int) = d:=by
  have hd:=fc.pos
  have q0:∃ q:Rat,q.num = n ∧ (q.den:Int) = d:=by
    refine ⟨⟨n,d.toNat,by omega,?_⟩,rfl,by show ((d.toNat:Nat):Int) = d; omega⟩
    have:=fc.cop
    rw [Nat.coprime_iff_gcd_eq_one]
    have e:Int.gcd n d = Nat.gcd n.natAbs d.natAbs:=rfl
    have e2:d.natAbs = d.toNat:=by omega
    rw [← e2]
    omega
  obtain ⟨q,e1,e2⟩:=q0
  have:Rat.divInt N D = q:=by
    rw [← Rat.num_divInt_den q,e1,e2,Rat.divInt_eq_divInt_iff (by omega) (by omega)]
    exact e.symm
  rw [this]
  exact ⟨e1,e2⟩
theorem rat_fc (x:Rat):Fc x.num x.den:=⟨by have:=x.den_nz; omega,by
  have:=x.reduced
  rw [Nat.coprime_iff_gcd_eq_one] at this
  exact this⟩
theorem rat_mul {x y:Rat} {n d:Int} (fc:Fc n d) (e:n * ((x.den:Int) * y.den) = (x.num * y.num) * d):(x * y).num = n ∧ ((x * y).den:Int) = d:=by
  have hx:=(rat_fc x).pos
  have hy:=(rat_fc y).pos
  have:x * y = Rat.divInt (x.num * y.num) ((x.den:Int) * y.den):=by
    rw [← Rat.divInt_mul_divInt,Rat.num_divInt_den,Rat.num_divInt_den]
  rw [this]
  exact rat_of fc (Int.mul_pos hx hy) e
end My
namespace My
open PySem L2 PyProof.Rows
def sp_Rop (CR:Addr) (g:Int → Int → Int):Sp:=fun vs H Q _ => ∃ (s:Addr) (p a b:Int),vs = [.ref s,.int a,.int b] ∧ ReA CR p H s ∧ 2 ≤ p ∧ a.natAbs ≤ 10 ^ 150 ∧ b.natAbs ≤ 10 ^ 150 ∧ Q (.int (g a b % p)) H
section
variable {P:Program} {w:World} {K:PySem.W.Frag} {mg:Str → Option Value} {base:Heap}
theorem sc_Rests_plus:FnScope ["self", "one", "other"] ["self", "one", "other"] (defScope s_Rests_plus):=⟨rfl,rfl,rfl,by decide +kernel,rfl,by decide +kernel,by decide +kernel⟩
theorem ok_Rplus {CR:Addr} (h:HereM K CR "plus" "Rests.plus" s_Rests_plus) (cl:Cls K CR) (nP:NoAttr K CR "prime"):HasM P w K mg base CR "plus" 1 ["self", "one", "other"] [] (sp_Rop CR fun a b => a + b):=by
  refine h.hasM (fun f fd F => F.binds fun _ _ _ _ _ _ us hl => by obtain ⟨_,_,_,rfl⟩:=len3 hl; exact rfl) fun f fd F => F.ok sc_Rests_plus (fun vs H Q E h => ?_) (fun cdv A outer s H vs Q E hr h => ?_)
  · obtain ⟨_,_,_,_,rfl,_⟩:=h
    rfl
  obtain ⟨sr,p,a,b,rfl,⟨dx,hs⟩,h2,la,lb,k⟩:=h
  refine ⟨_,(pss_one (ps_ret (pe_op op_modN (pe_op op_add (pv 1) (pv 2)) (pe_fld (pv 0) rfl)))),?_⟩
  refine ⟨_,rfl,_,rfl,_,_,rfl,rfl,_,rfl,sr,CR,dx,_,_,rfl,hs,cl,nP,fsR_prime p,_,_,rfl,rfl,(show p ≠ 0 by omega),?_⟩
  show Q (V.int ((a + b).fmod p)) _
  rw [Int.fmod_eq_emod_of_nonneg _ (by omega)]
  exact k
end
section
variable {P:Program} {w:World} {K:PySem.W.Frag} {mg:Str → Option Value} {base:Heap}
theorem sc_Rests_times:FnScope ["self", "one", "other"] ["self", "one", "other"] (defScope s_Rests_times):=⟨rfl,rfl,rfl,by decide +kernel,rfl,by decide +kernel,by decide +kernel⟩
theorem ok_Rtimes {CR:Addr} (h:HereM K CR "times" "Rests.times" s_Rests_times) (cl:Cls K CR) (nP:NoAttr K CR "prime"):HasM P w K mg base CR "times" 1 ["self", "one", "other"] [] (sp_Rop CR fun a b => a * b):=by
  refine h.hasM (fun f fd F => F.binds fun _ _ _ _ _ _ us hl => by obtain ⟨_,_,_,rfl⟩:=len3 hl; exact rfl) fun f fd F => F.ok sc_Rests_times (fun vs H Q E h => ?_) (fun cdv A outer s H vs Q E hr h => ?_)
  · obtain ⟨_,_,_,_,rfl,_⟩:=h
    rfl
  obtain ⟨sr,p,a,b,rfl,⟨dx,hs⟩,h2,la,lb,k⟩:=h
  refine ⟨_,(pss_one (ps_ret (pe_op op_modN (pe_op op_mulO (pv 1) (pv 2)) (pe_fld (pv 0) rfl)))),?_⟩
  refine ⟨_,rfl,_,rfl,_,_,rfl,rfl,mul_fit la lb,_,rfl,sr,CR,dx,_,_,rfl,hs,cl,nP,fsR_prime p,_,_,rfl,rfl,(show p ≠ 0 by omega),?_⟩
  show Q (V.int ((a * b).fmod p)) _
  rw [Int.fmod_eq_emod_of_nonneg _ (by omega)]
  exact k
end
theorem R_num {p t b u v r:Int} (hp:2 ≤ p) (h:(1:Int) = b * u + p * v) (hr:r = t * u % p):0 ≤ r ∧ r < p ∧ p ∣ r * b - t:=by
  subst hr
  refine ⟨Int.emod_nonneg _ (by omega),Int.emod_lt_of_pos _ (by omega),?_⟩
  have e:=Int.emod_add_mul_ediv (t * u) p
  have e1:t * u % p = t * u - p * (t * u / p):=by omega
  refine ⟨-(t * v) - (t * u / p) * b,?_⟩
  rw [e1]
  have e2:t = t * b * u + t * p * v:=by
    have:=congrArg (t * ·) h
    simp only [Int.mul_one,Int.mul_add] at this
    rw [Int.mul_assoc,Int.mul_assoc]; exact this
  generalize t * u / p = k at *
  rw [Int.sub_mul,Int.mul_sub,Int.mul_neg,Int.mul_assoc p k b]
  have e3:t * u * b = t * b * u:=by rw [Int.mul_assoc,Int.mul_comm u b,← Int.mul_assoc]
  have e4:p * (t * v) = t * p * v:=by rw [← Int.mul_assoc,Int.mul_comm p t]
  omega
def sp_Rnumber (CR cN:Addr):Sp:=fun vs H Q E => ∃ (s:Addr) (p t b:Int),vs = [.ref s,.int t,.int b] ∧ ReA CR p H s ∧ M2.Prm p ∧ p < 1000000 ∧ t.natAbs ≤ 10 ^ 140 ∧ b.natAbs ≤ 10 ^ 100 ∧ (p ∣ b → E (.ref cN) none H) ∧
  (¬ p ∣ b → ∀ (H':Hp) (r:Int),Same H H' → 0 ≤ r → r < p → p ∣ r * b - t → Q (.int r) H')
section
variable {P:Program} {w:World} {K:PySem.W.Frag} {mg:Str → Option Value} {base:Heap}
theorem sc_Rests_number:FnScope ["self", "top", "bottom"] ["self", "top", "bottom"] (defScope s_Rests_number):=⟨rfl,rfl,rfl,by decide +kernel,rfl,by decide +kernel,by decide +kernel⟩
theorem run_Rnumber {CR cN:Addr} {f T:Addr} {fd:FuncData} {items:Array Value} (F:FunD K "number" "Rests.number" s_Rests_number f fd T items) (cl:Cls K CR) (nP:NoAttr K CR "prime") (c:ExcC K mg "NoNumber" cN) (h_shares:Has P w K mg base "shares" 2 ["one", "other"] sp_shares):FnOk P w K mg base (CXx P w) 3 f fd ["self", "top", "bottom"] (sp_Rnumber CR cN):=by
  refine F.okx sc_Rests_number (fun vs H Q E h => ?_) (fun cdv A outer s H vs Q E hr h => ?_)
  · obtain ⟨_,_,_,_,rfl,_⟩:=h
    rfl
  obtain ⟨sr,p,t,b,rfl,⟨dx,hs⟩,pr,lp,lt,lb,k0,k⟩:=h
  have h2:=pr.1
  refine ⟨_,(pss_cons (ps_if (pt_cmpR op_eq (pe_op op_modN (pv 2) (pe_fld (pv 0) rfl)) pe_int (nomark _)) (pss_one (ps_raise c raiseE rfl (by rfl) (pa_cons pe_str pa_nil))) pss_nil)
    (pss_one (ps_ret (pe_op op_modN (pe_op op_mulO (pv 1) (pe_ix ix_tup (pe_has h_shares hr (by rfl) (pa_cons (pv 2) (pa_cons (pe_fld (pv 0) rfl) pa_nil))) pe_int (fun _ _ => rfl))) (pe_fld (pv 0) rfl))))),?_⟩
  refine ⟨_,rfl,_,rfl,sr,CR,dx,_,_,rfl,hs,cl,nP,fsR_prime p,_,_,rfl,rfl,(show p ≠ 0 by omega),rfl,_,rfl,?_⟩
  refine if_eqI (fun z => ⟨(by show 1 ≤ 1000; decide),k0 ((M2.fmod_dvd (by omega)).mp z)⟩) (fun hb => ?_)
  have hb':¬ p ∣ b:=fun z => hb ((M2.fmod_dvd (by omega)).mpr z)
  have g1:=M2.prm_gcd pr hb'
  refine ⟨_,rfl,_,rfl,_,rfl,sr,CR,dx,_,_,rfl,hs,cl,nP,fsR_prime p,b,p,rfl,lb,by omega,fun q H1 u v S hq e bu bv => ?_⟩
  refine ⟨_,_,_,_,rfl,rfl,SqT.of hq,rfl,_,_,rfl,rfl,mul_fit (by omega) (by omega),_,rfl,sr,CR,dx,_,_,rfl,S _ _ hs,cl,nP,fsR_prime p,_,_,rfl,rfl,(show p ≠ 0 by omega),?_⟩
  rw [g1] at e
  obtain ⟨r0,r1,r2⟩:=R_num (p:=p) (t:=t) (b:=b) (r:=t * u % p) h2 e rfl
  show Q (V.int ((t * u).fmod p)) _
  rw [Int.fmod_eq_emod_of_nonneg _ (by omega)]
  exact k hb' H1 _ S r0 r1 r2
theorem ok_Rnumber {CR cN:Addr} {tk:Tok} (h:HereD K CR "number" "Rests.number" s_Rests_number #[.int 1 tk]) (cl:Cls K CR) (nP:NoAttr K CR "prime") (c:ExcC K mg "NoNumber" cN) (h_shares:Has P w K mg base "shares" 2 ["one", "other"] sp_shares):HasMX P w K mg base CR "number" 3 ["self", "top", "bottom"] [] (sp_Rnumber CR cN) :=
  h.hasMX (ds:=[]) .nil (fun f fd T F => F.binds fun _ _ _ _ _ _ us hl => by obtain ⟨_,_,_,rfl⟩:=len3 (show us.length = 3 by simpa using hl); exact ⟨_,rfl,rfl⟩) fun f fd T F => run_Rnumber F cl nP c h_shares
theorem ok_Rnumber1 {CR cN:Addr} {tk:Tok} (h:HereD K CR "number" "Rests.number" s_Rests_number #[.int 1 tk]) (cl:Cls K CR) (nP:NoAttr K CR "prime") (c:ExcC K mg "NoNumber" cN) (h_shares:Has P w K mg base "shares" 2 ["one", "other"] sp_shares):HasMX P w K mg base CR "number" 3 ["self", "top", "bottom"] [.int 1] (sp_Rnumber CR cN) :=
  h.hasMX (ds:=[.int 1 tk]) (.cons ⟨_,rfl⟩ .nil) (fun f fd T F => F.binds fun _ _ _ _ _ _ us hl => by obtain ⟨_,_,rfl⟩:=len2 (show us.length = 2 by simpa using hl); exact ⟨_,rfl,rfl⟩) fun f fd T F => run_Rnumber F cl nP c h_shares
end
section
variable {P:Program} {w:World} {K:PySem.W.Frag} {mg:Str → Option Value} {base:Heap}
theorem sc_Rests_minus:FnScope ["self", "one", "other"] ["self", "one", "other"] (defScope s_Rests_minus):=⟨rfl,rfl,rfl,by decide +kernel,rfl,by decide +kernel,by decide +kernel⟩
theorem ok_Rminus {CR:Addr} (h:HereM K CR "minus" "Rests.minus" s_Rests_minus) (cl:Cls K CR) (nP:NoAttr K CR "prime"):HasM P w K mg base CR "minus" 1 ["self", "one", "other"] [] (sp_Rop CR fun a b => a - b):=by
  refine h.hasM (fun f fd F => F.binds fun _ _ _ _ _ _ us hl => by obtain ⟨_,_,_,rfl⟩:=len3 hl; exact rfl) fun f fd F => F.ok sc_Rests_minus (fun vs H Q E h => ?_) (fun cdv A outer s H vs Q E hr h => ?_)
  · obtain ⟨_,_,_,_,rfl,_⟩:=h
    rfl
  obtain ⟨sr,p,a,b,rfl,⟨dx,hs⟩,h2,la,lb,k⟩:=h
  refine ⟨_,(pss_one (ps_ret (pe_op op_modN (pe_op op_sub (pv 1) (pv 2)) (pe_fld (pv 0) rfl)))),?_⟩
  refine ⟨_,rfl,_,rfl,_,_,rfl,rfl,_,rfl,sr,CR,dx,_,_,rfl,hs,cl,nP,fsR_prime p,_,_,rfl,rfl,(show p ≠ 0 by omega),?_⟩
  show Q (V.int ((a - b).fmod p)) _
  rw [Int.fmod_eq_emod_of_nonneg _ (by omega)]
  exact k
end
def sp_Rback (CR cN:Addr):Sp:=fun vs H Q E => ∃ (s:Addr) (p a:Int),vs = [.ref s,.int a] ∧ ReA CR p H s ∧ M2.Prm p ∧ p < 1000000 ∧ a.natAbs ≤ 10 ^ 100 ∧ (p ∣ a → E (.ref cN) none H) ∧
  (¬ p ∣ a → ∀ (H':Hp) (r:Int),Same H H' → 0 ≤ r → r < p → p ∣ r * a - 1 → Q (.int r) H')
section
variable {P:Program} {w:World} {K:PySem.W.Frag} {mg:Str → Option Value} {base:Heap}
theorem sc_Rests_back:FnScope ["self", "one"] ["self", "one"] (defScope s_Rests_back):=⟨rfl,rfl,rfl,by decide +kernel,rfl,by decide +kernel,by decide +kernel⟩
theorem ok_Rback {CR cN:Addr} (h:HereM K CR "back" "Rests.back" s_Rests_back) (cl:Cls K CR) (hN:HasMX P w K mg base CR "number" 3 ["self", "top", "bottom"] [] (sp_Rnumber CR cN)):HasMX P w K mg base CR "back" 4 ["self", "one"] [] (sp_Rback CR cN):=by
  refine h.hasMX (fun f fd F => F.binds fun _ _ _ _ _ _ us hl => by obtain ⟨_,_,rfl⟩:=len2 hl; exact rfl) fun f fd F => F.okx sc_Rests_back (fun vs H Q E h => ?_) (fun cdv A outer s H vs Q E hr h => ?_)
  · obtain ⟨_,_,_,rfl,_⟩:=h
    rfl
  obtain ⟨sr,p,a,rfl,⟨dx,hs⟩,pr,lp,la,k0,k⟩:=h
  refine ⟨_,(pss_one (ps_ret (pe_methX (pv 0) passE hr (pa_cons pe_int (pa_cons (pv 1) pa_nil))))),?_⟩
  exact ⟨_,rfl,sr,CR,dx,_,_,_,_,rfl,hs,cl,hN,fsR_no p (by decide),_,rfl,sr,p,1,a,rfl,⟨dx,hs⟩,pr,lp,by decide,la,k0,k⟩
end
def sp_Rnought:Sp:=fun vs H Q _ => ∃ (s:Addr) (a:Int),vs = [.ref s,.int a] ∧ Q (.bl (decide (a = 0))) H
section
variable {P:Program} {w:World} {K:PySem.W.Frag} {mg:Str → Option Value} {base:Heap}
theorem sc_Rests_is_nought:FnScope ["self", "one"] ["self", "one"] (defScope s_Rests_is_nought):=⟨rfl,rfl,rfl,by decide +kernel,rfl,by decide +kernel,by decide +kernel⟩
theorem ok_Rnought {CR:Addr} (h:HereM K CR "is_nought" "Rests.is_nought" s_Rests_is_nought):HasM P w K mg base CR "is_nought" 1 ["self", "one"] [] sp_Rnought:=by
  refine h.hasM (fun f fd F => F.binds fun _ _ _ _ _ _ us hl => by obtain ⟨_,_,rfl⟩:=len2 hl; exact rfl) fun f fd F => F.ok sc_Rests_is_nought (fun vs H Q E h => ?_) (fun cdv A outer s H vs Q E hr h => ?_)
  · obtain ⟨_,_,rfl,_⟩:=h
    rfl
  obtain ⟨sf,a,rfl,k⟩:=h
  refine ⟨_,(pss_one (ps_ret (pe_cmpR op_eq (pv 1) pe_int (nomark _)))),?_⟩
  refine ⟨_,rfl,rfl,?_⟩
  rw [eqI_iff]
  exact k
end
end My
namespace My
open PySem L2 PyProof.Rows
theorem divInt_eq (N:Int) {D:Int} (hD:0 < D):(Rat.divInt N D).num * D = N * (Rat.divInt N D).den:=by
  have h:=Rat.num_divInt_den (Rat.divInt N D)
  have hd:=(rat_fc (Rat.divInt N D)).pos
  have:=(Rat.divInt_eq_divInt_iff (n₁:=(Rat.divInt N D).num) (d₁:=((Rat.divInt N D).den:Int)) (n₂:=N) (d₂:=D) (by omega) (by omega)).mp h
  exact this
theorem cop_dvd {a b c:Int} (h:a ∣ b * c) (g:Int.gcd a b = 1):a ∣ c:=by
  rw [← Int.natAbs_dvd_natAbs] at h ⊢
  rw [Int.natAbs_mul] at h
  exact Nat.Coprime.dvd_of_dvd_mul_left g h
theorem divInt_sz (N:Int) {D:Int} (hD:0 < D):((Rat.divInt N D).den:Int) ∣ D ∧ (Rat.divInt N D).num ∣ N:=by
  have e:=divInt_eq N hD
  have c:=(rat_fc (Rat.divInt N D)).cop
  generalize (Rat.divInt N D).num = n at *
  generalize ((Rat.divInt N D).den:Int) = d at *
  refine ⟨?_,?_⟩
  · refine cop_dvd (b:=n) ⟨N,?_⟩ (by rw [Int.gcd_comm]; exact c)
    rw [e,Int.mul_comm]
  · refine cop_dvd (b:=d) ⟨D,?_⟩ c
    rw [e,Int.mul_comm]
theorem le_of_dvd' {a b:Int} (h:a ∣ b) (hb:b ≠ 0):a.natAbs ≤ b.natAbs:=Nat.le_of_dvd (by omega) (Int.natAbs_dvd_natAbs.mpr h)
theorem bits_dvd {n:Nat} {a b:Int} (h:a ∣ b) (hb:Bits n b) (hz:b = 0 → a = 0):Bits n a:=by
  by_cases z:b = 0
  · rw [hz z]; exact Nat.zero_le _
  · exact hb.le (le_of_dvd' h z)
theorem num_zero (N:Int) {D:Int} (hD:0 < D) (z:N = 0):(Rat.divInt N D).num = 0:=by
  subst z
  have e:=divInt_eq 0 hD
  rw [Int.zero_mul] at e
  rcases Int.mul_eq_zero.mp e with h | h
  · exact h
  · omega
def KdX (CF CR:Addr) (κ:KX) (H:Hp) (s:Addr):Prop:=match κ with
  | .q => False
  | .r p _ => ReA CR p H s
theorem KdX.same {CF CR:Addr} {κ:KX} {H H':Hp} {k:Addr} (h:KdX CF CR κ H k) (S:Same H H'):KdX CF CR κ H' k:=by
  cases κ with
  | q => exact h.elim
  | r p hp => obtain ⟨dx,h⟩:=h; exact ⟨dx,S _ _ h⟩
abbrev B1 (κ:KX) (x:κ.F):Prop:=Bd κ 1000000 4000 x
theorem rest_small {p:Nat} (h:PrN p) (x:Fin p):((x.val:Int)).natAbs ≤ 10 ^ 150:=by
  have:=x.isLt
  have:=h.lt
  exact Nat.le_trans (show _ ≤ 1000000 by omega) (by decide)
def Meth2 (P:Program) (w:World) (K:PySem.W.Frag) (mg:Str → Option Value) (base:Heap) (CF CR:Addr) (m:Str) (g:(κ:KX) → κ.F → κ.F → κ.F):Prop :=
  ∀ (κ:KX) (H:Hp) (s:Addr),KdX CF CR κ H s → ∃ C dx fs ps dvs sp,H s = some (.ins C dx fs) ∧ Cls K C ∧ HasM P w K mg base C m 2 ps dvs sp ∧ fs.lookup m = none ∧ dvs = [] ∧
    ∀ (H':Hp) (u v:V) (x y:κ.F) (Q:VK),Same H H' → NR κ H' u x → NR κ H' v y → B1 κ x → B1 κ y → (∀ t H'',Same H' H'' → NR κ H'' t (g κ x y) → Q t H'') → sp [.ref s,u,v] H' Q E0
end My
namespace My
open PySem L2 PyProof.Rows
section
variable {P:Program} {w:World} {K:PySem.W.Frag} {mg:Str → Option Value} {base:Heap} {CF CR:Addr}
theorem meth_plus (kd:Kd K mg CF CR) (hR:HasM P w K mg base CR "plus" 2 ["self", "one", "other"] [] (sp_Rop CR fun a b => a + b)):Meth2 P w K mg base CF CR "plus" (fun _ x y => x + y):=by
  intro κ H s hk
  cases κ with
  | q => exact hk.elim
  | r p hp =>
    obtain ⟨dx,h⟩:=hk
    refine ⟨CR,dx,fsR p,_,_,_,h,kd.clR,hR,fsR_no _ (by decide),rfl,fun H' u v x y Q S hu hv _ _ k => ?_⟩
    have hu:u = .int x.val:=hu
    have hv:v = .int y.val:=hv
    subst hu hv
    refine ⟨s,p,_,_,rfl,⟨dx,S _ _ h⟩,by have:=hp.two; omega,rest_small hp x,rest_small hp y,k _ H' (Same.refl _) ?_⟩
    show V.int (((x.val:Int) + y.val) % p) = V.int ((Fin.val (x + y):Nat):Int)
    have e:Fin.val (x + y) = (x.val + y.val) % p:=Fin.val_add x y
    rw [e,Int.natCast_emod,Int.natCast_add]
end
section
variable {P:Program} {w:World} {K:PySem.W.Frag} {mg:Str → Option Value} {base:Heap} {CF CR:Addr}
theorem meth_times (kd:Kd K mg CF CR) (hR:HasM P w K mg base CR "times" 2 ["self", "one", "other"] [] (sp_Rop CR fun a b => a * b)):Meth2 P w K mg base CF CR "times" (fun _ x y => x * y):=by
  intro κ H s hk
  cases κ with
  | q => exact hk.elim
  | r p hp =>
    obtain ⟨dx,h⟩:=hk
    refine ⟨CR,dx,fsR p,_,_,_,h,kd.clR,hR,fsR_no _ (by decide),rfl,fun H' u v x y Q S hu hv _ _ k => ?_⟩
    have hu:u = .int x.val:=hu
    have hv:v = .int y.val:=hv
    subst hu hv
    refine ⟨s,p,_,_,rfl,⟨dx,S _ _ h⟩,by have:=hp.two; omega,rest_small hp x,rest_small hp y,k _ H' (Same.refl _) ?_⟩
    show V.int (((x.val:Int) * y.val) % p) = V.int ((Fin.val (x * y):Nat):Int)
    have e:Fin.val (x * y) = (x.val * y.val) % p:=Fin.val_mul x y
    rw [e,Int.natCast_emod,Int.natCast_mul]
end
end My
set_option maxHeartbeats 1000000
namespace L2
open PySem PySem.Spec PyProof.Rows
section
variable {X:Cx}
end
end L2
namespace My
open PySem L2 PyProof.Rows
section
variable {κ:KX}
def RowsX (κ:KX) (H:Hp) (as:List Addr) (R:List (List κ.F)):Prop:=as.length = R.length ∧ ∀ (i:Nat) a f,as[i]? = some a → R[i]? = some f → ∃ xs,H a = some (.lst xs) ∧ AllG (NR κ H) xs f
def AllR (Pr:κ.F → Prop) (R:List (List κ.F)):Prop:=∀ f ∈ R,∀ x ∈ f,Pr x
theorem RowsX.same {H H':Hp} {as:List Addr} {R:List (List κ.F)} (h:RowsX κ H as R) (S:Same H H'):RowsX κ H' as R :=
  ⟨h.1,fun i a f ha hf => let ⟨xs,hx,al⟩:=h.2 i a f ha hf; ⟨xs,S _ _ hx,al.mono fun _ _ n => n.same S⟩⟩
theorem RowsX.off {H H':Hp} {t:Addr} {as:List Addr} {R:List (List κ.F)} {ys:List V} (h:RowsX κ H as R) (n:t ∉ as) (ht:H t = some (.lst ys)) (O:Off [t] H H'):RowsX κ H' as R :=
  ⟨h.1,fun i a f ha hf => let ⟨xs,hx,al⟩:=h.2 i a f ha hf; ⟨xs,O _ _ (fun m => n (by rw [← List.mem_singleton.mp m]; exact List.mem_of_getElem? ha)) hx,al.mono fun _ _ n => n.off ht O⟩⟩
theorem RowsX.get {H:Hp} {as:List Addr} {R:List (List κ.F)} (h:RowsX κ H as R) {i:Nat} (hi:i < R.length):∃ a xs,as[i]? = some a ∧ H a = some (.lst xs) ∧ AllG (NR κ H) xs R[i]:=by
  have l:=h.1
  obtain ⟨xs,hx,al⟩:=h.2 i (as[i]'(by omega)) R[i] (List.getElem?_eq_getElem (by omega)) (List.getElem?_eq_getElem hi)
  exact ⟨_,xs,List.getElem?_eq_getElem (by omega),hx,al⟩
theorem RowsX.set {H:Hp} {as:List Addr} {R:List (List κ.F)} (h:RowsX κ H as R) (i:Nat) {a:Addr} {xs:List V} {f:List κ.F} (hx:H a = some (.lst xs)) (al:AllG (NR κ H) xs f):RowsX κ H (as.set i a) (R.set i f):=by
  have l:=h.1
  refine ⟨by rw [List.length_set,List.length_set,l],fun j b g hb hg => ?_⟩
  rw [List.getElem?_set] at hb hg
  split at hb
  · rename_i e
    rw [if_pos e] at hg
    split at hb
    · rename_i hl
      rw [if_pos (by omega)] at hg
      cases hb; cases hg; exact ⟨xs,hx,al⟩
    · cases hb
  · rename_i e
    rw [if_neg e] at hg
    exact h.2 j b g hb hg
inductive Tn (κ:KX) where
  | swap (i j:Int)
  | scale (i:Int) (c:κ.F)
  | add (i j:Int) (c:κ.F)
def TR (κ:KX) (H:Hp) (v:V) (t:Tn κ):Prop:=match t with
  | .swap i j => ∃ a,v = .ref a ∧ H a = some (.tup [.str "swap", .int i,.int j])
  | .scale i c => ∃ a u,v = .ref a ∧ H a = some (.tup [.str "scale", .int i,u]) ∧ NR κ H u c
  | .add i j c => ∃ a u,v = .ref a ∧ H a = some (.tup [.str "add", .int i,.int j,u]) ∧ NR κ H u c
theorem TR.same {H H':Hp} {v:V} {t:Tn κ} (h:TR κ H v t) (S:Same H H'):TR κ H' v t:=by
  cases t with
  | swap i j => obtain ⟨a,e,h⟩:=h; exact ⟨a,e,S _ _ h⟩
  | scale i c => obtain ⟨a,u,e,h,n⟩:=h; exact ⟨a,u,e,S _ _ h,n.same S⟩
  | add i j c => obtain ⟨a,u,e,h,n⟩:=h; exact ⟨a,u,e,S _ _ h,n.same S⟩
theorem TR.off {H H':Hp} {t:Addr} {ys:List V} {v:V} {x:Tn κ} (h:TR κ H v x) (ht:H t = some (.lst ys)) (O:Off [t] H H'):TR κ H' v x:=by
  have na:∀ a zs,H a = some (.tup zs) → a ∉ [t]:=fun a zs q m => by rw [List.mem_singleton.mp m,ht] at q; cases q
  cases x with
  | swap i j => obtain ⟨a,e,h⟩:=h; exact ⟨a,e,O _ _ (na _ _ h) h⟩
  | scale i c => obtain ⟨a,u,e,h,n⟩:=h; exact ⟨a,u,e,O _ _ (na _ _ h) h,n.off ht O⟩
  | add i j c => obtain ⟨a,u,e,h,n⟩:=h; exact ⟨a,u,e,O _ _ (na _ _ h) h,n.off ht O⟩
def Tn.ok (n:Nat):Tn κ → Prop
  | .swap i j => (0 ≤ i ∧ i < n) ∧ (0 ≤ j ∧ j < n) ∧ i ≠ j
  | .scale i c => (0 ≤ i ∧ i < n) ∧ c ≠ 0
  | .add i j _ => (0 ≤ i ∧ i < n) ∧ (0 ≤ j ∧ j < n) ∧ i ≠ j
def Tn.bd:Tn κ → Prop
  | .swap _ _ => True
  | .scale _ c => B1 κ c
  | .add _ _ c => B1 κ c
noncomputable def doT (t:Tn κ) (R:List (List κ.F)):List (List κ.F):=match t with
  | .swap i j => (R.set i.toNat (R.getD j.toNat [])).set j.toNat (R.getD i.toNat [])
  | .scale i c => R.set i.toNat ((R.getD i.toNat []).map (c * ·))
  | .add i j c => R.set i.toNat (List.zipWith (· + ·) (R.getD i.toNat []) ((R.getD j.toNat []).map (c * ·)))
theorem doT_len (t:Tn κ) (R:List (List κ.F)):(doT t R).length = R.length:=by
  cases t <;> simp [doT]
end
def sp_scaled_rowX (CF CR:Addr):Sp:=fun vs H Q _ => ∃ (κ:KX) (s r:Addr) (cv:V) (c:κ.F) (xs:List V) (f:List κ.F),vs = [.ref s,cv,.ref r] ∧ KdX CF CR κ H s ∧ NR κ H cv c ∧ H r = some (.lst xs) ∧ AllG (NR κ H) xs f ∧ B1 κ c ∧ (∀ x ∈ f,B1 κ x) ∧ f.length ≤ 1000 ∧
  ∀ (H':Hp) (D:Addr) (ys:List V),Same H H' → H D = none → H' D = some (.lst ys) → AllG (NR κ H') ys (f.map (c * ·)) → Q (.ref D) H'
def sp_plus_rowX (CF CR:Addr):Sp:=fun vs H Q _ => ∃ (κ:KX) (s r1 r2:Addr) (xs ys:List V) (f g:List κ.F),vs = [.ref s,.ref r1,.ref r2] ∧ KdX CF CR κ H s ∧ H r1 = some (.lst xs) ∧ H r2 = some (.lst ys) ∧ AllG (NR κ H) xs f ∧ AllG (NR κ H) ys g ∧ (∀ x ∈ f,B1 κ x) ∧ (∀ x ∈ g,B1 κ x) ∧ f.length ≤ 1000 ∧
  ∀ (H':Hp) (D:Addr) (zs:List V),Same H H' → H D = none → H' D = some (.lst zs) → AllG (NR κ H') zs (List.zipWith (· + ·) f g) → Q (.ref D) H'
theorem ite_yes {p:Prop} [Decidable p] {A B:Prop} (h:p) (k:A):if decide p = true then A else B:=by rw [if_pos (decide_eq_true h)]; exact k
theorem ite_no {p:Prop} [Decidable p] {A B:Prop} (h:¬ p) (k:B):if decide p = true then A else B:=by rw [if_neg (by simpa using h)]; exact k
theorem itn_yes {p:Prop} [Decidable p] {A B:Prop} (h:¬ p) (k:A):if (!decide p) = true then A else B:=by rw [if_pos (by simpa using h)]; exact k
theorem itn_no {p:Prop} [Decidable p] {A B:Prop} (h:p) (k:B):if (!decide p) = true then A else B:=by rw [if_neg (by simpa using h)]; exact k
theorem s12:V.str "swap" ≠ V.str "scale" := by decide
theorem s13:V.str "swap" ≠ V.str "add" := by decide
theorem s21:V.str "scale" ≠ V.str "swap" := by decide
theorem s31:V.str "add" ≠ V.str "swap" := by decide
theorem s32:V.str "add" ≠ V.str "scale" := by decide
theorem nodup_of_inj {l:List Addr} (h:∀ (i j:Nat) a,l[i]? = some a → l[j]? = some a → i = j):l.Nodup:=by
  refine List.pairwise_iff_getElem.mpr fun i j hi hj lt e => ?_
  have:=h i j l[i] (List.getElem?_eq_getElem hi) (by rw [e]; exact List.getElem?_eq_getElem hj)
  omega
theorem nodup_set {l:List Addr} {i:Nat} {a:Addr} (h:l.Nodup) (n:a ∉ l):(l.set i a).Nodup:=by
  refine nodup_of_inj fun x y b hx hy => ?_
  rw [List.getElem?_set] at hx hy
  split at hx
  · rename_i e1
    split at hy
    · rename_i e2; omega
    · split at hx
      · cases hx; exact absurd (List.mem_of_getElem? hy) n
      · cases hx
  · split at hy
    · split at hy
      · cases hy; exact absurd (List.mem_of_getElem? hx) n
      · cases hy
    · exact nodup_inj h hx hy
theorem get_swap {l:List Addr} {i j:Nat} {a b:Addr} (hi:l[i]? = some a) (hj:l[j]? = some b) (x:Nat):((l.set i b).set j a)[x]? = if x = j then some a else if x = i then some b else l[x]?:=by
  have li:=(List.getElem?_eq_some_iff.mp hi).1
  have lj:=(List.getElem?_eq_some_iff.mp hj).1
  rw [List.getElem?_set]
  by_cases e:j = x
  · subst e
    rw [if_pos rfl,if_pos (by rw [List.length_set]; exact lj),if_pos rfl]
  · rw [if_neg e,if_neg (fun z => e z.symm),List.getElem?_set]
    by_cases e2:i = x
    · subst e2
      rw [if_pos rfl,if_pos li,if_pos rfl]
    · rw [if_neg e2,if_neg (fun z => e2 z.symm)]
theorem nodup_swap {l:List Addr} {i j:Nat} {a b:Addr} (h:l.Nodup) (hi:l[i]? = some a) (hj:l[j]? = some b):((l.set i b).set j a).Nodup:=by
  refine nodup_of_inj fun x y c hx hy => ?_
  rw [get_swap hi hj] at hx hy
  have inj:=fun {p q:Nat} {d:Addr} (h1:l[p]? = some d) (h2:l[q]? = some d) => nodup_inj h h1 h2
  by_cases x1:x = j
  · rw [if_pos x1] at hx
    cases hx
    by_cases y1:y = j
    · omega
    · rw [if_neg y1] at hy
      by_cases y2:y = i
      · rw [if_pos y2] at hy; cases hy; have:=inj hi hj; omega
      · rw [if_neg y2] at hy; have:=inj hi hy; omega
  · rw [if_neg x1] at hx
    by_cases x2:x = i
    · rw [if_pos x2] at hx
      cases hx
      by_cases y1:y = j
      · rw [if_pos y1] at hy; cases hy; have:=inj hi hj; omega
      · rw [if_neg y1] at hy
        by_cases y2:y = i
        · omega
        · rw [if_neg y2] at hy; have:=inj hj hy; omega
    · rw [if_neg x2] at hx
      by_cases y1:y = j
      · rw [if_pos y1] at hy; cases hy; have:=inj hi hx; omega
      · rw [if_neg y1] at hy
        by_cases y2:y = i
        · rw [if_pos y2] at hy; cases hy; have:=inj hj hx; omega
        · rw [if_neg y2] at hy; exact inj hx hy
theorem mem_swap {l:List Addr} {i j:Nat} {a b c:Addr} (hi:l[i]? = some a) (hj:l[j]? = some b) (m:c ∈ (l.set i b).set j a):c ∈ l:=by
  rcases List.mem_or_eq_of_mem_set m with m | rfl
  · rcases List.mem_or_eq_of_mem_set m with m | rfl
    · exact m
    · exact List.mem_of_getElem? hj
  · exact List.mem_of_getElem? hi
def Tn.pre {κ:KX} (R:List (List κ.F)):Tn κ → Prop
  | .swap _ _ => True
  | .scale i c => B1 κ c ∧ ∀ x ∈ R.getD i.toNat [],B1 κ x
  | .add i j c => B1 κ c ∧ (∀ x ∈ R.getD i.toNat [],B1 κ x) ∧ ∀ y ∈ R.getD j.toNat [],B1 κ y ∧ B1 κ (c * y)
def sp_place:Sp:=fun vs H Q _ => ∃ (r:Addr) (xs:List V) (i:Int),vs = [.ref r,.int i] ∧ H r = some (.lst xs) ∧ Q (.bl (decide (0 ≤ i) && decide (i < xs.length))) H
def sp_is_turn (CF CR:Addr):Sp:=fun vs H Q _ => ∃ (κ:KX) (s r:Addr) (xs:List V) (tv:V) (t:Tn κ),vs = [.ref s,.ref r,tv] ∧ KdX CF CR κ H s ∧ H r = some (.lst xs) ∧ TR κ H tv t ∧ ∀ b:Bool,(b = true ↔ t.ok xs.length) → Q (.bl b) H
def sp_make_turn (CF CR:Addr):Sp:=fun vs H Q _ => ∃ (κ:KX) (s r:Addr) (as:List Addr) (R:List (List κ.F)) (tv:V) (t:Tn κ),vs = [.ref s,.ref r,tv] ∧ KdX CF CR κ H s ∧ H r = some (.lst (as.map V.ref)) ∧ RowsX κ H as R ∧ r ∉ as ∧ (∀ f ∈ R,f.length ≤ 1000) ∧ TR κ H tv t ∧ t.ok R.length ∧ t.pre R ∧
  ∀ (H':Hp) (as':List Addr),Off [r] H H' → H' r = some (.lst (as'.map V.ref)) → RowsX κ H' as' (doT t R) → r ∉ as' → (as.Nodup → as'.Nodup) → (∀ a ∈ as',a ∈ as ∨ H a = none) → Q .non H'
def Nought (P:Program) (w:World) (K:PySem.W.Frag) (mg:Str → Option Value) (base:Heap) (CF CR:Addr):Prop :=
  ∀ (κ:KX) (H:Hp) (s:Addr),KdX CF CR κ H s → ∃ C dx fs ps dvs sp,H s = some (.ins C dx fs) ∧ Cls K C ∧ HasM P w K mg base C "is_nought" 2 ps dvs sp ∧ fs.lookup ("is_nought" : Str) = none ∧ dvs = [] ∧
    ∀ (u:V) (x:κ.F) (Q:VK),NR κ H u x → (∀ b:Bool,(b = true ↔ x = 0) → Q (.bl b) H) → sp [.ref s,u] H Q E0
noncomputable def runT {κ:KX} (ts:List (Tn κ)) (R:List (List κ.F)):List (List κ.F):=ts.foldl (fun R t => doT t R) R
theorem runT_len {κ:KX} (ts:List (Tn κ)):∀ R:List (List κ.F),(runT ts R).length = R.length:=by
  induction ts with
  | nil => exact fun R => rfl
  | cons t ts ih => exact fun R => by show (runT ts (doT t R)).length = _; rw [ih,doT_len]
theorem runT_snoc {κ:KX} (ts:List (Tn κ)) (t:Tn κ) (R:List (List κ.F)):runT (ts ++ [t]) R = doT t (runT ts R):=by
  unfold runT
  rw [List.foldl_append]
  rfl
theorem getD_get {α:Type} {R:List (List α)} {i:Nat} {f:List α} (h:R[i]? = some f):R.getD i [] = f:=by rw [List.getD_eq_getElem?_getD,h]; rfl
def Wid {α:Type} (m:Nat) (R:List (List α)):Prop:=∀ f ∈ R,f.length = m
theorem Wid.get {α:Type} {m:Nat} {R:List (List α)} (h:Wid m R) {i:Nat} (hi:i < R.length):(R.getD i []).length = m:=by
  rw [getD_get (List.getElem?_eq_getElem hi)]
  exact h _ (List.getElem_mem hi)
theorem Wid.set {α:Type} {m i:Nat} {R:List (List α)} {f:List α} (h:Wid m R) (e:f.length = m):Wid m (R.set i f):=fun g hg => by
  rcases List.mem_or_eq_of_mem_set hg with hg | rfl
  · exact h g hg
  · exact e
theorem doT_wid {κ:KX} {m:Nat} {t:Tn κ} {R:List (List κ.F)} (h:Wid m R) (ok:t.ok R.length):Wid m (doT t R):=by
  cases t with
  | swap i j =>
    obtain ⟨hi,hj,_⟩:=ok
    exact (h.set (h.get (by omega))).set (h.get (by omega))
  | scale i c =>
    obtain ⟨hi,_⟩:=ok
    refine h.set ?_
    rw [List.length_map]
    exact h.get (by omega)
  | add i j c =>
    obtain ⟨hi,hj,_⟩:=ok
    refine h.set ?_
    rw [List.length_zipWith,List.length_map,h.get (by omega),h.get (by omega)]
    exact Nat.min_self m
def sp_done (CF CR cT:Addr):Sp:=fun vs H Q E => ∃ (κ:KX) (s tb tu:Addr) (rs:List Addr) (R:List (List κ.F)) (tvs:List V) (ts:List (Tn κ)) (m:Nat),vs = [.ref s,.ref tb,.ref tu] ∧ KdX CF CR κ H s ∧ H tb = some (.lst (rs.map V.ref)) ∧ RowsX κ H rs R ∧ R.length ≤ 1000 ∧ Wid m R ∧ m ≤ 1000 ∧ H tu = some (.lst tvs) ∧ AllG (TR κ H) tvs ts ∧
  (∀ (i:Nat) t,ts[i]? = some t → (∀ t' ∈ ts.take (i + 1),t'.ok R.length) → t.pre (runT (ts.take i) R)) ∧
  ((∀ t ∈ ts,t.ok R.length) → ∀ (H':Hp) (D:Addr) (as:List Addr),Same H H' → H D = none → H' D = some (.lst (as.map V.ref)) → RowsX κ H' as (runT ts R) → as.Nodup → D ∉ as → (∀ a ∈ as,H a = none) → Q (.ref D) H') ∧
  ((∃ t ∈ ts,¬ t.ok R.length) → ∀ H',Same H H' → E (.ref cT) none H')
theorem off_upd' {H H':Hp} {t:Addr} {o:HO} (S:Same H H'):Off [t] H (upd H' t o):=fun b u n q => by
  rw [upd_ne (fun z => n (by rw [z]; exact List.mem_singleton.mpr rfl))]
  exact S _ _ q
theorem ref_atI {as:List Addr} {i:Int} {a:Addr} (h0:0 ≤ i) (h:as[i.toNat]? = some a):atI (as.map V.ref) i = some (.ref a):=by
  have e:i = ((i.toNat:Nat):Int):=by omega
  rw [e]
  exact ref_at h
theorem ixN_int {n:Nat} {i:Int} (h0:0 ≤ i) (h:i < n):ixN n i = some i.toNat:=by
  have e:i = ((i.toNat:Nat):Int):=by omega
  rw [e,Int.toNat_natCast]
  exact ixN_nat (by omega)
theorem map_set_ref {as:List Addr} {i:Nat} {a:Addr}:(as.map V.ref).set i (.ref a) = (as.set i a).map V.ref:=by rw [List.map_set]
theorem RowsX.notin {κ:KX} {H:Hp} {as:List Addr} {R:List (List κ.F)} {r:Addr} (h:RowsX κ H as R) (n:H r = none):r ∉ as:=fun m => by
  obtain ⟨i,hi,e⟩:=List.getElem_of_mem m
  have l:=h.1
  obtain ⟨zs,hz,_⟩:=h.2 i r _ (by rw [← e]; exact List.getElem?_eq_getElem hi) (List.getElem?_eq_getElem (show i < R.length by omega))
  rw [hz] at n; cases n
theorem RowsX.snoc {κ:KX} {H:Hp} {as:List Addr} {R:List (List κ.F)} {a:Addr} {xs:List V} {f:List κ.F} (h:RowsX κ H as R) (hx:H a = some (.lst xs)) (al:AllG (NR κ H) xs f):RowsX κ H (as ++ [a]) (R ++ [f]):=by
  have l:=h.1
  refine ⟨by rw [List.length_append,List.length_append,l]; rfl,fun i b g hb hg => ?_⟩
  by_cases hi:i < as.length
  · rw [List.getElem?_append_left hi] at hb
    rw [List.getElem?_append_left (by omega)] at hg
    exact h.2 i b g hb hg
  · rw [List.getElem?_append_right (by omega)] at hb hg
    rw [← l] at hg
    cases q:i - as.length with
    | zero => rw [q] at hb hg; cases hb; cases hg; exact ⟨xs,hx,al⟩
    | succ n => rw [q] at hb; simp at hb
theorem RowsX.nil {κ:KX} {H:Hp}:RowsX κ H [] []:=⟨rfl,fun i a f h => by simp at h⟩
theorem nodup_snoc {l:List Addr} {a:Addr} (h:l.Nodup) (n:a ∉ l):(l ++ [a]).Nodup:=by
  rw [List.nodup_append]
  exact ⟨h,by simp,fun x hx y hy => by rw [List.mem_singleton] at hy; subst hy; exact fun z => n (z ▸ hx)⟩
open PySem L2 PyProof.Rows
def Sz (κ:KX) (n:Nat) (x:κ.F):Prop:=match κ with
  | .q => (x.den:Int) ∣ 60 * 12 ^ n ∧ Bits (200 + 700 * n) x.num
  | .r _ _ => True
def Sc (κ:KX) (x:κ.F):Prop:=match κ with
  | .q => (x.den:Int) ∣ 12 ∧ Bits 200 x.num
  | .r _ _ => True
theorem if_yes' {a b:Int} {A B:Prop} (h:a = b) (k:A):if decide (V.int a = V.int b) = true then A else B:=if_eqI (fun _ => k) (fun z => absurd h z)
theorem if_no' {a b:Int} {A B:Prop} (h:a ≠ b) (k:B):if decide (V.int a = V.int b) = true then A else B:=if_eqI (fun z => absurd z h) (fun _ => k)
def TSc {κ:KX}:Tn κ → Prop
  | .swap _ _ => True
  | .scale _ c => Sc κ c
  | .add _ _ c => Sc κ c
noncomputable abbrev K1 (κ:KX):κ.F:=1
noncomputable abbrev K0 (κ:KX):κ.F:=0
theorem one_val {p:Nat} (h:PrN p):Fin.val (K1 (.r p h)) = 1:=by
  show 1 % p = 1
  exact Nat.mod_eq_of_lt h.two
theorem zero_val {p:Nat} (h:PrN p):Fin.val (K0 (.r p h)) = 0:=by
  show 0 % p = 0
  exact Nat.zero_mod p
theorem fmodN {a:Int} {n:Nat} (h:1 ≤ n):∃ i:Nat,a.fmod (n:Int) = (i:Int) ∧ i < n:=by
  rw [Int.fmod_eq_emod_of_nonneg _ (by omega)]
  have e0:=Int.emod_nonneg a (show (n:Int) ≠ 0 by omega)
  have e1:=Int.emod_lt_of_pos a (show 0 < (n:Int) by omega)
  exact ⟨(a % n).toNat,by omega,by omega⟩
def tabD {κ:KX} (R:List (List κ.F)):PyData:=.list (R.map fun f => .list (f.map κ.D))
theorem RowsX.rp {κ:KX} {H:Hp} {t:Addr} {as:List Addr} {R:List (List κ.F)} (h:RowsX κ H as R) (ht:H t = some (.lst (as.map V.ref))):Rp H 3 (.ref t) (tabD R):=by
  refine rp_lst ht ⟨by rw [List.length_map,List.length_map]; exact h.1,fun i v d hv hd => ?_⟩
  obtain ⟨a,ha,rfl⟩:=map_ref_get hv
  rw [List.getElem?_map] at hd
  cases e:R[i]? with
  | none => rw [e] at hd; cases hd
  | some f =>
    rw [e] at hd
    cases hd
    obtain ⟨xs,hx,al⟩:=h.2 i a f ha e
    exact rp_lst hx (al.all2 fun _ _ n => n.rp)
theorem runT_wid {κ:KX} {m:Nat} {ts:List (Tn κ)}:∀ {R:List (List κ.F)},Wid m R → (∀ t ∈ ts,t.ok R.length) → Wid m (runT ts R):=by
  induction ts with
  | nil => exact fun h _ => h
  | cons t ts ih =>
    intro R h ok
    show Wid m (runT ts (doT t R))
    refine ih (doT_wid h (ok t (by simp))) fun t' ht' => ?_
    rw [doT_len]
    exact ok t' (by simp [ht'])
section
variable {κ:KX}
theorem AllR.getD {Pr:κ.F → Prop} {R:List (List κ.F)} (h:AllR Pr R) (i:Nat):∀ x ∈ R.getD i [],Pr x:=fun x hx => by
  rw [List.getD_eq_getElem?_getD] at hx
  cases e:R[i]? with
  | none => rw [e] at hx; cases hx
  | some f => rw [e] at hx; exact h f (List.mem_of_getElem? e) x hx
theorem AllR.set {Pr:κ.F → Prop} {R:List (List κ.F)} {i:Nat} {f:List κ.F} (h:AllR Pr R) (g:∀ x ∈ f,Pr x):AllR Pr (R.set i f):=fun e he => by
  rcases List.mem_or_eq_of_mem_set he with he | rfl
  · exact h e he
  · exact g
end
structure TU (κ:KX) (H:Hp) (U:Addr) (n:Nat) (tvs:List V) (ts:List (Tn κ)):Prop where
  l:H U = some (.lst tvs)
  al:AllG (TR κ H) tvs ts
  ok:∀ t ∈ ts,t.ok n
  sc:∀ t ∈ ts,TSc t
  l1:1 ≤ ts.length
  l3:ts.length ≤ 300
  lq:κ = .q → ts.length ≤ 64
theorem cut_takeX (xs:List V) (n:Nat):cutV xs none (some (n:Int)) = xs.take n:=by
  unfold cutV
  rw [HT.sIx_none,List.drop_zero,Nat.sub_zero]
  rw [HT.sIx_nat,Nat.min_def]
  split
  · rfl
  · rw [List.take_of_length_le (Nat.le_refl _),List.take_of_length_le (by omega)]
end My
namespace My
open PySem L2 PyProof.Rows
theorem inv_uniq {α:Type} [Fd α] {x r:α} (h:x * r = 1):r = Fd.inv x:=by
  have hx:x ≠ 0:=fun z => by
    subst z
    have e:(0:α) * r = 0:=by grind
    rw [e] at h
    exact Fd.zne h
  have:=Fd.mul_inv x hx
  grind
theorem rat_mk {n d:Int} (fc:Fc n d):∃ q:Rat,q.num = n ∧ (q.den:Int) = d:=by
  have hd:=fc.pos
  refine ⟨⟨n,d.toNat,by omega,?_⟩,rfl,by show ((d.toNat:Nat):Int) = d; omega⟩
  have:=fc.cop
  rw [Nat.coprime_iff_gcd_eq_one]
  have e:Int.gcd n d = Nat.gcd n.natAbs d.natAbs:=rfl
  have e2:d.natAbs = d.toNat:=by omega
  rw [← e2]
  omega
noncomputable abbrev KX.mulF (κ:KX) (x y:κ.F):κ.F:=x * y
noncomputable abbrev KX.invF (κ:KX) (x:κ.F):κ.F:=Fd.inv x
theorem inv_uniqK {κ:KX} {x r:κ.F} (h:κ.mulF x r = K1 κ):r = κ.invF x:=inv_uniq h
def NumV (κ:KX) (t:Int) (x:κ.F):Prop:=match κ with
  | .q => x.num = t ∧ x.den = 1
  | .r p _ => t.natAbs ≤ 10 ^ 140 ∧ (x.val:Int) = t % p
theorem numV0 {κ:KX}:NumV κ 0 0:=by
  cases κ with
  | q => exact ⟨rfl,rfl⟩
  | r p h => exact ⟨by decide,by show ((Fin.val (K0 (.r p h)):Nat):Int) = _; rw [zero_val]; simp⟩
theorem numV1 {κ:KX}:NumV κ 1 1:=by
  cases κ with
  | q => exact ⟨rfl,rfl⟩
  | r p h => exact ⟨by decide,by
      show ((Fin.val (K1 (.r p h)):Nat):Int) = _
      rw [one_val]
      have:=h.two
      exact (Int.emod_eq_of_lt (by decide) (by omega)).symm⟩
theorem NumV.uniq {κ:KX} {t:Int} {x y:κ.F} (h:NumV κ t x) (h':NumV κ t y):x = y:=by
  cases κ with
  | q =>
    have e1:Rat.num x = Rat.num y:=h.1.trans h'.1.symm
    have e2:Rat.den x = Rat.den y:=h.2.trans h'.2.symm
    exact Rat.ext e1 e2
  | r p hp =>
    refine Fin.ext ?_
    have e:(Fin.val x:Int) = Fin.val y:=h.2.trans h'.2.symm
    omega
def MethM (P:Program) (w:World) (K:PySem.W.Frag) (mg:Str → Option Value) (base:Heap) (CF CR:Addr):Prop :=
  ∀ (κ:KX) (H:Hp) (s:Addr),KdX CF CR κ H s → ∃ C dx fs ps dvs sp,H s = some (.ins C dx fs) ∧ Cls K C ∧ HasM P w K mg base C "minus" 3 ps dvs sp ∧ fs.lookup ("minus" : Str) = none ∧ dvs = [] ∧
    ∀ (H':Hp) (u v:V) (x y:κ.F) (Q:VK),Same H H' → NR κ H' u x → NR κ H' v y → B1 κ x → B1 κ y → (∀ t H'',Same H' H'' → NR κ H'' t (x - y) → Q t H'') → sp [.ref s,u,v] H' Q E0
def MethNum (P:Program) (w:World) (K:PySem.W.Frag) (mg:Str → Option Value) (base:Heap) (CF CR:Addr):Prop :=
  ∀ (κ:KX) (H:Hp) (s:Addr),KdX CF CR κ H s → ∃ C dx fs ps dvs sp,H s = some (.ins C dx fs) ∧ Cls K C ∧ HasMX P w K mg base C "number" 3 ps dvs sp ∧ fs.lookup ("number" : Str) = none ∧ dvs = [.int 1] ∧
    ∀ (H':Hp) (t:Int) (x:κ.F) (Q:VK) (E:XK),Same H H' → NumV κ t x → (∀ v H'',Same H' H'' → NR κ H'' v x → Q v H'') → sp [.ref s,.int t,.int 1] H' Q E
def MethBack (P:Program) (w:World) (K:PySem.W.Frag) (mg:Str → Option Value) (base:Heap) (CF CR:Addr):Prop :=
  ∀ (κ:KX) (H:Hp) (s:Addr),KdX CF CR κ H s → ∃ C dx fs ps dvs sp,H s = some (.ins C dx fs) ∧ Cls K C ∧ HasMX P w K mg base C "back" 4 ps dvs sp ∧ fs.lookup ("back" : Str) = none ∧ dvs = [] ∧
    ∀ (H':Hp) (u:V) (x:κ.F) (Q:VK) (E:XK),Same H H' → NR κ H' u x → x ≠ 0 → (∀ v H'',Same H' H'' → NR κ H'' v (Fd.inv x) → Q v H'') → sp [.ref s,u] H' Q E
section
variable {P:Program} {w:World} {K:PySem.W.Frag} {mg:Str → Option Value} {base:Heap} {CF CR cN:Addr}
theorem meth_minus (kd:Kd K mg CF CR) (hR:HasM P w K mg base CR "minus" 3 ["self", "one", "other"] [] (sp_Rop CR fun a b => a - b)):MethM P w K mg base CF CR:=by
  intro κ H s hk
  cases κ with
  | q => exact hk.elim
  | r p hp =>
    obtain ⟨dx,h⟩:=hk
    refine ⟨CR,dx,fsR p,_,_,_,h,kd.clR,hR,fsR_no _ (by decide),rfl,fun H' u v x y Q S hu hv _ _ k => ?_⟩
    have hu:u = .int x.val:=hu
    have hv:v = .int y.val:=hv
    subst hu hv
    refine ⟨s,p,_,_,rfl,⟨dx,S _ _ h⟩,by have:=hp.two; omega,rest_small hp x,rest_small hp y,k _ H' (Same.refl _) ?_⟩
    show V.int (((x.val:Int) - y.val) % p) = V.int ((Fin.val (x - y):Nat):Int)
    have e:Fin.val (x - y) = (p - y.val + x.val) % p:=rfl
    have ly:=y.isLt
    have e2:(((p - y.val + x.val:Nat)):Int) = ((x.val:Int) - y.val) + p:=by omega
    rw [e,Int.natCast_emod,e2,Int.add_emod_right]
theorem meth_number (kd:Kd K mg CF CR) (hR:HasMX P w K mg base CR "number" 3 ["self", "top", "bottom"] [.int 1] (sp_Rnumber CR cN)):MethNum P w K mg base CF CR:=by
  intro κ H s hk
  cases κ with
  | q => exact hk.elim
  | r p hp =>
    obtain ⟨dx,h⟩:=hk
    have h2:=hp.pr.1
    refine ⟨CR,dx,_,_,_,_,h,kd.clR,hR,fsR_no p (by decide),rfl,fun H' t x Q E S hx k => ⟨s,p,t,1,rfl,⟨dx,S _ _ h⟩,hp.pr,by have:=hp.lt; omega,hx.1,by decide,fun z => ?_,fun _ H'' r S' r0 r1 rd => ?_⟩⟩
    · have:=Int.le_of_dvd (by decide) z
      omega
    · refine k _ H'' S' ?_
      show V.int r = V.int ((Fin.val x:Nat):Int)
      have e:(Fin.val x:Int) = t % p:=hx.2
      rw [e]
      congr 1
      rw [Int.mul_one] at rd
      have e3:r % p = t % p:=Int.emod_eq_emod_iff_emod_sub_eq_zero.mpr (Int.emod_eq_zero_of_dvd rd)
      rw [← e3]
      exact (Int.emod_eq_of_lt r0 r1).symm
theorem meth_back (kd:Kd K mg CF CR) (hR:HasMX P w K mg base CR "back" 4 ["self", "one"] [] (sp_Rback CR cN)):MethBack P w K mg base CF CR:=by
  intro κ H s hk
  cases κ with
  | q => exact hk.elim
  | r p hp =>
    obtain ⟨dx,h⟩:=hk
    have h2:=hp.two
    refine ⟨CR,dx,_,_,_,_,h,kd.clR,hR,fsR_no p (by decide),rfl,fun H' u x Q E S hu hx k => ?_⟩
    have hu:u = .int x.val:=hu
    subst hu
    have xl:=x.isLt
    have x0:x.val ≠ 0:=fun z => hx (show x = K0 (.r p hp) from Fin.ext (by rw [zero_val]; exact z))
    have nd:¬ (p:Int) ∣ (x.val:Int):=fun z => by
      have:=Int.le_of_dvd (by omega) z
      omega
    refine ⟨s,p,_,rfl,⟨dx,S _ _ h⟩,hp.pr,by have:=hp.lt; omega,Nat.le_trans (show _ ≤ 1000000 by have:=hp.lt; omega) (by decide),fun z => absurd z nd,fun _ H'' r S' r0 r1 rd => ?_⟩
    refine k _ H'' S' ?_
    have hy:(KX.r p hp).mulF x (⟨r.toNat,by omega⟩:Fin p) = K1 (.r p hp):=by
      refine Fin.ext ?_
      show Fin.val ((x:Fin p) * (⟨r.toNat,by omega⟩:Fin p)) = Fin.val (K1 (.r p hp))
      rw [one_val,Fin.val_mul]
      show x.val * r.toNat % p = 1
      have e:((x.val * r.toNat % p:Nat):Int) = ((1:Nat):Int):=by
        rw [Int.natCast_emod,Int.natCast_mul,Int.toNat_of_nonneg r0]
        have e3:r * (x.val:Int) % p = 1 % p:=Int.emod_eq_emod_iff_emod_sub_eq_zero.mpr (Int.emod_eq_zero_of_dvd rd)
        rw [Int.mul_comm,e3]
        exact Int.emod_eq_of_lt (by decide) (by omega)
      exact_mod_cast e
    have:=inv_uniqK (κ:=.r p hp) hy
    show V.int r = V.int ((Fin.val ((KX.r p hp).invF x):Nat):Int)
    rw [show (KX.r p hp).invF x = _ from this.symm]
    show V.int r = V.int ((r.toNat:Nat):Int)
    rw [Int.toNat_of_nonneg r0]
end
end My
namespace My
open PySem L2 PyProof.Rows
theorem b1_zero {κ:KX}:B1 κ 0:=by
  cases κ with
  | q => exact ⟨Bits.of (by show (0:Int).natAbs < _; exact Nat.two_pow_pos _),Bits.of (by show (1:Int).natAbs < _; exact Nat.lt_of_lt_of_le (show 1 < 2 ^ 1 by decide) (Nat.pow_le_pow_right (by decide) (by decide)))⟩
  | r p h => trivial
end My
set_option maxHeartbeats 1000000
namespace My
open PySem L2 PyProof.Rows
section
variable {κ:KX}
noncomputable def ent (R:List (List κ.F)) (i j:Nat):κ.F:=(R.getD i []).getD j 0
theorem set_getD {α:Type} {R:List (List α)} {i:Nat} (h:i < R.length):R.set i (R.getD i []) = R:=by
  apply List.ext_getElem?
  intro k
  rw [List.getElem?_set]
  split
  · rename_i e
    subst e
    rw [getD_get (List.getElem?_eq_getElem h),List.getElem?_eq_getElem h]
  · rfl
theorem getD_set_self {α:Type} {R:List (List α)} {i:Nat} {f:List α} (h:i < R.length):(R.set i f).getD i [] = f:=getD_get (by rw [List.getElem?_set,if_pos rfl,if_pos h])
theorem getD_set_ne {α:Type} {R:List (List α)} {i j:Nat} {f:List α} (h:i ≠ j):(R.set i f).getD j [] = R.getD j []:=by
  rw [List.getD_eq_getElem?_getD,List.getD_eq_getElem?_getD,List.getElem?_set,if_neg h]
theorem ent_set {R:List (List κ.F)} {i k j:Nat} {f:List κ.F} (h:i < R.length):ent (R.set i f) k j = if k = i then f.getD j 0 else ent R k j:=by
  unfold ent
  by_cases e:k = i
  · subst e; rw [if_pos rfl,getD_set_self h]
  · rw [if_neg e,getD_set_ne (Ne.symm e)]
theorem getD_mul (f:List κ.F) (c:κ.F) (j:Nat):(f.map (c * ·)).getD j 0 = c * f.getD j 0:=by
  rw [List.getD_eq_getElem?_getD,List.getD_eq_getElem?_getD,List.getElem?_map]
  cases f[j]? with
  | none => show (0:κ.F) = c * 0; grind
  | some x => rfl
theorem getD_add {f g:List κ.F} (h:f.length = g.length) (j:Nat):(List.zipWith (· + ·) f g).getD j 0 = f.getD j 0 + g.getD j 0:=by
  rw [List.getD_eq_getElem?_getD,List.getD_eq_getElem?_getD,List.getD_eq_getElem?_getD,List.getElem?_zipWith]
  by_cases hj:j < f.length
  · rw [List.getElem?_eq_getElem hj,List.getElem?_eq_getElem (by omega)]; rfl
  · rw [List.getElem?_eq_none (by omega),List.getElem?_eq_none (by omega)]
    show (0:κ.F) = 0 + 0
    grind
theorem ent_swap {R:List (List κ.F)} {a b:Int} (ha:a.toNat < R.length) (hb:b.toNat < R.length) (i j:Nat):ent (doT (.swap a b) R) i j = if i = b.toNat then ent R a.toNat j else if i = a.toNat then ent R b.toNat j else ent R i j:=by
  show ent ((R.set a.toNat (R.getD b.toNat [])).set b.toNat (R.getD a.toNat [])) i j = _
  rw [ent_set (by rw [List.length_set]; exact hb),ent_set ha]
  rfl
theorem ent_scale {R:List (List κ.F)} {a:Int} {c:κ.F} (ha:a.toNat < R.length) (i j:Nat):ent (doT (.scale a c) R) i j = if i = a.toNat then c * ent R i j else ent R i j:=by
  show ent (R.set a.toNat ((R.getD a.toNat []).map (c * ·))) i j = _
  rw [ent_set ha,getD_mul]
  by_cases e:i = a.toNat
  · rw [if_pos e,if_pos e,e]; rfl
  · rw [if_neg e,if_neg e]
theorem ent_add {m:Nat} {R:List (List κ.F)} {a b:Int} {c:κ.F} (wd:Wid m R) (ha:a.toNat < R.length) (hb:b.toNat < R.length) (i j:Nat):ent (doT (.add a b c) R) i j = if i = a.toNat then ent R i j + c * ent R b.toNat j else ent R i j:=by
  show ent (R.set a.toNat (List.zipWith (· + ·) (R.getD a.toNat []) ((R.getD b.toNat []).map (c * ·)))) i j = _
  rw [ent_set ha,getD_add (by rw [List.length_map,wd.get ha,wd.get hb]),getD_mul]
  by_cases e:i = a.toNat
  · rw [if_pos e,if_pos e,e]; rfl
  · rw [if_neg e,if_neg e]
theorem RowsX.ent {m:Nat} {H:Hp} {as:List Addr} {R:List (List κ.F)} (rx:RowsX κ H as R) (wd:Wid m R) {i j:Nat} (hi:i < R.length) (hj:j < m):∃ a xs v,as[i]? = some a ∧ H a = some (.lst xs) ∧ xs[j]? = some v ∧ NR κ H v (ent R i j):=by
  obtain ⟨a,xs,ha,hx,al⟩:=rx.get hi
  have l:=wd.get hi
  have e:R.getD i [] = R[i]:=getD_get (List.getElem?_eq_getElem hi)
  rw [e] at l
  obtain ⟨v,hv,nv⟩:=al.get' (i:=j) (by omega)
  refine ⟨a,xs,v,ha,hx,hv,?_⟩
  unfold My.ent
  rw [e,List.getD_eq_getElem?_getD,List.getElem?_eq_getElem (by omega)]
  exact nv
theorem ent_all {m:Nat} {Pr:κ.F → Prop} {R:List (List κ.F)} (wd:Wid m R) (h:∀ i < R.length,∀ j < m,Pr (ent R i j)):AllR Pr R:=by
  intro f hf x hx
  obtain ⟨i,hi,rfl⟩:=List.getElem_of_mem hf
  obtain ⟨j,hj,rfl⟩:=List.getElem_of_mem hx
  have l:=wd _ hf
  have:=h i hi j (by omega)
  unfold ent at this
  rw [getD_get (List.getElem?_eq_getElem hi),List.getD_eq_getElem?_getD,List.getElem?_eq_getElem hj] at this
  exact this
theorem ent_row {m:Nat} {Pr:κ.F → Prop} {R:List (List κ.F)} (wd:Wid m R) {i:Nat} (hi:i < R.length) (h:∀ j < m,Pr (ent R i j)):∀ x ∈ R.getD i [],Pr x:=by
  intro x hx
  obtain ⟨j,hj,rfl⟩:=List.getElem_of_mem hx
  have l:=wd.get hi
  have:=h j (by omega)
  unfold ent at this
  rw [List.getD_eq_getElem?_getD,List.getElem?_eq_getElem hj] at this
  exact this
theorem all_ent {m:Nat} {Pr:κ.F → Prop} {R:List (List κ.F)} (wd:Wid m R) (h:AllR Pr R) {i j:Nat} (hi:i < R.length) (hj:j < m):Pr (ent R i j):=by
  have l:=wd.get hi
  unfold ent
  rw [List.getD_eq_getElem?_getD,List.getElem?_eq_getElem (by omega)]
  refine h _ ?_ _ (List.getElem_mem _)
  rw [getD_get (List.getElem?_eq_getElem hi)]
  exact List.getElem_mem hi
theorem ent_ext {m:Nat} {R S:List (List κ.F)} (l:R.length = S.length) (w1:Wid m R) (w2:Wid m S) (h:∀ i < R.length,∀ j < m,ent R i j = ent S i j):R = S:=by
  apply List.ext_getElem l
  intro i h1 h2
  have a:=w1 _ (List.getElem_mem h1)
  have b:=w2 _ (List.getElem_mem h2)
  apply List.ext_getElem (by omega)
  intro j h3 h4
  have:=h i h1 j (by omega)
  unfold ent at this
  rw [getD_get (List.getElem?_eq_getElem h1),getD_get (List.getElem?_eq_getElem h2),List.getD_eq_getElem?_getD,List.getElem?_eq_getElem h3,List.getD_eq_getElem?_getD,List.getElem?_eq_getElem h4] at this
  exact this
theorem doT_one {m:Nat} {R:List (List κ.F)} {a:Int} (wd:Wid m R) (ha:a.toNat < R.length) (ok:(Tn.scale (κ:=κ) a 1).ok R.length):doT (.scale a 1) R = R:=by
  refine ent_ext (m:=m) (doT_len _ _) (doT_wid wd ok) wd fun i hi j hj => ?_
  rw [ent_scale ha]
  split
  · grind
  · rfl
theorem doT_nil {m:Nat} {R:List (List κ.F)} {a b:Int} (wd:Wid m R) (ok:(Tn.add (κ:=κ) a b 0).ok R.length):doT (.add a b 0) R = R:=by
  obtain ⟨⟨a0,a1⟩,⟨b0,b1⟩,ne⟩:=id ok
  refine ent_ext (m:=m) (doT_len _ _) (doT_wid wd ok) wd fun i hi j hj => ?_
  rw [ent_add wd (by omega) (by omega)]
  split
  · grind
  · rfl
def QS (κ:KX) (D:Int) (a:Nat) (x:κ.F):Prop:=match κ with
  | .q => ∃ X:Int,x = Rat.divInt X D ∧ Bits a X
  | .r _ _ => True
theorem QS.mono {D:Int} {a b:Nat} {x:κ.F} (h:QS κ D a x) (l:a ≤ b):QS κ D b x:=by
  cases κ with
  | r p hp => exact trivial
  | q => obtain ⟨X,e,hX⟩:=h; exact ⟨X,e,hX.up l⟩
theorem QS.mul {D E:Int} {a b:Nat} {x y:κ.F} (h:QS κ D a x) (g:QS κ E b y):QS κ (D * E) (a + b) (x * y):=by
  cases κ with
  | r p hp => exact trivial
  | q =>
    obtain ⟨X,rfl,hX⟩:=h
    obtain ⟨Y,rfl,hY⟩:=g
    exact ⟨X * Y,Rat.divInt_mul_divInt _ _,hX.times hY⟩
theorem QS.add {D:Int} (hD:0 < D) {a:Nat} {x y:κ.F} (h:QS κ D a x) (g:QS κ D a y):QS κ D (a + 1) (x + y):=by
  cases κ with
  | r p hp => exact trivial
  | q =>
    obtain ⟨X,rfl,hX⟩:=h
    obtain ⟨Y,rfl,hY⟩:=g
    refine ⟨X + Y,?_,hX.plus hY⟩
    show Rat.divInt X D + Rat.divInt Y D = _
    rw [Rat.divInt_add_divInt _ _ (by omega) (by omega),Rat.divInt_eq_divInt_iff (Int.ne_of_gt (Int.mul_pos hD hD)) (by omega),← Int.add_mul,Int.mul_assoc]
theorem QS.neg {D:Int} {a:Nat} {x:κ.F} (h:QS κ D a x):QS κ D a (0 - x):=by
  cases κ with
  | r p hp => exact trivial
  | q =>
    obtain ⟨X,rfl,hX⟩:=h
    refine ⟨-X,?_,hX.le (by omega)⟩
    have e:(0 - Rat.divInt X D:Rat) = -Rat.divInt X D:=by grind
    exact e.trans (Rat.neg_divInt X D)
theorem QS.up {D E:Int} (hD:0 < D) (hE:0 < E) {a e:Nat} {x:κ.F} (h:QS κ D a x) (bE:Bits e E):QS κ (D * E) (a + e) x:=by
  cases κ with
  | r p hp => exact trivial
  | q =>
    obtain ⟨X,rfl,hX⟩:=h
    refine ⟨X * E,?_,hX.times bE⟩
    rw [Rat.divInt_eq_divInt_iff (by omega) (Int.ne_of_gt (Int.mul_pos hD hE)),Int.mul_assoc,Int.mul_comm D E]
theorem QS.b1 {D:Int} (hD:0 < D) {a:Nat} {x:κ.F} (h:QS κ D a x) (bD:Bits 4000 D) (ha:a ≤ 1000000):B1 κ x:=by
  cases κ with
  | r p hp => exact trivial
  | q =>
    obtain ⟨X,rfl,hX⟩:=h
    obtain ⟨z1,z2⟩:=divInt_sz X hD
    exact ⟨bits_dvd z2 (hX.up ha) (num_zero X hD),bits_dvd z1 bD (fun z => by omega)⟩
theorem QS.inv {D:Int} (hD:0 < D) {a d:Nat} (h1:1 ≤ a) {x:κ.F} (h:QS κ D a x) (bD:Bits d D) (h0:x ≠ 0):∃ L:Int,0 < L ∧ Bits a L ∧ QS κ L d (Fd.inv x):=by
  cases κ with
  | r p hp => exact ⟨1,by decide,Bits.of (by show 1 < _; exact Nat.lt_of_lt_of_le (show 1 < 2 ^ 1 by decide) (Nat.pow_le_pow_right (by decide) h1)),trivial⟩
  | q =>
    obtain ⟨X,rfl,hX⟩:=h
    have X0:X ≠ 0:=fun z => by subst z; exact h0 (Rat.zero_divInt D)
    have key:∀ Y L:Int,0 < L → X * Y = D * L → (Fd.inv (Rat.divInt X D):Rat) = Rat.divInt Y L:=fun Y L hL e => by
      refine (inv_uniq (α:=Rat) ?_).symm
      rw [Rat.divInt_mul_divInt,e]
      have:(D * L:Int) ≠ 0:=Int.ne_of_gt (Int.mul_pos hD hL)
      exact Rat.divInt_self' this
    rcases Int.lt_or_gt_of_ne X0 with c | c
    · refine ⟨-X,by omega,hX.le (by omega),-D,key (-D) (-X) (by omega) ?_,bD.le (by omega)⟩
      rw [Int.mul_neg,Int.mul_neg,Int.mul_comm]
    · exact ⟨X,c,hX,D,key D X c (Int.mul_comm _ _),bD⟩
theorem qs_one:QS κ 1 1 1:=by
  cases κ with
  | r p hp => exact trivial
  | q => exact ⟨1,by rfl,Bits.of (by decide)⟩
end
end My
set_option maxHeartbeats 1000000
namespace My
open PySem L2 PyProof.Rows
abbrev B1s (κ:KX) (x:κ.F):Prop:=Bd κ 900000 3700 x
theorem B1s.b1 {κ:KX} {x:κ.F} (h:B1s κ x):B1 κ x:=by
  cases κ with
  | q => exact ⟨h.1.up (by decide),h.2.up (by decide)⟩
  | r p hp => exact trivial
theorem QS.b1s {κ:KX} {D:Int} (hD:0 < D) {a:Nat} {x:κ.F} (h:QS κ D a x) (bD:Bits 3700 D) (ha:a ≤ 900000):B1s κ x:=by
  cases κ with
  | r p hp => exact trivial
  | q =>
    obtain ⟨X,rfl,hX⟩:=h
    obtain ⟨z1,z2⟩:=divInt_sz X hD
    exact ⟨bits_dvd z2 (hX.up ha) (num_zero X hD),bits_dvd z1 bD (fun z => by omega)⟩
def Tn.preS {κ:KX} (R:List (List κ.F)):Tn κ → Prop
  | .swap _ _ => True
  | .scale i c => B1s κ c ∧ ∀ x ∈ R.getD i.toNat [],B1s κ x
  | .add i j c => B1s κ c ∧ (∀ x ∈ R.getD i.toNat [],B1s κ x) ∧ ∀ y ∈ R.getD j.toNat [],B1s κ y ∧ B1s κ (c * y)
theorem Tn.preS.pre {κ:KX} {R:List (List κ.F)} {t:Tn κ} (h:t.preS R):t.pre R:=by
  cases t with
  | swap i j => trivial
  | scale i c => exact ⟨h.1.b1,fun x hx => (h.2 x hx).b1⟩
  | add i j c => exact ⟨h.1.b1,fun x hx => (h.2.1 x hx).b1,fun x hx => ⟨(h.2.2 x hx).1.b1,(h.2.2 x hx).2.b1⟩⟩
section
variable {κ:KX}
structure Ech (R:List (List κ.F)) (n c:Nat) (ls:List Nat) (x:κ.F):Prop where
  le:ls.length ≤ n
  lt:∀ k < ls.length,ls.getD k 0 < c
  inc:∀ k k',k < k' → k' < ls.length → ls.getD k 0 < ls.getD k' 0
  x0:x ≠ 0
  col:∀ k < ls.length,∀ i < n,ent R i (ls.getD k 0) = if i = k then x else 0
  low:∀ i,ls.length ≤ i → i < n → ∀ j < c,ent R i j = 0
  pre:∀ k < ls.length,∀ j < ls.getD k 0,ent R k j = 0
theorem ech_nil {R:List (List κ.F)} {n:Nat}:Ech R n 0 [] 1:=⟨Nat.zero_le _,fun k h => by simp at h,fun k k' _ h => by simp at h,fun z => Fd.zne z.symm,fun k h => by simp at h,fun i _ _ j hj => by omega,fun k h => by simp at h⟩
theorem Ech.skip {R:List (List κ.F)} {n c:Nat} {ls:List Nat} {x:κ.F} (h:Ech R n c ls x) (z:∀ i,ls.length ≤ i → i < n → ent R i c = 0):Ech R n (c + 1) ls x where
  le:=h.le
  lt:=fun k hk => by have:=h.lt k hk; omega
  inc:=h.inc
  x0:=h.x0
  col:=h.col
  low:=fun i h1 h2 j hj => by
    by_cases e:j = c
    · subst e; exact z i h1 h2
    · exact h.low i h1 h2 j (by omega)
  pre:=h.pre
theorem Ech.swap {R:List (List κ.F)} {n c f:Nat} {ls:List Nat} {x:κ.F} (h:Ech R n c ls x) (hn:R.length = n) (h1:ls.length ≤ f) (h2:f < n):Ech (doT (.swap (ls.length:Int) (f:Int)) R) n c ls x:=by
  have e:=ent_swap (R:=R) (a:=(ls.length:Int)) (b:=(f:Int)) (by rw [Int.toNat_natCast]; omega) (by rw [Int.toNat_natCast]; omega)
  simp only [Int.toNat_natCast] at e
  refine ⟨h.le,h.lt,h.inc,h.x0,fun k hk i hi => ?_,fun i a b j hj => ?_,fun k hk j hj => ?_⟩
  · rw [e]
    by_cases e1:i = f
    · rw [if_pos e1,h.col k hk _ (by omega),if_neg (by omega),if_neg (by omega)]
    · rw [if_neg e1]
      by_cases e2:i = ls.length
      · rw [if_pos e2,h.col k hk _ h2,if_neg (by omega),if_neg (by omega)]
      · rw [if_neg e2,h.col k hk i hi]
  · rw [e]
    by_cases e1:i = f
    · rw [if_pos e1]; exact h.low _ (Nat.le_refl _) (by omega) j hj
    · rw [if_neg e1]
      by_cases e2:i = ls.length
      · rw [if_pos e2]; exact h.low _ h1 h2 j hj
      · rw [if_neg e2]; exact h.low i a b j hj
  · rw [e,if_neg (by omega),if_neg (by omega)]
    exact h.pre k hk j hj
noncomputable def newE (R:List (List κ.F)) (l c:Nat) (x:κ.F) (i j:Nat):κ.F:=if i = l then ent R l j else Fd.inv x * (ent R l c * ent R i j + (0 - ent R i c) * ent R l j)
theorem getD_snoc_lt {ls:List Nat} {c k:Nat} (h:k < ls.length):(ls ++ [c]).getD k 0 = ls.getD k 0:=by
  rw [List.getD_eq_getElem?_getD,List.getD_eq_getElem?_getD,List.getElem?_append_left h]
theorem getD_snoc_eq {ls:List Nat} {c:Nat}:(ls ++ [c]).getD ls.length 0 = c:=by
  rw [List.getD_eq_getElem?_getD,List.getElem?_append_right (Nat.le_refl _),Nat.sub_self]; rfl
theorem Ech.pivot {R R':List (List κ.F)} {n c:Nat} {ls:List Nat} {x:κ.F} (h:Ech R n c ls x) (hl:ls.length < n) (h0:ent R ls.length c ≠ 0) (e:∀ i < n,∀ j,ent R' i j = newE R ls.length c x i j):Ech R' n (c + 1) (ls ++ [c]) (ent R ls.length c):=by
  have hx:=Fd.mul_inv x h.x0
  have ln:(ls ++ [c]).length = ls.length + 1:=by simp
  refine ⟨by omega,fun k hk => ?_,fun k k' h1 h2 => ?_,h0,fun k hk i hi => ?_,fun i a b j hj => ?_,fun k hk j hj => ?_⟩
  · rcases Nat.lt_or_ge k ls.length with q | q
    · rw [getD_snoc_lt q]; have:=h.lt k q; omega
    · have:k = ls.length:=by omega
      subst this
      rw [getD_snoc_eq]; omega
  · have q:k < ls.length:=by omega
    rw [getD_snoc_lt q]
    rcases Nat.lt_or_ge k' ls.length with q' | q'
    · rw [getD_snoc_lt q']; exact h.inc k k' h1 q'
    · have:k' = ls.length:=by omega
      subst this
      rw [getD_snoc_eq]; exact h.lt k q
  · rw [e i hi]
    unfold newE
    rcases Nat.lt_or_ge k ls.length with q | q
    · rw [getD_snoc_lt q]
      have c1:=h.col k q ls.length hl
      rw [if_neg (by omega)] at c1
      have c2:=h.col k q i hi
      by_cases e1:i = ls.length
      · rw [if_pos e1,c1,if_neg (by omega)]
      · rw [if_neg e1,c1,c2]
        by_cases e2:i = k
        · rw [if_pos e2,if_pos e2]; grind
        · rw [if_neg e2,if_neg e2]; grind
    · have:k = ls.length:=by omega
      subst this
      rw [getD_snoc_eq]
      by_cases e1:i = ls.length
      · rw [if_pos e1,if_pos e1]
      · rw [if_neg e1,if_neg e1]; grind
  · rw [e i b]
    unfold newE
    rw [if_neg (by omega)]
    by_cases e1:j = c
    · subst e1; grind
    · have z1:=h.low i (by omega) b j (by omega)
      have z2:=h.low ls.length (Nat.le_refl _) hl j (by omega)
      rw [z1,z2]; grind
  · rw [e k (by omega)]
    unfold newE
    rcases Nat.lt_or_ge k ls.length with q | q
    · rw [getD_snoc_lt q] at hj
      have:=h.lt k q
      have z1:=h.pre k q j hj
      have z2:=h.low ls.length (Nat.le_refl _) hl j (by omega)
      rw [if_neg (by omega),z1,z2]; grind
    · have:k = ls.length:=by omega
      subst this
      rw [getD_snoc_eq] at hj
      rw [if_pos rfl]
      exact h.low ls.length (Nat.le_refl _) hl j hj
def dS:Nat → Nat | 0 => 1 | 1 => 3 | 2 => 306 | 3 => 1214 | _ => 3636
def aS:Nat → Nat | 0 => 300 | 1 => 602 | 2 => 1208 | 3 => 2723 | _ => 6661
def dL:Nat → Nat | 0 => 1 | k + 1 => dS k
def aL:Nat → Nat | 0 => 1 | k + 1 => aS k
theorem sz_num {k:Nat} (h:k < 4):2 * dS k + aL k ≤ dS (k + 1) ∧ 2 * aS k + 1 + dL k ≤ aS (k + 1) ∧ aS k + dS k + aL k ≤ aS (k + 1) ∧ 2 * dS k ≤ 3700 ∧ aL k ≤ 3700 ∧ 1 ≤ aL k ∧ 2 * aS k + 1 ≤ 900000 ∧ dL k ≤ 900000:=by
  match k,h with
  | 0,_ => decide
  | 1,_ => decide
  | 2,_ => decide
  | 3,_ => decide
def Stg (κ:KX) (R:List (List κ.F)) (k:Nat) (x:κ.F):Prop:=κ = .q → ∃ D D':Int,0 < D ∧ Bits (dS k) D ∧ AllR (QS κ D (aS k)) R ∧ 0 < D' ∧ Bits (dL k) D' ∧ QS κ D' (aL k) x
structure PivB (x:κ.F) (PQ PN:κ.F → Prop):Prop where
  ent:∀ y,PQ y → B1s κ y
  neg:∀ y,PQ y → B1s κ (0 - y)
  mul:∀ h y,PQ h → PQ y → B1s κ (h * y)
  nml:∀ z e,PQ z → PQ e → B1s κ ((0 - z) * e)
  sum:∀ h y z e,PQ h → PQ y → PQ z → PQ e → B1s κ (h * y + (0 - z) * e)
  inv:B1s κ (Fd.inv x)
  new:∀ h y z e,PQ h → PQ y → PQ z → PQ e → PN (Fd.inv x * (h * y + (0 - z) * e))
  keep:∀ y,PQ y → PN y
theorem b1_r {p:Nat} {hp:PrN p} {x:(KX.r p hp).F}:B1s (.r p hp) x:=trivial
theorem stg_piv {R:List (List κ.F)} {k:Nat} {x:κ.F} (h:Stg κ R k x) (x0:x ≠ 0) (hk:κ = .q → k < 4):∃ PQ PN:κ.F → Prop,AllR PQ R ∧ PivB x PQ PN ∧ ∀ R' y,AllR PN R' → PQ y → Stg κ R' (k + 1) y:=by
  cases κ with
  | r p hp =>
    refine ⟨fun _ => True,fun _ => True,fun _ _ _ _ => trivial,⟨fun _ _ => b1_r,fun _ _ => b1_r,fun _ _ _ _ => b1_r,fun _ _ _ _ => b1_r,fun _ _ _ _ _ _ _ _ => b1_r,b1_r,fun _ _ _ _ _ _ _ _ => trivial,fun _ _ => trivial⟩,fun R' y _ _ z => nomatch z⟩
  | q =>
    obtain ⟨n1,n2,n3,n4,n5,n6,n7,n8⟩:=sz_num (hk rfl)
    obtain ⟨D,D',hD,bD,qR,hD',bD',qx⟩:=h rfl
    obtain ⟨L,hL,bL,qI⟩:=QS.inv hD' n6 qx bD' x0
    have hDD:0 < D * D:=Int.mul_pos hD hD
    have bDD:Bits (2 * dS k) (D * D):=(bD.times bD).up (by omega)
    have bDD4:Bits 3700 (D * D):=bDD.up n4
    have qm:∀ h y:Rat,QS .q D (aS k) h → QS .q D (aS k) y → QS .q (D * D) (2 * aS k) (h * y):=fun h y a b => (QS.mul (κ:=.q) a b).mono (by omega)
    have qs:∀ h y z e:Rat,QS .q D (aS k) h → QS .q D (aS k) y → QS .q D (aS k) z → QS .q D (aS k) e → QS .q (D * D) (2 * aS k + 1) (h * y + (0 - z) * e):=fun h y z e a b c d => QS.add (κ:=.q) hDD (qm h y a b) (qm _ e (QS.neg (κ:=.q) c) d)
    refine ⟨QS .q D (aS k),QS .q (D * D * L) (aS (k + 1)),qR,⟨fun y a => QS.b1s hD a (bD.up (by omega)) (by omega),fun y a => QS.b1s hD (QS.neg (κ:=.q) a) (bD.up (by omega)) (by omega),fun h y a b => QS.b1s hDD (qm h y a b) bDD4 (by omega),fun z e a b => QS.b1s hDD (qm _ e (QS.neg (κ:=.q) a) b) bDD4 (by omega),fun h y z e a b c d => QS.b1s hDD (qs h y z e a b c d) bDD4 (by omega),QS.b1s hL qI (bL.up n5) n8,fun h y z e a b c d => ?_,fun y a => ?_⟩,fun R' y a b _ => ?_⟩
    · have:=QS.mul (κ:=.q) qI (qs h y z e a b c d)
      rw [Int.mul_comm L] at this
      exact this.mono (by omega)
    · have:=QS.up (κ:=.q) hD (Int.mul_pos hD hL) a (bD.times bL)
      rw [← Int.mul_assoc] at this
      exact this.mono (by omega)
    · exact ⟨D * D * L,D,Int.mul_pos hDD hL,(bDD.times bL).up (by omega),a,hD,bD,b⟩
end
end My
set_option maxHeartbeats 1000000
namespace My
open PySem L2 PyProof.Rows
theorem nr_eq {κ:KX} {H:Hp} {u v:V} {x y:κ.F} (hu:NR κ H u x) (hv:NR κ H v y):∃ b,EqNum H u v b ∧ (b = true ↔ x = y):=by
  cases κ with
  | q =>
    obtain ⟨a,rfl,ha⟩:=hu
    obtain ⟨c,rfl,hc⟩:=hv
    refine ⟨_,.inr ⟨a,c,_,_,_,_,rfl,rfl,ha,hc,rfl⟩,?_⟩
    rw [Bool.and_eq_true_iff,decide_eq_true_iff,decide_eq_true_iff]
    constructor
    · rintro ⟨e1,e2⟩
      exact Rat.ext e1 (by omega)
    · intro e
      have e:x = y:=e
      subst e
      exact ⟨rfl,rfl⟩
  | r p hp =>
    have hu:u = .int x.val:=hu
    have hv:v = .int y.val:=hv
    refine ⟨_,.inl ⟨_,_,hu,hv,rfl⟩,?_⟩
    rw [decide_eq_true_iff]
    constructor
    · intro e; exact Fin.ext (by omega)
    · intro e
      have e:x = y:=e
      subst e; rfl
def Tn.idle {κ:KX}:Tn κ → Prop
  | .swap _ _ => False
  | .scale _ c => c = 1
  | .add _ _ c => c = 0
theorem doT_idle {κ:KX} {m:Nat} {t:Tn κ} {R:List (List κ.F)} (wd:Wid m R) (ok:t.ok R.length) (h:t.idle):doT t R = R:=by
  cases t with
  | swap i j => exact absurd h id
  | scale i c =>
    have h:c = 1:=h
    subst h
    exact doT_one wd (by have:=ok.1; omega) ok
  | add i j c =>
    have h:c = 0:=h
    subst h
    exact doT_nil wd ok
section
variable {κ:KX}
theorem getD_map {g:List κ.F → List κ.F} (g0:g [] = []) (R:List (List κ.F)) (i:Nat):(R.map g).getD i [] = g (R.getD i []):=by
  rw [List.getD_eq_getElem?_getD,List.getD_eq_getElem?_getD,List.getElem?_map]
  cases R[i]? with
  | none => exact g0.symm
  | some f => rfl
theorem take_doT (pw:Nat) (t:Tn κ) (R:List (List κ.F)):(doT t R).map (List.take pw) = doT t (R.map (List.take pw)):=by
  have gd:=getD_map (κ:=κ) (g:=List.take pw) List.take_nil R
  cases t with
  | swap i j =>
    show ((R.set i.toNat (R.getD j.toNat [])).set j.toNat (R.getD i.toNat [])).map (List.take pw) = ((R.map (List.take pw)).set i.toNat ((R.map (List.take pw)).getD j.toNat [])).set j.toNat ((R.map (List.take pw)).getD i.toNat [])
    rw [List.map_set,List.map_set,gd,gd]
  | scale i c =>
    show (R.set i.toNat ((R.getD i.toNat []).map (c * ·))).map (List.take pw) = (R.map (List.take pw)).set i.toNat (((R.map (List.take pw)).getD i.toNat []).map (c * ·))
    rw [List.map_set,gd,List.map_take]
  | add i j c =>
    show (R.set i.toNat (List.zipWith (· + ·) (R.getD i.toNat []) ((R.getD j.toNat []).map (c * ·)))).map (List.take pw) = (R.map (List.take pw)).set i.toNat (List.zipWith (· + ·) ((R.map (List.take pw)).getD i.toNat []) (((R.map (List.take pw)).getD j.toNat []).map (c * ·)))
    rw [List.map_set,gd,gd,List.take_zipWith,List.map_take]
theorem drop_doT (pw:Nat) (t:Tn κ) (R:List (List κ.F)):(doT t R).map (List.drop pw) = doT t (R.map (List.drop pw)):=by
  have gd:=getD_map (κ:=κ) (g:=List.drop pw) List.drop_nil R
  cases t with
  | swap i j =>
    show ((R.set i.toNat (R.getD j.toNat [])).set j.toNat (R.getD i.toNat [])).map (List.drop pw) = ((R.map (List.drop pw)).set i.toNat ((R.map (List.drop pw)).getD j.toNat [])).set j.toNat ((R.map (List.drop pw)).getD i.toNat [])
    rw [List.map_set,List.map_set,gd,gd]
  | scale i c =>
    show (R.set i.toNat ((R.getD i.toNat []).map (c * ·))).map (List.drop pw) = (R.map (List.drop pw)).set i.toNat (((R.map (List.drop pw)).getD i.toNat []).map (c * ·))
    rw [List.map_set,gd,List.map_drop]
  | add i j c =>
    show (R.set i.toNat (List.zipWith (· + ·) (R.getD i.toNat []) ((R.getD j.toNat []).map (c * ·)))).map (List.drop pw) = (R.map (List.drop pw)).set i.toNat (List.zipWith (· + ·) ((R.map (List.drop pw)).getD i.toNat []) (((R.map (List.drop pw)).getD j.toNat []).map (c * ·)))
    rw [List.map_set,gd,gd,List.drop_zipWith,List.map_drop]
theorem take_runT (pw:Nat) (ts:List (Tn κ)):∀ R:List (List κ.F),(runT ts R).map (List.take pw) = runT ts (R.map (List.take pw)):=by
  induction ts with
  | nil => exact fun R => rfl
  | cons t ts ih => exact fun R => by show (runT ts (doT t R)).map _ = runT ts (doT t (R.map _)); rw [ih,take_doT]
theorem drop_runT (pw:Nat) (ts:List (Tn κ)):∀ R:List (List κ.F),(runT ts R).map (List.drop pw) = runT ts (R.map (List.drop pw)):=by
  induction ts with
  | nil => exact fun R => rfl
  | cons t ts ih => exact fun R => by show (runT ts (doT t R)).map _ = runT ts (doT t (R.map _)); rw [ih,drop_doT]
theorem pre_map {g:List κ.F → List κ.F} (g0:g [] = []) (hg:∀ f x,x ∈ g f → x ∈ f) {t:Tn κ} {R:List (List κ.F)} (h:t.preS R):t.preS (R.map g):=by
  have gd:=getD_map (κ:=κ) g0 R
  cases t with
  | swap i j => trivial
  | scale i c => exact ⟨h.1,fun x hx => h.2 x (by rw [gd] at hx; exact hg _ x hx)⟩
  | add i j c => exact ⟨h.1,fun x hx => h.2.1 x (by rw [gd] at hx; exact hg _ x hx),fun x hx => h.2.2 x (by rw [gd] at hx; exact hg _ x hx)⟩
theorem pre_take (pw:Nat) {t:Tn κ} {R:List (List κ.F)} (h:t.preS R):t.preS (R.map (List.take pw)):=pre_map List.take_nil (fun _ _ hx => List.mem_of_mem_take hx) h
theorem pre_drop (pw:Nat) {t:Tn κ} {R:List (List κ.F)} (h:t.preS R):t.preS (R.map (List.drop pw)):=pre_map List.drop_nil (fun _ _ hx => List.mem_of_mem_drop hx) h
theorem ent_take {pw:Nat} {R:List (List κ.F)} {i j:Nat} (h:j < pw):ent (R.map (List.take pw)) i j = ent R i j:=by
  unfold ent
  rw [getD_map List.take_nil]
  generalize R.getD i [] = f
  rw [List.getD_eq_getElem?_getD,List.getD_eq_getElem?_getD,List.getElem?_take,if_pos h]
theorem wid_take {pw m:Nat} {R:List (List κ.F)} (wd:Wid m R) (h:pw ≤ m):Wid pw (R.map (List.take pw)):=fun f hf => by
  obtain ⟨g,hg,rfl⟩:=List.mem_map.mp hf
  rw [List.length_take,wd g hg]; omega
end
structure Wk (κ:KX) (Z:List Addr) (R0:List (List κ.F)) (pw m:Nat) (r u:Addr) (H:Hp) (R:List (List κ.F)) (ts:List (Tn κ)):Prop where
  rows:∃ as:List Addr,H r = some (.lst (as.map V.ref)) ∧ RowsX κ H as (R.map (List.take pw)) ∧ ∀ z ∈ Z,z ∉ as
  turns:∃ tvs:List V,H u = some (.lst tvs) ∧ AllG (TR κ H) tvs ts
  run:R = runT ts R0
  ok:∀ t ∈ ts,t.ok R0.length
  pre:∀ (i:Nat) t,ts[i]? = some t → t.preS (runT (ts.take i) R0)
  wid:Wid m R0
  ne:r ≠ u
  m7:m ≤ 1000
  l3:ts.length ≤ 400
  zr:r ∈ Z
  zu:u ∈ Z
  za:∀ z ∈ Z,∃ o,H z = some o
  wm:pw ≤ m
section
variable {κ:KX} {Z:List Addr} {R0 R:List (List κ.F)} {pw m:Nat} {r u:Addr} {H:Hp} {ts:List (Tn κ)}
theorem Wk.len (h:Wk κ Z R0 pw m r u H R ts):R.length = R0.length:=by rw [h.run,runT_len]
theorem Wk.wd (h:Wk κ Z R0 pw m r u H R ts):Wid m R:=by rw [h.run]; exact runT_wid h.wid h.ok
theorem Wk.same {H':Hp} (h:Wk κ Z R0 pw m r u H R ts) (S:Same H H'):Wk κ Z R0 pw m r u H' R ts:=by
  obtain ⟨as,h1,h2,h3⟩:=h.rows
  obtain ⟨tvs,g1,g2⟩:=h.turns
  exact ⟨⟨as,S _ _ h1,h2.same S,h3⟩,⟨tvs,S _ _ g1,g2.mono fun _ _ n => n.same S⟩,h.run,h.ok,h.pre,h.wid,h.ne,h.m7,h.l3,h.zr,h.zu,fun z hz => let ⟨o,e⟩:=h.za z hz; ⟨o,S _ _ e⟩,h.wm⟩
theorem Wk.offL {H':Hp} {L:Addr} {ys zs:List V} (h:Wk κ Z R0 pw m r u H R ts) (zL:L ∈ Z) (n1:L ≠ r) (n2:L ≠ u) (hL:H L = some (.lst ys)) (hL':H' L = some (.lst zs)) (O:Off [L] H H'):Wk κ Z R0 pw m r u H' R ts:=by
  obtain ⟨as,h1,h2,h3⟩:=h.rows
  obtain ⟨tvs,g1,g2⟩:=h.turns
  refine ⟨⟨as,O _ _ (fun z => n1 (List.mem_singleton.mp z).symm) h1,h2.off (h3 L zL) hL O,h3⟩,⟨tvs,O _ _ (fun z => n2 (List.mem_singleton.mp z).symm) g1,g2.mono fun _ _ n => n.off hL O⟩,h.run,h.ok,h.pre,h.wid,h.ne,h.m7,h.l3,h.zr,h.zu,fun z hz => ?_,h.wm⟩
  by_cases e:z = L
  · subst e; exact ⟨_,hL'⟩
  · obtain ⟨o,q⟩:=h.za z hz
    exact ⟨o,O _ _ (fun w => e (List.mem_singleton.mp w)) q⟩
theorem Wk.ent (h:Wk κ Z R0 pw m r u H R ts) {i j:Nat} (hi:i < R0.length) (hj:j < pw):∃ (as:List Addr) (a:Addr) (xs:List V) (v:V),H r = some (.lst (as.map V.ref)) ∧ as.length = R0.length ∧ as[i]? = some a ∧ H a = some (.lst xs) ∧ xs[j]? = some v ∧ NR κ H v (My.ent R i j):=by
  obtain ⟨as,h1,h2,h3⟩:=h.rows
  obtain ⟨a,xs,v,e1,e2,e3,e4⟩:=h2.ent (wid_take h.wd h.wm) (by rw [List.length_map,h.len]; exact hi) hj
  rw [ent_take hj] at e4
  exact ⟨as,a,xs,v,h1,by rw [h2.1,List.length_map,h.len],e1,e2,e3,e4⟩
theorem Wk.rl (h:Wk κ Z R0 pw m r u H R ts):∃ as:List Addr,H r = some (.lst (as.map V.ref)) ∧ as.length = R0.length:=by
  obtain ⟨as,h1,h2,h3⟩:=h.rows
  exact ⟨as,h1,by rw [h2.1,List.length_map,h.len]⟩
theorem Wk.ul (h:Wk κ Z R0 pw m r u H R ts):∃ tvs:List V,H u = some (.lst tvs):=let ⟨tvs,g1,_⟩:=h.turns; ⟨tvs,g1⟩
end
theorem TR.off2 {κ:KX} {H H':Hp} {r u:Addr} {ys zs:List V} {v:V} {x:Tn κ} (h:TR κ H v x) (hr:H r = some (.lst ys)) (hu:H u = some (.lst zs)) (O:Off [r,u] H H'):TR κ H' v x:=by
  have na:∀ a ws,H a = some (.tup ws) → a ∉ [r,u]:=fun a ws q m => by
    rcases List.mem_cons.mp m with e | e
    · rw [e,hr] at q; cases q
    · rw [List.mem_singleton.mp e,hu] at q; cases q
  have nn:∀ w c,NR κ H w c → NR κ H' w c:=fun w c n => by
    cases κ with
    | q => obtain ⟨a,e,n⟩:=n; exact ⟨a,e,O _ _ (na _ _ n) n⟩
    | r p hp => exact n
  cases x with
  | swap i j => obtain ⟨a,e,h⟩:=h; exact ⟨a,e,O _ _ (na _ _ h) h⟩
  | scale i c => obtain ⟨a,w,e,h,n⟩:=h; exact ⟨a,w,e,O _ _ (na _ _ h) h,nn _ _ n⟩
  | add i j c => obtain ⟨a,w,e,h,n⟩:=h; exact ⟨a,w,e,O _ _ (na _ _ h) h,nn _ _ n⟩
theorem NR.off2 {κ:KX} {H H':Hp} {r u:Addr} {ys zs:List V} {v:V} {x:κ.F} (h:NR κ H v x) (hr:H r = some (.lst ys)) (hu:H u = some (.lst zs)) (O:Off [r,u] H H'):NR κ H' v x:=by
  cases κ with
  | q =>
    obtain ⟨a,e,n⟩:=h
    refine ⟨a,e,O _ _ (fun m => ?_) n⟩
    rcases List.mem_cons.mp m with e | e
    · rw [e,hr] at n; cases n
    · rw [List.mem_singleton.mp e,hu] at n; cases n
  | r p hp => exact h
theorem KdX.off2 {CF CR:Addr} {κ:KX} {H H':Hp} {s r u:Addr} {ys zs:List V} (h:KdX CF CR κ H s) (hr:H r = some (.lst ys)) (hu:H u = some (.lst zs)) (O:Off [r,u] H H'):KdX CF CR κ H' s:=by
  have key:∀ C dx fs,H s = some (.ins C dx fs) → H' s = some (.ins C dx fs):=fun C dx fs q => O _ _ (fun m => by
    rcases List.mem_cons.mp m with e | e
    · rw [e,hr] at q; cases q
    · rw [List.mem_singleton.mp e,hu] at q; cases q) q
  cases κ with
  | q => exact h.elim
  | r p hp => obtain ⟨dx,h⟩:=h; exact ⟨dx,key _ _ _ h⟩
def sp_is_idle (CF CR:Addr):Sp:=fun vs H Q _ => ∃ (κ:KX) (s:Addr) (tv:V) (t:Tn κ),vs = [.ref s,tv] ∧ KdX CF CR κ H s ∧ TR κ H tv t ∧ ∀ H' (b:Bool),Same H H' → (b = true ↔ t.idle) → Q (.bl b) H'
def sp_take (CF CR:Addr):Sp:=fun vs H Q _ => ∃ (κ:KX) (s r u:Addr) (Z:List Addr) (R0:List (List κ.F)) (pw m:Nat) (R:List (List κ.F)) (ts:List (Tn κ)) (tv:V) (t:Tn κ),vs = [.ref s,.ref r,.ref u,tv] ∧ KdX CF CR κ H s ∧ Wk κ Z R0 pw m r u H R ts ∧ ts.length < 400 ∧ TR κ H tv t ∧ t.ok R0.length ∧ t.preS R ∧
  ∀ H' ts',Off [r,u] H H' → Wk κ Z R0 pw m r u H' (doT t R) ts' → ts'.length ≤ ts.length + 1 → Q .non H'
def BotV (κ:KX) (f:List κ.F) (A:Int):Prop:=match κ with
  | .q => 0 < A ∧ (∀ x ∈ f,((Rat.den x:Nat):Int) ∣ A) ∧ ∀ B:Int,(∀ x ∈ f,((Rat.den x:Nat):Int) ∣ B) → A ∣ B
  | .r _ _ => A = 1
def DvB (κ:KX) (B:Int) (x:κ.F):Prop:=match κ with
  | .q => ((Rat.den x:Nat):Int) ∣ B
  | .r _ _ => True
def MethBot (P:Program) (w:World) (K:PySem.W.Frag) (mg:Str → Option Value) (base:Heap) (CF CR:Addr):Prop :=
  ∀ (κ:KX) (H:Hp) (s:Addr),KdX CF CR κ H s → ∃ C dx fs ps dvs sp,H s = some (.ins C dx fs) ∧ Cls K C ∧ HasM P w K mg base C "common_bottom" 2 ps dvs sp ∧ fs.lookup ("common_bottom" : Str) = none ∧ dvs = [] ∧
    ∀ (r:Addr) (xs:List V) (f:List κ.F) (B:Int) (Q:VK),H r = some (.lst xs) → AllG (NR κ H) xs f → 0 < B → Bits 4000 B → (∀ x ∈ f,DvB κ B x) → (∀ A:Int,BotV κ f A → Q (.int A) H) → sp [.ref s,.ref r] H Q E0
def sp_Kbottom:Sp:=fun vs H Q _ => ∃ (s r:Addr),vs = [.ref s,.ref r] ∧ Q (.int 1) H
def sp_first_filled (CF CR:Addr):Sp:=fun vs H Q _ => ∃ (κ:KX) (s r u:Addr) (Z:List Addr) (R0:List (List κ.F)) (pw m:Nat) (R:List (List κ.F)) (ts:List (Tn κ)) (l c:Nat),vs = [.ref s,.ref r,.int (l:Int),.int (c:Int)] ∧ KdX CF CR κ H s ∧ Wk κ Z R0 pw m r u H R ts ∧ c < pw ∧ l ≤ R0.length ∧ R0.length ≤ 1000 ∧
  ∀ f:Nat,l ≤ f → f ≤ R0.length → (f < R0.length → ent R f c ≠ 0) → (∀ i,l ≤ i → i < f → ent R i c = 0) → Q (.int (f:Int)) H
end My
namespace My
open PySem L2 PyProof.Rows
section
variable {P:Program} {w:World} {K:PySem.W.Frag} {mg:Str → Option Value} {base:Heap} {CF CR:Addr}
theorem sc_scaled_row:FnScope ["kind", "number", "row"] ["kind", "number", "row"] (defScope s_scaled_row):=⟨rfl,rfl,rfl,by decide +kernel,rfl,by decide +kernel,by decide +kernel⟩
theorem ok_scaled_rowX (h:Here K mg "scaled_row" s_scaled_row) (mt:Meth2 P w K mg base CF CR "times" (fun _ x y => x * y)):Has P w K mg base "scaled_row" 3 ["kind", "number", "row"] (sp_scaled_rowX CF CR):=by
  refine h.has (fun f fd F => F.binds fun _ _ _ _ _ _ us hl => by obtain ⟨_,_,_,rfl⟩:=len3 hl; exact rfl) fun f fd F => F.ok sc_scaled_row (fun vs H Q E h => ?_) (fun cdv A outer s H vs Q E hr h => ?_)
  · obtain ⟨_,_,_,_,_,_,_,rfl,_⟩:=h
    rfl
  obtain ⟨κ,sk,r,cv,c,xs,f,rfl,hk,hc,hr',al,bc,bf,lf,k⟩:=h
  refine ⟨_,(pss_one (ps_ret (pe_comp ["each"] [(0, "kind"),(1, "number")] rfl (pi_list (pv 2)) (by exact fun _ _ _ _ => (pg_name (i:=0) (show (["each", "kind", "number"]:List Str).Nodup by decide +kernel) rfl (Or.inl rfl))) (by exact fun _ _ _ _ => (pe_methAK ⟨rfl,rfl,rfl,rfl,rfl⟩ (pv 1) hr (pa_cons (pv 2) (pa_cons (pv 0) pa_nil)))) ⟨⟨rfl,rfl,Or.inl rfl⟩,⟨⟨rfl,rfl,Or.inl rfl⟩,trivial⟩⟩))),?_⟩
  refine ⟨_,rfl,r,rfl,⟨_,SqL.of hr'⟩,?_⟩
  have l:=al.1
  refine comp_list (K:=K) (a:=r) (xs:=xs) (fun i ys H2 => Same H H2 ∧ AllG (NR κ H2) ys ((f.take i).map (c * ·))) (by omega) ⟨Same.refl H,.nil⟩ (fun i ys H2 _ q => SqL.of (q.1 _ _ hr')) ?_ ?_
  · rintro i x ys H2 hx hl ⟨S,e⟩
    obtain ⟨y,hy,ny⟩:=al.get hx
    obtain ⟨C,dx,fs,ps,dvs,sp,h1,h2,h3,h4,rfl,h5⟩:=mt κ H2 sk (hk.same S)
    refine ⟨_,rfl,sk,C,dx,fs,ps,_,sp,rfl,h1,h2,h3,h4,_,rfl,_,rfl,h5 _ _ _ c y _ (Same.refl _) (hc.same S) (ny.same S) bc (bf y (List.mem_of_getElem? hy)) fun t H3 S3 nt => ?_⟩
    refine ⟨S.trans S3,?_⟩
    rw [List.take_succ,hy,List.map_append]
    exact (e.mono fun _ _ n => n.same S3).append (.one nt)
  · rintro ys H2 hl ⟨S,e⟩ D hD
    rw [l,List.take_length] at e
    exact k _ D ys (S.trans (same_new hD _)) (S.free hD) upd_same (e.mono fun _ _ n => n.same (same_new hD _))
end
section
variable {P:Program} {w:World} {K:PySem.W.Frag} {mg:Str → Option Value} {base:Heap} {CF CR:Addr}
theorem sc_plus_row:FnScope ["kind", "row", "other"] ["kind", "row", "other"] (defScope s_plus_row):=⟨rfl,rfl,rfl,by decide +kernel,rfl,by decide +kernel,by decide +kernel⟩
theorem ok_plus_rowX (h:Here K mg "plus_row" s_plus_row) (Tz:mg "zip" = none) (mp:Meth2 P w K mg base CF CR "plus" (fun _ x y => x + y)):Has P w K mg base "plus_row" 3 ["kind", "row", "other"] (sp_plus_rowX CF CR):=by
  refine h.has (fun f fd F => F.binds fun _ _ _ _ _ _ us hl => by obtain ⟨_,_,_,rfl⟩:=len3 hl; exact rfl) fun f fd F => F.ok sc_plus_row (fun vs H Q E h => ?_) (fun cdv A outer s H vs Q E hr h => ?_)
  · obtain ⟨_,_,_,_,_,_,_,_,rfl,_⟩:=h
    rfl
  obtain ⟨κ,sk,r1,r2,xs,ys,f,g,rfl,hk,h1,h2,a1,a2,b1,b2,lf,k⟩:=h
  refine ⟨_,(pss_one (ps_ret (pe_comp ["left", "right"] [(0, "kind")] rfl (pi_zip (by rfl) Tz (pa_cons (pv 1) (pa_cons (pv 2) pa_nil))) (by exact fun _ _ _ _ => (pg_tupK (n:=2) K rfl rfl (pgs_cons (pg_name (i:=0) (show (["left", "right", "kind"]:List Str).Nodup by decide +kernel) rfl (Or.inl rfl)) (pgs_cons (pg_name (i:=1) (show (["left", "right", "kind"]:List Str).Nodup by decide +kernel) rfl (Or.inl rfl)) pgs_nil)))) (by exact fun _ _ _ _ => (pe_methAK ⟨rfl,rfl,rfl,rfl,rfl⟩ (pv 2) hr (pa_cons (pv 0) (pa_cons (pv 1) pa_nil)))) ⟨⟨rfl,rfl,Or.inl rfl⟩,trivial⟩))),?_⟩
  refine ⟨_,rfl,_,rfl,r1,r2,rfl,⟨_,SqL.of h1⟩,⟨_,SqL.of h2⟩,?_⟩
  have l1:=a1.1
  have l2:=a2.1
  refine comp_zip2 (K:=K) (a:=r1) (b:=r2) (xs:=xs) (ys:=ys) (fun i zs H2 => Same H H2 ∧ AllG (NR κ H2) zs (List.zipWith (· + ·) (f.take i) (g.take i))) (by omega) ⟨Same.refl H,.nil⟩ (fun i zs H2 q => ⟨SqL.of (q.1 _ _ h1),SqL.of (q.1 _ _ h2)⟩) ?_ ?_
  · rintro i x y T zs H2 hx hy hl nT ⟨S,e⟩
    obtain ⟨p,q,hp,hq,np,nq⟩:=a1.zip a2 hx hy
    have ST:=same_new nT (.tup [x,y])
    generalize upd H2 T (.tup [x,y]) = H3 at *
    have S3:=S.trans ST
    obtain ⟨C,dx,fs,ps,dvs,sp,c1,c2,c3,c4,rfl,c5⟩:=mp κ H3 sk (hk.same S3)
    refine ⟨_,rfl,sk,C,dx,fs,ps,_,sp,rfl,c1,c2,c3,c4,_,rfl,_,rfl,c5 _ _ _ p q _ (Same.refl _) (np.same S3) (nq.same S3) (b1 p (List.mem_of_getElem? hp)) (b2 q (List.mem_of_getElem? hq)) fun t H4 S4 nt => ?_⟩
    refine ⟨S3.trans S4,?_⟩
    rw [List.take_succ,hp,List.take_succ,hq]
    have lp:=(List.getElem?_eq_some_iff.mp hp).1
    have lq:=(List.getElem?_eq_some_iff.mp hq).1
    rw [show (some p).toList = [p] from rfl,show (some q).toList = [q] from rfl,List.zipWith_append (by rw [List.length_take,List.length_take]; omega)]
    exact (e.mono fun _ _ n => n.same (ST.trans S4)).append (.one nt)
  · rintro zs H2 hl ⟨S,e⟩ D hD
    have ez:List.zipWith (· + ·) (f.take (min xs.length ys.length)) (g.take (min xs.length ys.length)) = List.zipWith (· + ·) f g:=by
      rw [← List.take_zipWith,List.take_of_length_le]
      rw [List.length_zipWith]
      omega
    rw [ez] at e
    exact k _ D zs (S.trans (same_new hD _)) (S.free hD) upd_same (e.mono fun _ _ n => n.same (same_new hD _))
end
section
variable {P:Program} {w:World} {K:PySem.W.Frag} {mg:Str → Option Value} {base:Heap} {CF CR:Addr}
theorem meth_nought (kd:Kd K mg CF CR) (hR:HasM P w K mg base CR "is_nought" 2 ["self", "one"] [] sp_Rnought):Nought P w K mg base CF CR:=by
  intro κ H s hk
  cases κ with
  | q => exact hk.elim
  | r p hp =>
    obtain ⟨dx,h⟩:=hk
    refine ⟨CR,dx,fsR p,_,_,_,h,kd.clR,hR,fsR_no _ (by decide),rfl,fun u x Q hu k => ?_⟩
    have hu:u = .int x.val:=hu
    subst hu
    refine ⟨s,_,rfl,k _ ?_⟩
    rw [decide_eq_true_iff]
    letI:=hp.nz
    have z:(0:Fin p).val = 0:=by simp
    constructor
    · intro e
      exact Fin.ext (by rw [z]; omega)
    · intro e
      have e:x = (0:Fin p):=e
      rw [e,z]; rfl
end
section
variable {P:Program} {w:World} {K:PySem.W.Frag} {mg:Str → Option Value} {base:Heap} {CF CR cT:Addr}
theorem sc_make_turn:FnScope ["kind", "rows", "turn", "place", "kept"] ["kind", "rows", "turn"] (defScope s_make_turn):=⟨rfl,rfl,rfl,by decide +kernel,rfl,by decide +kernel,by decide +kernel⟩
theorem ok_make_turn (h:Here K mg "make_turn" s_make_turn) (h_scaled_row:Has P w K mg base "scaled_row" 3 ["kind", "number", "row"] (sp_scaled_rowX CF CR)) (h_plus_row:Has P w K mg base "plus_row" 3 ["kind", "row", "other"] (sp_plus_rowX CF CR)):Has P w K mg base "make_turn" 4 ["kind", "rows", "turn"] (sp_make_turn CF CR):=by
  refine h.has (fun f fd F => F.binds fun _ _ _ _ _ _ us hl => by obtain ⟨_,_,_,rfl⟩:=len3 hl; exact rfl) fun f fd F => F.ok sc_make_turn (fun vs H Q E h => ?_) (fun cdv A outer s H vs Q E hr h => ?_)
  · obtain ⟨_,_,_,_,_,_,_,rfl,_⟩:=h
    rfl
  obtain ⟨κ,sk,r,as,R,tv,t,rfl,hk,hR,rx,nr,l1000,ht,ok,pre,k⟩:=h
  have nd:=sc_make_turn.nd
  refine ⟨_,(pss_cons (ps_set (i:=3) nd rfl (Or.inl rfl) (pe_ix ix_tup (pv 2) pe_int (fun _ _ => rfl)))
    (pss_one (ps_if (pt_cmpR op_eq (pe_ix ix_tup (pv 2) pe_int (fun _ _ => rfl)) pe_str (nomark _)) (pss_cons (ps_set (i:=4) nd rfl (Or.inl rfl) (pe_ix ix_list (pv 1) (pv 3) (fun _ _ => rfl)))
      (pss_cons (ps_asg (pe_ix ix_list (pv 1) (pe_ix ix_tup (pv 2) pe_int (fun _ _ => rfl)) (fun _ _ => rfl)) (pg_sub (pv 1) (pv 3) set_list))
      (pss_one (ps_asg (pv 4) (pg_sub (pv 1) (pe_ix ix_tup (pv 2) pe_int (fun _ _ => rfl)) set_list))))) (pss_one (ps_if (pt_cmpR op_eq (pe_ix ix_tup (pv 2) pe_int (fun _ _ => rfl)) pe_str (nomark _)) (pss_one (ps_asg (pe_has h_scaled_row hr (by rfl) (pa_cons (pv 0) (pa_cons (pe_ix ix_tup (pv 2) pe_int (fun _ _ => rfl)) (pa_cons (pe_ix ix_list (pv 1) (pv 3) (fun _ _ => rfl)) pa_nil)))) (pg_sub (pv 1) (pv 3) set_list))) (pss_one (ps_asg (pe_has h_plus_row hr (by rfl) (pa_cons (pv 0) (pa_cons (pe_ix ix_list (pv 1) (pv 3) (fun _ _ => rfl)) (pa_cons (pe_has h_scaled_row hr (by rfl) (pa_cons (pv 0) (pa_cons (pe_ix ix_tup (pv 2) pe_int (fun _ _ => rfl)) (pa_cons (pe_ix ix_list (pv 1) (pe_ix ix_tup (pv 2) pe_int (fun _ _ => rfl)) (fun _ _ => rfl)) pa_nil)))) pa_nil)))) (pg_sub (pv 1) (pv 3) set_list)))))))),?_⟩
  have la:=rx.1
  have lm:(as.map V.ref).length = R.length:=by rw [List.length_map]; exact la
  cases t with
  | swap i j =>
    obtain ⟨a,rfl,ha⟩:=ht
    obtain ⟨⟨i0,i1⟩,⟨j0,j1⟩,ne⟩:=ok
    obtain ⟨b,xs,hb,hx,al⟩:=rx.get (i:=i.toNat) (by omega)
    obtain ⟨c,ys,hc,hy,bl⟩:=rx.get (i:=j.toNat) (by omega)
    refine ⟨_,rfl,a,_,1,_,rfl,rfl,SqT.of ha,rfl,?_⟩
    refine ⟨_,rfl,a,_,0,_,rfl,rfl,SqT.of ha,rfl,rfl,_,rfl,ite_yes rfl ?_⟩
    refine ⟨_,rfl,_,rfl,r,_,_,_,rfl,rfl,SqL.of hR,ref_atI i0 hb,?_⟩
    refine ⟨_,rfl,_,rfl,a,_,2,_,rfl,rfl,SqT.of ha,rfl,r,_,_,_,rfl,rfl,SqL.of hR,ref_atI j0 hc,?_⟩
    refine ⟨_,rfl,_,rfl,r,_,_,_,rfl,rfl,hR,ixN_int i0 (by rw [lm]; exact i1),?_⟩
    rw [map_set_ref]
    have nra:a ≠ r:=fun z => by rw [z,hR] at ha; cases ha
    refine ⟨_,rfl,_,rfl,_,rfl,a,_,2,_,rfl,rfl,SqT.of (by rw [upd_ne nra]; exact ha),rfl,r,_,_,_,rfl,rfl,upd_same,ixN_int j0 (by rw [List.length_map,List.length_set,la]; exact j1),?_⟩
    rw [map_set_ref]
    have O:Off [r] H (upd (upd H r (.lst ((as.set i.toNat c).map V.ref))) r (.lst (((as.set i.toNat c).set j.toNat b).map V.ref))):=fun x o n q => by
      have nx:x ≠ r:=fun z => n (by rw [z]; exact List.mem_singleton.mpr rfl)
      rw [upd_ne nx,upd_ne nx]; exact q
    have rx':=rx.off nr hR O
    obtain ⟨xs',hx',al'⟩:=rx'.2 i.toNat b _ hb (List.getElem?_eq_getElem (by omega))
    obtain ⟨ys',hy',bl'⟩:=rx'.2 j.toNat c _ hc (List.getElem?_eq_getElem (by omega))
    refine k _ ((as.set i.toNat c).set j.toNat b) O upd_same ?_ (fun m => nr (mem_swap hb hc m)) (fun ndp => nodup_swap ndp hb hc) (fun x m => .inl (mem_swap hb hc m))
    show RowsX κ _ _ ((R.set i.toNat (R.getD j.toNat [])).set j.toNat (R.getD i.toNat []))
    rw [getD_get (List.getElem?_eq_getElem (show j.toNat < R.length by omega)),getD_get (List.getElem?_eq_getElem (show i.toNat < R.length by omega))]
    exact (rx'.set _ hy' bl').set _ hx' al'
  | scale i c =>
    obtain ⟨a,u,rfl,ha,nu⟩:=ht
    obtain ⟨⟨i0,i1⟩,_⟩:=ok
    obtain ⟨b,xs,hb,hx,al⟩:=rx.get (i:=i.toNat) (by omega)
    have eg:=getD_get (List.getElem?_eq_getElem (show i.toNat < R.length by omega))
    obtain ⟨bc,bx⟩:=pre
    rw [eg] at bx
    refine ⟨_,rfl,a,_,1,_,rfl,rfl,SqT.of ha,rfl,?_⟩
    refine ⟨_,rfl,a,_,0,_,rfl,rfl,SqT.of ha,rfl,rfl,_,rfl,ite_no s21 ?_⟩
    refine ⟨_,rfl,a,_,0,_,rfl,rfl,SqT.of ha,rfl,rfl,_,rfl,ite_yes rfl ?_⟩
    refine ⟨_,rfl,_,rfl,a,_,2,_,rfl,rfl,SqT.of ha,rfl,_,rfl,_,rfl,r,_,_,_,rfl,rfl,SqL.of hR,ref_atI i0 hb,κ,sk,b,u,c,xs,_,rfl,hk,nu,hx,al,bc,bx,l1000 _ (List.getElem_mem (by omega)),fun H1 D ys S1 nD hD bl => ?_⟩
    refine ⟨_,rfl,_,rfl,r,_,_,_,rfl,rfl,S1 _ _ hR,ixN_int i0 (by rw [lm]; exact i1),?_⟩
    rw [map_set_ref]
    have O:Off [r] H (upd H1 r (.lst ((as.set i.toNat D).map V.ref))):=off_upd' S1
    have O1:Off [r] H1 (upd H1 r (.lst ((as.set i.toNat D).map V.ref))):=off_upd' (Same.refl H1)
    have nDr:D ≠ r:=fun z => by rw [z,hR] at nD; cases nD
    have nDa:D ∉ as:=fun m => by
      obtain ⟨n,hn,e⟩:=List.getElem_of_mem m
      obtain ⟨zs,hz,_⟩:=rx.2 n D _ (by rw [← e]; exact List.getElem?_eq_getElem hn) (List.getElem?_eq_getElem (show n < R.length by omega))
      rw [hz] at nD; cases nD
    refine k _ (as.set i.toNat D) O upd_same ?_ (fun m => ?_) (fun ndp => nodup_set ndp nDa) (fun x m => ?_)
    · show RowsX κ _ _ (R.set i.toNat ((R.getD i.toNat []).map (c * ·)))
      rw [eg]
      exact (rx.off nr hR O).set _ (by rw [upd_ne nDr]; exact hD) (bl.mono fun _ _ n => n.off (S1 _ _ hR) O1)
    · rcases List.mem_or_eq_of_mem_set m with m | z
      · exact nr m
      · exact nDr z.symm
    · rcases List.mem_or_eq_of_mem_set m with m | rfl
      · exact .inl m
      · exact .inr nD
  | add i j c =>
    obtain ⟨a,u,rfl,ha,nu⟩:=ht
    obtain ⟨⟨i0,i1⟩,⟨j0,j1⟩,_⟩:=ok
    obtain ⟨b,xs,hb,hx,al⟩:=rx.get (i:=i.toNat) (by omega)
    obtain ⟨e,zs,he,hz,el⟩:=rx.get (i:=j.toNat) (by omega)
    have eg:=getD_get (List.getElem?_eq_getElem (show i.toNat < R.length by omega))
    have eh:=getD_get (List.getElem?_eq_getElem (show j.toNat < R.length by omega))
    obtain ⟨bc,bx,by'⟩:=pre
    rw [eg] at bx
    rw [eh] at by'
    refine ⟨_,rfl,a,_,1,_,rfl,rfl,SqT.of ha,rfl,?_⟩
    refine ⟨_,rfl,a,_,0,_,rfl,rfl,SqT.of ha,rfl,rfl,_,rfl,ite_no s31 ?_⟩
    refine ⟨_,rfl,a,_,0,_,rfl,rfl,SqT.of ha,rfl,rfl,_,rfl,ite_no s32 ?_⟩
    refine ⟨_,rfl,_,rfl,_,rfl,r,_,_,_,rfl,rfl,SqL.of hR,ref_atI i0 hb,_,rfl,_,rfl,a,_,3,_,rfl,rfl,SqT.of ha,rfl,_,rfl,_,rfl,a,_,2,_,rfl,rfl,SqT.of ha,rfl,r,_,_,_,rfl,rfl,SqL.of hR,ref_atI j0 he,κ,sk,e,u,c,zs,_,rfl,hk,nu,hz,el,bc,fun y hy => (by' y hy).1,l1000 _ (List.getElem_mem (by omega)),fun H1 D1 ws S1 nD1 hD1 wl => ?_⟩
    refine ⟨κ,sk,b,D1,xs,ws,_,_,rfl,hk.same S1,S1 _ _ hx,hD1,al.mono fun _ _ n => n.same S1,wl,bx,fun y hy => ?_,l1000 _ (List.getElem_mem (by omega)),fun H2 D ys S2 nD hD bl => ?_⟩
    · obtain ⟨z,hz',rfl⟩:=List.mem_map.mp hy
      exact (by' z hz').2
    have S12:=S1.trans S2
    refine ⟨_,rfl,_,rfl,r,_,_,_,rfl,rfl,S12 _ _ hR,ixN_int i0 (by rw [lm]; exact i1),?_⟩
    rw [map_set_ref]
    have O:Off [r] H (upd H2 r (.lst ((as.set i.toNat D).map V.ref))):=off_upd' S12
    have O1:Off [r] H2 (upd H2 r (.lst ((as.set i.toNat D).map V.ref))):=off_upd' (Same.refl H2)
    have nD0:H D = none:=S1.free nD
    have nDr:D ≠ r:=fun z => by rw [z,hR] at nD0; cases nD0
    have nDa:D ∉ as:=fun m => by
      obtain ⟨n,hn,e⟩:=List.getElem_of_mem m
      obtain ⟨zs,hz,_⟩:=rx.2 n D _ (by rw [← e]; exact List.getElem?_eq_getElem hn) (List.getElem?_eq_getElem (show n < R.length by omega))
      rw [hz] at nD0; cases nD0
    refine k _ (as.set i.toNat D) O upd_same ?_ (fun m => ?_) (fun ndp => nodup_set ndp nDa) (fun x m => ?_)
    · show RowsX κ _ _ (R.set i.toNat (List.zipWith (· + ·) (R.getD i.toNat []) ((R.getD j.toNat []).map (c * ·))))
      rw [eg,eh]
      exact (rx.off nr hR O).set _ (by rw [upd_ne nDr]; exact hD) (bl.mono fun _ _ n => n.off (S12 _ _ hR) O1)
    · rcases List.mem_or_eq_of_mem_set m with m | z
      · exact nr m
      · exact nDr z.symm
    · rcases List.mem_or_eq_of_mem_set m with m | rfl
      · exact .inl m
      · exact .inr nD0
end
end My
namespace My
open PySem L2 PyProof.Rows
section
variable {P:Program} {w:World} {K:PySem.W.Frag} {mg:Str → Option Value} {base:Heap} {CF CR:Addr}
theorem sc_is_idle:FnScope ["kind", "turn"] ["kind", "turn"] (defScope s_is_idle):=⟨rfl,rfl,rfl,by decide +kernel,rfl,by decide +kernel,by decide +kernel⟩
theorem ok_is_idle (h:Here K mg "is_idle" s_is_idle) (mn:MethNum P w K mg base CF CR) (nt:Nought P w K mg base CF CR):Has P w K mg base "is_idle" 4 ["kind", "turn"] (sp_is_idle CF CR):=by
  refine h.has (fun f fd F => F.binds fun _ _ _ _ _ _ us hl => by obtain ⟨_,_,rfl⟩:=len2 hl; exact rfl) fun f fd F => F.ok sc_is_idle (fun vs H Q E h => ?_) (fun cdv A outer s H vs Q E hr h => ?_)
  · obtain ⟨_,_,_,_,rfl,_⟩:=h
    rfl
  obtain ⟨κ,sk,tv,t,rfl,hk,ht,k⟩:=h
  refine ⟨_,(pss_cons (ps_if (pt_cmpR op_eq (pe_ix ix_tup (pv 1) pe_int (fun _ _ => rfl)) pe_str (nomark _)) (pss_one (ps_ret (pe_cmpR (op_eqN hr) (pe_ix ix_tup (pv 1) pe_int (fun _ _ => rfl)) (pe_methX (pv 0) passN hr (pa_cons pe_int pa_nil)) (nomark _)))) pss_nil)
    (pss_one (ps_ret (pe_and (pe_cmpR op_eq (pe_ix ix_tup (pv 1) pe_int (fun _ _ => rfl)) pe_str (nomark _)) (pe_one (pe_methA (pv 0) hr (pa_cons (pe_ix ix_tup (pv 1) pe_int (fun _ _ => rfl)) pa_nil))))))),?_⟩
  cases t with
  | scale i c =>
    obtain ⟨a,u,rfl,ha,nu⟩:=ht
    obtain ⟨C,dx,fs,ps,dvs,sp,c1,c2,c3,c4,rfl,c5⟩:=mn κ H sk hk
    refine ⟨_,rfl,a,_,0,_,rfl,rfl,SqT.of ha,rfl,rfl,_,rfl,ite_yes rfl ?_⟩
    refine ⟨_,rfl,a,_,2,_,rfl,rfl,SqT.of ha,rfl,_,rfl,sk,C,dx,fs,ps,_,sp,rfl,c1,c2,c3,c4,c5 H 1 1 _ _ (Same.refl H) numV1 fun v H1 S1 nv => ?_⟩
    obtain ⟨b,hb,eb⟩:=nr_eq (nu.same S1) nv
    exact ⟨b,hb,k H1 b S1 eb⟩
  | swap i j =>
    obtain ⟨a,rfl,ha⟩:=ht
    refine ⟨_,rfl,a,_,0,_,rfl,rfl,SqT.of ha,rfl,rfl,_,rfl,ite_no s12 ?_⟩
    refine ⟨_,rfl,a,_,0,_,rfl,rfl,SqT.of ha,rfl,rfl,_,rfl,ite_no s13 ?_⟩
    exact k H _ (Same.refl H) ⟨fun z => (nomatch z),fun z => absurd z id⟩
  | add i j c =>
    obtain ⟨a,u,rfl,ha,nu⟩:=ht
    obtain ⟨C,dx,fs,ps,dvs,sp,c1,c2,c3,c4,rfl,c5⟩:=nt κ H sk hk
    refine ⟨_,rfl,a,_,0,_,rfl,rfl,SqT.of ha,rfl,rfl,_,rfl,ite_no s32 ?_⟩
    refine ⟨_,rfl,a,_,0,_,rfl,rfl,SqT.of ha,rfl,rfl,_,rfl,ite_yes rfl ?_⟩
    exact ⟨_,rfl,sk,C,dx,fs,ps,_,sp,rfl,c1,c2,c3.mono (by decide),c4,_,rfl,a,_,3,_,rfl,rfl,SqT.of ha,rfl,c5 u c _ nu fun b hb => k H b (Same.refl H) hb⟩
theorem sc_take:FnScope ["kind", "rows", "turns", "turn"] ["kind", "rows", "turns", "turn"] (defScope s_take):=⟨rfl,rfl,rfl,by decide +kernel,rfl,by decide +kernel,by decide +kernel⟩
theorem ok_take (h:Here K mg "take" s_take) (h_is_idle:Has P w K mg base "is_idle" 4 ["kind", "turn"] (sp_is_idle CF CR)) (h_make_turn:Has P w K mg base "make_turn" 4 ["kind", "rows", "turn"] (sp_make_turn CF CR)):Has P w K mg base "take" 5 ["kind", "rows", "turns", "turn"] (sp_take CF CR):=by
  refine h.has (fun f fd F => F.binds fun _ _ _ _ _ _ us hl => by obtain ⟨_,_,_,_,rfl⟩:=len4 hl; exact rfl) fun f fd F => F.ok sc_take (fun vs H Q E h => ?_) (fun cdv A outer s H vs Q E hr h => ?_)
  · obtain ⟨_,_,_,_,_,_,_,_,_,_,_,_,rfl,_⟩:=h
    rfl
  obtain ⟨κ,sk,r,u,Z,R0,pw,m,R,ts,tv,t,rfl,hk,wk,l4,ht,ok,pre,k⟩:=h
  refine ⟨_,(pss_one (ps_if (pt_not (pt_val (pe_has h_is_idle hr (by rfl) (pa_cons (pv 0) (pa_cons (pv 3) pa_nil))))) (pss_cons (ps_expr (pe_has h_make_turn hr (by rfl) (pa_cons (pv 0) (pa_cons (pv 1) (pa_cons (pv 3) pa_nil)))))
      (pss_one (ps_expr (pe_bm PySem.F.plainAttrs_list PySem.F.slot_list_append PySem.F.type_list_append mt_append (pv 2) (pa_cons (pv 3) pa_nil))))) pss_nil)),?_⟩
  have lR:=wk.len
  refine ⟨_,rfl,_,rfl,κ,sk,tv,t,rfl,hk,ht,fun H1 b S1 hb => ⟨_,rfl,?_⟩⟩
  have wk1:=wk.same S1
  cases b with
  | true =>
    refine iteF ?_
    have e:=doT_idle wk.wd (by rw [lR]; exact ok) (hb.mp rfl)
    exact k H1 ts (fun b o _ q => S1 _ _ q) (by rw [e]; exact wk1) (by omega)
  | false =>
    refine iteT ?_
    obtain ⟨as,h1,h2,h3⟩:=wk1.rows
    obtain ⟨tvs,g1,g2⟩:=wk1.turns
    refine ⟨_,rfl,_,rfl,_,rfl,κ,sk,r,as,R.map (List.take pw),tv,t,rfl,hk.same S1,h1,h2,h3 r wk.zr,fun f hf => by rw [wid_take wk.wd wk.wm f hf]; exact Nat.le_trans wk.wm wk.m7,ht.same S1,by rw [List.length_map,lR]; exact ok,(pre_take pw pre).pre,fun H2 as' O hR2 rx2 nr2 _ sub => ?_⟩
    rw [← take_doT] at rx2
    have nu:u ∉ [r]:=fun z => wk.ne (List.mem_singleton.mp z).symm
    have qu:=O _ _ nu g1
    have lt:=g2.1
    refine ⟨_,rfl,.inl ⟨rfl,_,SqL.of qu⟩,_,rfl,u,tvs,tv,rfl,rfl,qu,Nat.lt_of_lt_of_le (show tvs.length < 1000 by omega) (by decide),?_⟩
    have nza:∀ z ∈ Z,z ∉ as':=fun z hz q => by
      rcases sub z q with q | q
      · exact h3 z hz q
      · obtain ⟨o,e⟩:=wk1.za z hz
        rw [e] at q; cases q
    have nua:=nza u wk.zu
    have O2:Off [u] H2 (upd H2 u (.lst (tvs ++ [tv]))):=off_upd' (Same.refl H2)
    have Oa:Off [r,u] H1 (upd H2 u (.lst (tvs ++ [tv]))):=fun b o nb q => by
      have n1:b ∉ [r]:=fun z => nb (by rw [List.mem_singleton.mp z]; exact List.mem_cons_self)
      have n2:b ∉ [u]:=fun z => nb (by rw [List.mem_singleton.mp z]; simp)
      exact O2 _ _ n2 (O _ _ n1 q)
    refine k _ (ts ++ [t]) (fun b o nb q => Oa b o nb (S1 _ _ q)) ⟨⟨as',?_,rx2.off nua qu O2,nza⟩,⟨tvs ++ [tv],upd_same,?_⟩,?_,?_,?_,wk.wid,wk.ne,wk.m7,?_,wk.zr,wk.zu,?_,wk.wm⟩ (by simp)
    · exact O2 _ _ (fun z => wk.ne (List.mem_singleton.mp z)) hR2
    · exact (g2.mono fun _ _ n => n.off2 h1 g1 Oa).append (.one ((ht.same S1).off2 h1 g1 Oa))
    · rw [runT_snoc,← wk.run]
    · intro x hx
      rcases List.mem_append.mp hx with hx | hx
      · exact wk.ok x hx
      · rw [List.mem_singleton.mp hx]; exact ok
    · intro i x hx
      rw [List.getElem?_append] at hx
      split at hx
      · rename_i hi
        rw [List.take_append_of_le_length (by omega)]
        exact wk.pre i x hx
      · rename_i hi
        have hi2:i = ts.length:=by
          cases q:i - ts.length with
          | zero => omega
          | succ n => rw [q] at hx; simp at hx
        subst hi2
        rw [Nat.sub_self] at hx
        cases hx
        rw [List.take_left,← wk.run]
        exact pre
    · rw [List.length_append]; show _ + 1 ≤ 400; omega
    · intro z hz
      by_cases e1:z = u
      · subst e1; exact ⟨_,upd_same⟩
      · by_cases e2:z = r
        · subst e2; exact ⟨_,O2 _ _ (fun q => wk.ne (List.mem_singleton.mp q)) hR2⟩
        · obtain ⟨o,e⟩:=wk1.za z hz
          refine ⟨o,Oa _ _ (fun q => ?_) e⟩
          rcases List.mem_cons.mp q with q | q
          · exact e2 q
          · exact e1 (List.mem_singleton.mp q)
theorem sc_first_filled:FnScope ["kind", "rows", "start", "column", "place"] ["kind", "rows", "start", "column"] (defScope s_first_filled):=⟨rfl,rfl,rfl,by decide +kernel,rfl,by decide +kernel,by decide +kernel⟩
theorem ok_first_filled (h:Here K mg "first_filled" s_first_filled) (T:Nm mg) (nt:Nought P w K mg base CF CR):Has P w K mg base "first_filled" 3 ["kind", "rows", "start", "column"] (sp_first_filled CF CR):=by
  refine h.has (fun f fd F => F.binds fun _ _ _ _ _ _ us hl => by obtain ⟨_,_,_,_,rfl⟩:=len4 hl; exact rfl) fun f fd F => F.ok sc_first_filled (fun vs H Q E h => ?_) (fun cdv A outer s H vs Q E hr h => ?_)
  · obtain ⟨_,_,_,_,_,_,_,_,_,_,_,_,rfl,_⟩:=h
    rfl
  obtain ⟨κ,sk,r,u,Z,R0,pw,m,R,ts,l,c,rfl,hk,wk,cm,ln,n1000,k⟩:=h
  have nd:=sc_first_filled.nd
  refine ⟨_,(pss_cons (ps_for PassesOwn.never rfl (pi_range2 (by rfl) T.range (pa_cons (pv 2) (pa_cons (pe_callB call_len_seq (by rfl) T.len boot_len (pa_cons (pv 1) pa_nil)) pa_nil))) (pg_name (i:=4) nd rfl (Or.inl rfl)) (pss_one (ps_if (pt_not (pt_val (pe_methA (pv 0) hr (pa_cons (pe_ix ix_list (pe_ix ix_list (pv 1) (pv 4) (fun _ _ => rfl)) (pv 3) (fun _ _ => rfl)) pa_nil)))) (pss_one (ps_ret (pv 4))) pss_nil)))
    (pss_one (ps_ret (pe_callB call_len_seq (by rfl) T.len boot_len (pa_cons (pv 1) pa_nil))))),?_⟩
  obtain ⟨as,hR,la⟩:=wk.rl
  obtain ⟨C,dx,fs,ps,dvs,sp,c1,c2,c3,c4,rfl,c5⟩:=nt κ H sk hk
  refine ⟨_,rfl,_,rfl,r,_,rfl,.inl (SqL.of hR),_,_,rfl,?_⟩
  rw [List.length_map,la]
  refine ⟨⟨by omega,by omega,by omega,by omega⟩,?_⟩
  rw [show ((R0.length:Int) - (l:Int)).toNat = R0.length - l by omega]
  refine for_range (lo:=(l:Int)) (n:=R0.length - l) (fun i σ H2 => ∃ z:Option V,σ = [some (.ref sk),some (.ref r),some (.int (l:Int)),some (.int (c:Int)),z] ∧ H2 = H ∧ ∀ j,l ≤ j → j < l + i → ent R j c = 0) ⟨_,rfl,rfl,fun j a b => by omega⟩ ?_ ?_
  · rintro i σ H2 hi ⟨z,rfl,rfl,hz⟩
    obtain ⟨as',a,xs,v,e1,e2,e3,e4,e5,e6⟩:=wk.ent (i:=l + i) (j:=c) (by omega) cm
    have ec:((l:Int) + (i:Int)) = ((l + i:Nat):Int):=by omega
    refine ⟨_,rfl,sk,C,dx,fs,ps,_,sp,rfl,c1,c2,c3,c4,_,rfl,_,rfl,r,_,_,_,rfl,rfl,SqL.of e1,(by rw [ec]; exact ref_at e3),_,rfl,a,_,_,_,rfl,rfl,SqL.of e4,atI_nat e5,c5 v _ _ e6 fun b hb => ⟨_,rfl,?_⟩⟩
    cases b with
    | false =>
      refine iteT ⟨_,rfl,?_⟩
      show Q (V.int ((l:Int) + (i:Int))) _
      rw [ec]
      exact k (l + i) (by omega) (by omega) (fun _ z => by have:=hb.mpr z; cases this) (fun j a b => hz j a b)
    | true =>
      refine iteF ⟨_,rfl,rfl,fun j a b => ?_⟩
      by_cases e:j = l + i
      · rw [e]; exact hb.mp rfl
      · exact hz j a (by omega)
  · rintro σ H2 ⟨z,rfl,rfl,hz⟩
    refine ⟨_,rfl,r,_,rfl,.inl (SqL.of hR),?_⟩
    rw [List.length_map,la]
    exact k R0.length ln (Nat.le_refl _) (fun z => by omega) (fun i a b => hz i a (by omega))
end
end My
set_option maxHeartbeats 1000000
namespace My
open PySem L2 PyProof.Rows
section
variable {κ:KX}
structure QT (κ:KX) (pw:Nat) (R:List (List κ.F)):Prop where
  l4:κ = .q → R.length ≤ 4
  ex:∃ (B:Int) (b g:Nat),0 < B ∧ Bits b B ∧ b + g ≤ 300 ∧ ∀ f ∈ R,(∀ x ∈ f.take pw,QS κ B 300 x) ∧ ∀ x ∈ f.drop pw,QS κ 1 g x
theorem QS.dv {B:Int} (hB:0 < B) {a:Nat} {x:κ.F} (h:QS κ B a x):DvB κ B x:=by
  cases κ with
  | r p hp => exact trivial
  | q =>
    obtain ⟨X,rfl,_⟩:=h
    exact (divInt_sz X hB).1
theorem ent_mem {m:Nat} {R:List (List κ.F)} (wd:Wid m R) {i j:Nat} (hi:i < R.length) (hj:j < m):ent R i j ∈ R.getD i []:=by
  have l:=wd.get hi
  unfold ent
  generalize R.getD i [] = f at *
  rw [List.getD_eq_getElem?_getD,List.getElem?_eq_getElem (by omega)]
  exact List.getElem_mem _
theorem k1_ne:K1 κ ≠ 0:=fun z => Fd.zne z.symm
theorem bot_num {f:List κ.F} {A B:Int} {b:Nat} (hB:0 < B) (b3:b ≤ 300) (bB:Bits b B) (hA:BotV κ f A) (hf:∀ x ∈ f,QS κ B 300 x):∃ xA:κ.F,NumV κ A xA ∧ xA ≠ 0 ∧ B1s κ xA ∧ QS κ 1 b xA ∧ ∀ x ∈ f,QS κ 1 300 (xA * x):=by
  cases κ with
  | r p hp =>
    have hA:A = 1:=hA
    subst hA
    exact ⟨K1 _,numV1,k1_ne,trivial,trivial,fun _ _ => trivial⟩
  | q =>
    obtain ⟨A0,dv,mn⟩:=hA
    have hAB:A ∣ B:=mn B fun x hx => QS.dv hB (hf x hx)
    have bA:Bits b A:=bB.le (le_of_dvd' hAB (by omega))
    refine ⟨(A:Rat),⟨rfl,rfl⟩,fun z => ?_,⟨bA.up (by omega),Bits.of (by show 1 < _; exact Nat.lt_of_lt_of_le (show 1 < 2 ^ 1 by decide) (Nat.pow_le_pow_right (by decide) (by decide)))⟩,⟨A,(Rat.num_divInt_den (A:Rat)).symm,bA⟩,fun x hx => ?_⟩
    · have:Rat.num (A:Rat) = Rat.num (0:Rat):=congrArg Rat.num z
      have:A = 0:=this
      omega
    · obtain ⟨X,e,bX⟩:=hf x hx
      obtain ⟨q,hq⟩:=dv x hx
      obtain ⟨C,hC⟩:=hAB
      have hd:=(rat_fc x).pos
      refine ⟨Rat.num x * q,?_,bX.le ?_⟩
      · show (A:Rat) * x = _
        conv => lhs; rw [← Rat.num_divInt_den x,show (A:Rat) = Rat.divInt A 1 from (Rat.num_divInt_den (A:Rat)).symm]
        rw [Rat.divInt_mul_divInt,Rat.divInt_eq_divInt_iff (by omega) (by decide),Int.mul_one,Int.one_mul,hq]
        grind
      · have e1:=divInt_eq X hB
        have e:x = Rat.divInt X B:=e
        rw [← e] at e1
        have e2:X = Rat.num x * q * C:=by
          refine Int.eq_of_mul_eq_mul_right (a:=(Rat.den x:Int)) (by omega) ?_
          rw [← e1,hC,hq]
          grind
        have C0:C ≠ 0:=fun z => by rw [z,Int.mul_zero] at hC; omega
        rw [e2,Int.natAbs_mul (Rat.num x * q) C]
        exact Nat.le_mul_of_pos_right _ (by omega)
theorem Ech.scale {R R':List (List κ.F)} {n c:Nat} {ls:List Nat} {x:κ.F} (h:Ech R n c ls x) (e:∀ i < n,∀ j,ent R' i j = if i < ls.length then Fd.inv x * ent R i j else ent R i j):Ech R' n c ls 1:=by
  have hx:=Fd.mul_inv x h.x0
  have le:=h.le
  refine ⟨h.le,h.lt,h.inc,fun z => Fd.zne z.symm,fun k hk i hi => ?_,fun i a b j hj => ?_,fun k hk j hj => ?_⟩
  · rw [e i hi,h.col k hk i hi]
    by_cases e1:i = k
    · rw [if_pos e1,if_pos e1,if_pos (by omega)]; grind
    · rw [if_neg e1,if_neg e1]
      split
      · grind
      · rfl
  · rw [e i b,if_neg (by omega)]; exact h.low i a b j hj
  · rw [e k (by omega),if_pos hk,h.pre k hk j hj]; grind
end
def sp_take_bottoms (CF CR:Addr):Sp:=fun vs H Q _ => ∃ (κ:KX) (s r u:Addr) (Z:List Addr) (R0:List (List κ.F)) (pw m:Nat),vs = [.ref s,.ref r,.ref u] ∧ KdX CF CR κ H s ∧ Wk κ Z R0 pw m r u H R0 [] ∧ QT κ pw R0 ∧ R0.length ≤ 7 ∧
  ∀ H' R' ts',Off [r,u] H H' → Wk κ Z R0 pw m r u H' R' ts' → ts'.length ≤ R0.length → Stg κ R' 0 1 → Q .non H'
def sp_empty_column (CF CR:Addr):Sp:=fun vs H Q _ => ∃ (κ:KX) (s r u:Addr) (Z:List Addr) (R0:List (List κ.F)) (pw m:Nat) (R:List (List κ.F)) (ts:List (Tn κ)) (l c:Nat) (lv:V) (x:κ.F) (PQ PN:κ.F → Prop),vs = [.ref s,.ref r,.ref u,.int (l:Int),.int (c:Int),lv] ∧ KdX CF CR κ H s ∧ Wk κ Z R0 pw m r u H R ts ∧ l < R0.length ∧ c < pw ∧ NR κ H lv x ∧ x ≠ 0 ∧ ent R l c ≠ 0 ∧ AllR PQ R ∧ PivB x PQ PN ∧ R0.length ≤ 7 ∧ ts.length + 3 * R0.length ≤ 400 ∧
  ∀ H' R' ts',Off [r,u] H H' → Wk κ Z R0 pw m r u H' R' ts' → (∀ i < R0.length,∀ j,ent R' i j = newE R l c x i j) → ts'.length ≤ ts.length + 3 * R0.length → Q .non H'
def sp_emptied (CF CR:Addr):Sp:=fun vs H Q _ => ∃ (κ:KX) (s tb:Addr) (rs:List Addr) (R0:List (List κ.F)) (pw m:Nat),vs = [.ref s,.ref tb] ∧ KdX CF CR κ H s ∧ H tb = some (.lst (rs.map V.ref)) ∧ RowsX κ H rs (R0.map (List.take pw)) ∧ Wid m R0 ∧ pw ≤ m ∧ 1 ≤ R0.length ∧ R0.length ≤ 7 ∧ pw ≤ 7 ∧ m ≤ 1000 ∧ QT κ pw R0 ∧
  ∀ (H':Hp) (t r u L:Addr) (Z:List Addr) (v:V) (R':List (List κ.F)) (ts:List (Tn κ)) (ls:List Nat) (x:κ.F),Same H H' → H' t = some (.tup [.ref r,.ref u,.ref L,v]) → H r = none → H u = none → H L = none → Wk κ Z R0 pw m r u H' R' ts → L ∈ Z → L ≠ r → L ≠ u → H' L = some (.lst (ls.map fun (i:Nat) => V.int (i:Int))) → NR κ H' v x → Ech R' R0.length pw ls x → Stg κ R' ls.length x → ts.length ≤ 180 → Q (.ref t) H'
def sp_steps (CF CR:Addr):Sp:=fun vs H Q _ => ∃ (κ:KX) (s tb:Addr) (rs:List Addr) (R0:List (List κ.F)) (pw m:Nat),vs = [.ref s,.ref tb] ∧ KdX CF CR κ H s ∧ H tb = some (.lst (rs.map V.ref)) ∧ RowsX κ H rs (R0.map (List.take pw)) ∧ Wid m R0 ∧ pw ≤ m ∧ 1 ≤ R0.length ∧ R0.length ≤ 7 ∧ pw ≤ 7 ∧ m ≤ 1000 ∧ QT κ pw R0 ∧
  ∀ (H':Hp) (t D u L:Addr) (rs':List Addr) (tvs:List V) (ts:List (Tn κ)) (ls:List Nat),Same H H' → H' t = some (.tup [.ref D,.ref u,.ref L]) → H' D = some (.lst (rs'.map V.ref)) → RowsX κ H' rs' ((runT ts R0).map (List.take pw)) → H' u = some (.lst tvs) → AllG (TR κ H') tvs ts → H' L = some (.lst (ls.map fun (i:Nat) => V.int (i:Int))) →
    (∀ t ∈ ts,t.ok R0.length) → (∀ (i:Nat) t,ts[i]? = some t → t.preS (runT (ts.take i) R0)) → ts.length ≤ 200 → Ech (runT ts R0) R0.length pw ls 1 → (κ = .q → ∃ D:Int,0 < D ∧ Bits (dS ls.length) D ∧ ∀ i,ls.length ≤ i → i < R0.length → ∀ j < m,QS κ D (aS ls.length) (ent (runT ts R0) i j)) → H D = none → H u = none → H L = none → (∀ a ∈ rs',H a = none) → rs'.Nodup → (∀ a ∈ rs',a ≠ D ∧ a ≠ u ∧ a ≠ L) → D ≠ u → D ≠ L → u ≠ L → Q (.ref t) H'
end My
namespace My
theorem inv_ne' {α:Type} [Fd α] {x:α} (h:x ≠ 0):Fd.inv x ≠ 0:=fun z => by
  have:=Fd.mul_inv x h
  rw [z] at this
  have e:x * (0:α) = 0:=by grind
  rw [e] at this
  exact Fd.zne this
end My
namespace My
open PySem L2 PyProof.Rows
theorem stg_b1 {κ:KX} {R:List (List κ.F)} {k:Nat} {x:κ.F} (h:Stg κ R k x) (x0:x ≠ 0) (hk:κ = .q → k ≤ 4):B1s κ (Fd.inv x) ∧ AllR (B1s κ) R:=by
  cases κ with
  | r p hp => exact ⟨trivial,fun _ _ _ _ => trivial⟩
  | q =>
    obtain ⟨D,D',hD,bD,qR,hD',bD',qx⟩:=h rfl
    have nums:dS k ≤ 3700 ∧ aS k ≤ 900000 ∧ aL k ≤ 3700 ∧ 1 ≤ aL k ∧ dL k ≤ 900000:=by
      have hk:=hk rfl
      match k,hk with
      | 0,_ => decide
      | 1,_ => decide
      | 2,_ => decide
      | 3,_ => decide
      | 4,_ => decide
    obtain ⟨n1,n2,n3,n4,n5⟩:=nums
    obtain ⟨L,hL,bL,qI⟩:=QS.inv hD' n4 qx bD' x0
    exact ⟨QS.b1s hL qI (bL.up n3) n5,fun f hf y hy => QS.b1s hD (qR f hf y hy) (bD.up n1) n2⟩
theorem Stg.swap {κ:KX} {R:List (List κ.F)} {k:Nat} {x:κ.F} {a b:Int} (h:Stg κ R k x):Stg κ (doT (.swap a b) R) k x:=fun z => by
  obtain ⟨D,D',hD,bD,qR,r⟩:=h z
  exact ⟨D,D',hD,bD,(qR.set (qR.getD _)).set (qR.getD _),r⟩
end My
namespace My
open PySem L2 PyProof.Rows
theorem joinH2 {C C' G X:Hp → Prop} (h:(∀ H,C' H → G H) → ∀ H,C H → X H) (hG:∀ H,C' H → G H):∀ H,C H → X H:=h hG
end My
namespace My
theorem ent_parts {κ:KX} {pw m g:Nat} {B:Int} {R:List (List κ.F)} (wd:Wid m R) {i j:Nat} (hi:i < R.length) (hj:j < m) (h:∀ f ∈ R,(∀ x ∈ f.take pw,QS κ B 300 x) ∧ ∀ x ∈ f.drop pw,QS κ 1 g x):if j < pw then QS κ B 300 (ent R i j) else QS κ 1 g (ent R i j):=by
  have l:=wd.get hi
  have e:R.getD i [] = R[i]:=getD_get (List.getElem?_eq_getElem hi)
  have hf:=h R[i] (List.getElem_mem hi)
  rw [← e] at hf
  have en:ent R i j = (R.getD i [])[j]'(by omega):=by
    unfold ent
    rw [List.getD_eq_getElem?_getD (l:=R.getD i []),List.getElem?_eq_getElem (by omega)]; rfl
  by_cases q:j < pw
  · rw [if_pos q,en]
    refine hf.1 _ ?_
    rw [List.mem_take_iff_getElem]
    exact ⟨j,by omega,rfl⟩
  · rw [if_neg q,en]
    refine hf.2 _ ?_
    rw [List.mem_drop_iff_getElem]
    exact ⟨j - pw,by omega,by congr 1; omega⟩
end My
namespace My
open PySem L2 PyProof.Rows
section
variable {P:Program} {w:World} {K:PySem.W.Frag} {mg:Str → Option Value} {base:Heap} {CF CR:Addr}
theorem sc_Kind_common_bottom:FnScope ["self", "some"] ["self", "some"] (defScope s_Kind_common_bottom):=⟨rfl,rfl,rfl,by decide +kernel,rfl,by decide +kernel,by decide +kernel⟩
theorem ok_Kbottom (h:HereM K CR "common_bottom" "Kind.common_bottom" s_Kind_common_bottom):HasM P w K mg base CR "common_bottom" 1 ["self", "some"] [] sp_Kbottom:=by
  refine h.hasM (fun f fd F => F.binds fun _ _ _ _ _ _ us hl => by obtain ⟨_,_,rfl⟩:=len2 hl; exact rfl) fun f fd F => F.ok sc_Kind_common_bottom (fun vs H Q E h => ?_) (fun cdv A outer s H vs Q E hr h => ?_)
  · obtain ⟨_,_,rfl,_⟩:=h
    rfl
  obtain ⟨sf,r,rfl,k⟩:=h
  exact ⟨_,(pss_one (ps_ret pe_int)),k⟩
theorem meth_bottom (kd:Kd K mg CF CR) (hR:HasM P w K mg base CR "common_bottom" 2 ["self", "some"] [] sp_Kbottom):MethBot P w K mg base CF CR:=by
  intro κ H s hk
  cases κ with
  | q => exact hk.elim
  | r p hp =>
    obtain ⟨dx,h⟩:=hk
    exact ⟨CR,dx,fsR p,_,_,_,h,kd.clR,hR,fsR_no _ (by decide),rfl,fun r xs f B Q hr al hB bB dv k => ⟨s,r,rfl,k 1 rfl⟩⟩
theorem sc_take_bottoms:FnScope ["kind", "rows", "turns", "place"] ["kind", "rows", "turns"] (defScope s_take_bottoms):=⟨rfl,rfl,rfl,by decide +kernel,rfl,by decide +kernel,by decide +kernel⟩
theorem ok_take_bottoms (h:Here K mg "take_bottoms" s_take_bottoms) (T:Nm mg) (mn:MethNum P w K mg base CF CR) (mb:MethBot P w K mg base CF CR) (h_take:Has P w K mg base "take" 5 ["kind", "rows", "turns", "turn"] (sp_take CF CR)):Has P w K mg base "take_bottoms" 6 ["kind", "rows", "turns"] (sp_take_bottoms CF CR):=by
  refine h.has (fun f fd F => F.binds fun _ _ _ _ _ _ us hl => by obtain ⟨_,_,_,rfl⟩:=len3 hl; exact rfl) fun f fd F => F.ok sc_take_bottoms (fun vs H Q E h => ?_) (fun cdv A outer s H vs Q E hr h => ?_)
  · obtain ⟨_,_,_,_,_,_,_,_,rfl,_⟩:=h
    rfl
  obtain ⟨κ,sk,r,u,Z,R0,pw,m,rfl,hk,wk,qt,n7,k⟩:=h
  have nd:=sc_take_bottoms.nd
  refine ⟨_,(pss_one (ps_for PassesOwn.never rfl (pi_range1 (by rfl) T.range (pa_cons (pe_callB call_len_seq (by rfl) T.len boot_len (pa_cons (pv 1) pa_nil)) pa_nil)) (pg_name (i:=3) nd rfl (Or.inl rfl)) (pss_one (ps_expr (pe_has h_take hr (by rfl) (pa_cons (pv 0) (pa_cons (pv 1) (pa_cons (pv 2) (pa_cons (pe_tup (pa_cons pe_str (pa_cons (pv 3) (pa_cons (pe_methX (pv 0) passN hr (pa_cons (pe_methA (pv 0) hr (pa_cons (pe_ix ix_list (pv 1) (pv 3) (fun _ _ => rfl)) pa_nil)) pa_nil)) pa_nil)))) pa_nil))))))))),?_⟩
  obtain ⟨B,b,g,hB,bB,bg,qB⟩:=qt.ex
  have wm:=wk.wm
  obtain ⟨as,hR,la⟩:=wk.rl
  obtain ⟨tvs,hU⟩:=wk.ul
  refine ⟨_,rfl,r,_,rfl,.inl (SqL.of hR),_,rfl,?_⟩
  rw [List.length_map,la]
  refine ⟨by omega,by omega,?_⟩
  rw [Int.toNat_natCast]
  refine for_range (lo:=0) (n:=R0.length) (fun i σ H2 => ∃ (z:Option V) (R:List (List κ.F)) (ts:List (Tn κ)),σ = [some (.ref sk),some (.ref r),some (.ref u),z] ∧ Off [r,u] H H2 ∧ Wk κ Z R0 pw m r u H2 R ts ∧ ts.length ≤ i ∧ ∀ i' < R0.length,∀ j < m,(i' < i → QS κ 1 300 (ent R i' j)) ∧ (i ≤ i' → if j < pw then QS κ B 300 (ent R i' j) else QS κ 1 g (ent R i' j))) ⟨_,R0,[],rfl,fun _ _ _ q => q,wk,Nat.le_refl _,fun i' hi j hj => ⟨fun q => by omega,fun _ => ent_parts wk.wid hi hj qB⟩⟩ ?_ ?_
  · rintro i σ H2 hi ⟨z,R,ts,rfl,O,wk2,lt,qs⟩
    have hk2:=hk.off2 hR hU O
    obtain ⟨as2,h1,h2,h3⟩:=wk2.rows
    have lR:=wk2.len
    obtain ⟨a,xs,ea,hx,al⟩:=h2.get (i:=i) (by rw [List.length_map]; omega)
    have eg:(R.map (List.take pw)).getD i [] = (R.map (List.take pw))[i]'(by rw [List.length_map]; omega):=getD_get (List.getElem?_eq_getElem (by rw [List.length_map]; omega))
    rw [← eg] at al
    have qrow:=ent_row (Pr:=QS κ B 300) (wid_take wk2.wd wm) (i:=i) (by rw [List.length_map]; omega) (fun j hj => by
      have:=(qs i (by omega) j (by omega)).2 (Nat.le_refl _)
      rw [if_pos hj] at this
      rw [ent_take hj]; exact this)
    have qall:=ent_row (Pr:=B1s κ) wk2.wd (i:=i) (by omega) (fun j hj => by
      have:=(qs i (by omega) j hj).2 (Nat.le_refl _)
      by_cases q:j < pw
      · rw [if_pos q] at this; exact QS.b1s hB this (bB.up (by omega)) (by decide)
      · rw [if_neg q] at this; exact QS.b1s (by decide) this (Bits.of (Nat.lt_of_lt_of_le (show 1 < 2 ^ 1 by decide) (Nat.pow_le_pow_right (by decide) (by decide)))) (by omega))
    obtain ⟨C,dx,fs,ps,dvs,sp,c1,c2,c3,c4,rfl,c5⟩:=mn κ H2 sk hk2
    obtain ⟨C',dx',fs',ps',dvs',sp',d1,d2,d3,d4,rfl,d5⟩:=mb κ H2 sk hk2
    refine ⟨_,rfl,_,rfl,_,rfl,_,rfl,_,rfl,sk,C,dx,fs,ps,_,sp,rfl,c1,c2,c3.mono (by decide),c4,_,rfl,sk,C',dx',fs',ps',_,sp',rfl,d1,d2,d3.mono (by decide),d4,_,rfl,_,rfl,r,_,_,_,rfl,rfl,SqL.of h1,(by rw [Int.zero_add]; exact ref_at ea),d5 a xs _ B _ hx al hB (bB.up (by omega)) (fun x hx => QS.dv hB (qrow x hx)) fun A hA => ?_⟩
    obtain ⟨xA,nv,x0,b1,qxA,qA⟩:=bot_num hB (by omega) bB hA qrow
    refine c5 H2 A xA _ _ (Same.refl _) nv fun v H3 S3 nrv => ?_
    refine ⟨(by show 3 ≤ sizeLine; decide),fun tt nt => ?_⟩
    have S4:=same_new nt (.tup [.str "scale", .int (0 + (i:Int)),v])
    have q4:=upd_same (H:=H3) (a:=tt) (o:=.tup [.str "scale", .int (0 + (i:Int)),v])
    generalize upd H3 tt (.tup [.str "scale", .int (0 + (i:Int)),v]) = H4 at *
    have S24:=S3.trans S4
    rw [Int.zero_add] at q4
    refine ⟨κ,sk,r,u,Z,R0,pw,m,R,ts,.ref tt,.scale (i:Int) xA,rfl,hk2.same S24,wk2.same S24,by omega,⟨tt,v,rfl,q4,nrv.same S4⟩,⟨⟨by omega,by omega⟩,x0⟩,⟨b1,qall⟩,fun H5 ts' O5 wk5 l5 => ?_⟩
    refine ⟨_,_,ts',rfl,fun b o nb q => O5 b o nb (S24 _ _ (O b o nb q)),wk5,by omega,fun i' hi' j hj => ?_⟩
    rw [ent_scale (by rw [Int.toNat_natCast]; omega),Int.toNat_natCast]
    by_cases e:i' = i
    · rw [if_pos e]
      refine ⟨fun _ => ?_,fun q => by omega⟩
      subst e
      by_cases q:j < pw
      · rw [← ent_take q]; exact qA _ (ent_mem (wid_take wk2.wd wm) (by rw [List.length_map]; omega) q)
      · have:=(qs i' hi' j hj).2 (Nat.le_refl _)
        rw [if_neg q] at this
        exact (QS.mul qxA this).mono (by omega)
    · rw [if_neg e]
      exact ⟨fun q => (qs i' hi' j hj).1 (by omega),fun q => (qs i' hi' j hj).2 (by omega)⟩
  · rintro σ H2 ⟨z,R,ts,rfl,O,wk2,lt,qs⟩
    refine k H2 R ts O wk2 lt fun _ => ?_
    refine ⟨1,1,by decide,Bits.of (by decide),ent_all wk2.wd fun i hi j hj => (qs i (by rw [← wk2.len]; exact hi) j hj).1 (by rw [← wk2.len]; exact hi),by decide,Bits.of (by decide),qs_one⟩
end
end My
namespace My
open PySem L2 PyProof.Rows
section
variable {P:Program} {w:World} {K:PySem.W.Frag} {mg:Str → Option Value} {base:Heap} {CF CR:Addr}
theorem len6 {us:List Value} (h:us.length = 6):∃ a b c d e f,us = [a,b,c,d,e,f]:=match us,h with | [a,b,c,d,e,f],_ => ⟨a,b,c,d,e,f,rfl⟩
theorem sc_empty_column:FnScope ["kind", "rows", "turns", "lead", "column", "last", "head", "back", "place", "less"] ["kind", "rows", "turns", "lead", "column", "last"] (defScope s_empty_column):=⟨rfl,rfl,rfl,by decide +kernel,rfl,by decide +kernel,by decide +kernel⟩
theorem ok_empty_column (h:Here K mg "empty_column" s_empty_column) (T:Nm mg) (mn:MethNum P w K mg base CF CR) (mm:MethM P w K mg base CF CR) (mb:MethBack P w K mg base CF CR) (h_take:Has P w K mg base "take" 5 ["kind", "rows", "turns", "turn"] (sp_take CF CR)):Has P w K mg base "empty_column" 6 ["kind", "rows", "turns", "lead", "column", "last"] (sp_empty_column CF CR):=by
  refine h.has (fun f fd F => F.binds fun _ _ _ _ _ _ us hl => by obtain ⟨_,_,_,_,_,_,rfl⟩:=len6 hl; exact rfl) fun f fd F => F.ok sc_empty_column (fun vs H Q E h => ?_) (fun cdv A outer s H vs Q E hr h => ?_)
  · obtain ⟨_,_,_,_,_,_,_,_,_,_,_,_,_,_,_,_,rfl,_⟩:=h
    rfl
  obtain ⟨κ,sk,r,u,Z,R0,pw,m,R,ts,l,c,lv,x,PQ,PN,rfl,hk,wk,ll,cm,nl,x0,h0,pq,pb,n7,l4,k⟩:=h
  have nd:=sc_empty_column.nd
  refine ⟨_,(pss_cons (ps_set (i:=6) nd rfl (Or.inl rfl) (pe_ix ix_list (pe_ix ix_list (pv 1) (pv 3) (fun _ _ => rfl)) (pv 4) (fun _ _ => rfl)))
    (pss_cons (ps_set (i:=7) nd rfl (Or.inl rfl) (pe_methX (pv 0) passN hr (pa_cons (pv 5) pa_nil)))
    (pss_one (ps_for PassesOwn.never rfl (pi_range1 (by rfl) T.range (pa_cons (pe_callB call_len_seq (by rfl) T.len boot_len (pa_cons (pv 1) pa_nil)) pa_nil)) (pg_name (i:=8) nd rfl (Or.inl rfl)) (pss_one (ps_if (pt_cmpR op_ne (pv 8) (pv 3) (nomark _)) (pss_cons (ps_set (i:=9) nd rfl (Or.inl rfl) (pe_methA (pv 0) hr (pa_cons (pe_methX (pv 0) passN hr (pa_cons pe_int pa_nil)) (pa_cons (pe_ix ix_list (pe_ix ix_list (pv 1) (pv 8) (fun _ _ => rfl)) (pv 4) (fun _ _ => rfl)) pa_nil))))
        (pss_cons (ps_expr (pe_has h_take hr (by rfl) (pa_cons (pv 0) (pa_cons (pv 1) (pa_cons (pv 2) (pa_cons (pe_tup (pa_cons pe_str (pa_cons (pv 8) (pa_cons (pv 6) pa_nil)))) pa_nil))))))
        (pss_cons (ps_expr (pe_has h_take hr (by rfl) (pa_cons (pv 0) (pa_cons (pv 1) (pa_cons (pv 2) (pa_cons (pe_tup (pa_cons pe_str (pa_cons (pv 8) (pa_cons (pv 3) (pa_cons (pv 9) pa_nil))))) pa_nil))))))
        (pss_one (ps_expr (pe_has h_take hr (by rfl) (pa_cons (pv 0) (pa_cons (pv 1) (pa_cons (pv 2) (pa_cons (pe_tup (pa_cons pe_str (pa_cons (pv 8) (pa_cons (pv 7) pa_nil)))) pa_nil)))))))))) pss_nil)))))),?_⟩
  have lR:=wk.len
  have wd:=wk.wd
  have cm':c < m:=Nat.lt_of_lt_of_le cm wk.wm
  have pe:∀ i < R0.length,∀ j < m,PQ (ent R i j):=fun i hi j hj => all_ent wd pq (by omega) hj
  obtain ⟨as,a,xs,hv,e1,e2,e3,e4,e5,nh⟩:=wk.ent ll cm
  obtain ⟨C,dx,fs,ps,dvs,sp,c1,c2,c3,c4,rfl,c5⟩:=mb κ H sk hk
  refine ⟨_,rfl,_,rfl,r,_,_,_,rfl,rfl,SqL.of e1,ref_at e3,_,rfl,a,_,_,_,rfl,rfl,SqL.of e4,atI_nat e5,?_⟩
  refine ⟨_,rfl,sk,C,dx,fs,ps,_,sp,rfl,c1,c2,c3.mono (by decide),c4,_,rfl,c5 H lv x _ _ (Same.refl H) nl x0 fun bv H1 S1 nb => ?_⟩
  have wk1:=wk.same S1
  have hR1:=S1 _ _ e1
  obtain ⟨tvs,hU1⟩:=wk1.ul
  have hk1:=hk.same S1
  have nh1:=nh.same S1
  refine ⟨_,rfl,r,_,rfl,.inl (SqL.of hR1),_,rfl,?_⟩
  rw [List.length_map,e2]
  refine ⟨by omega,by omega,?_⟩
  rw [Int.toNat_natCast]
  refine for_range (lo:=0) (n:=R0.length) (fun p σ H2 => ∃ (z8 z9:Option V) (Rp:List (List κ.F)) (tp:List (Tn κ)),σ = [some (.ref sk),some (.ref r),some (.ref u),some (.int (l:Int)),some (.int (c:Int)),some lv,some hv,some bv,z8,z9] ∧ Off [r,u] H1 H2 ∧ Wk κ Z R0 pw m r u H2 Rp tp ∧ tp.length ≤ ts.length + 3 * p ∧ ∀ i < R0.length,∀ j,ent Rp i j = if i < p then newE R l c x i j else ent R i j) ⟨_,_,R,ts,rfl,fun _ _ _ q => q,wk1,by omega,fun i hi j => by rw [if_neg (by omega)]⟩ ?_ ?_
  · rintro p σ H2 hp ⟨z8,z9,Rp,tp,rfl,O,wk2,lt,en⟩
    refine ⟨_,rfl,_,rfl,rfl,_,rfl,?_⟩
    refine if_neI (fun z => ?_) (fun z => ?_)
    case refine_2 =>
      have ep:p = l:=by omega
      refine ⟨_,_,Rp,tp,rfl,O,wk2,by omega,fun i hi j => ?_⟩
      rw [en i hi j]
      by_cases q:i < p
      · rw [if_pos q,if_pos (by omega)]
      · by_cases q2:i = p
        · rw [if_neg q,if_pos (by omega),q2,ep]
          unfold newE
          rw [if_pos rfl]
        · rw [if_neg q,if_neg (by omega)]
    have npl:p ≠ l:=by omega
    have hk2:=hk1.off2 hR1 hU1 O
    have nh2:=nh1.off2 hR1 hU1 O
    have nb2:=nb.off2 hR1 hU1 O
    obtain ⟨as2,a2,xs2,v2,f1,f2,f3,f4,f5,n2⟩:=wk2.ent hp cm
    rw [en p hp c,if_neg (by omega)] at n2
    obtain ⟨Cm,dxm,fsm,psm,dvm,spm,m1,m2,m3,m4,rfl,m5⟩:=mm κ H2 sk hk2
    obtain ⟨Cn,dxn,fsn,psn,dvn,spn,k1,k2,k3,k4,rfl,k5⟩:=mn κ H2 sk hk2
    refine ⟨_,rfl,sk,Cm,dxm,fsm,psm,_,spm,rfl,m1,m2,m3.mono (by decide),m4,_,rfl,sk,Cn,dxn,fsn,psn,_,spn,rfl,k1,k2,k3.mono (by decide),k4,k5 H2 0 0 _ _ (Same.refl _) numV0 fun v0 H3 S3 n0 => ?_⟩
    refine ⟨_,rfl,_,rfl,r,_,_,_,rfl,rfl,SqL.of (S3 _ _ f1),(by rw [Int.zero_add]; exact ref_at f3),_,rfl,a2,_,_,_,rfl,rfl,SqL.of (S3 _ _ f4),atI_nat f5,m5 H3 v0 v2 0 _ _ S3 n0 (n2.same S3) b1_zero (pb.ent _ (pe p hp c cm')).b1 fun lsv H4 S4 nls => ?_⟩
    have S24:=S3.trans S4
    have wk4:=wk2.same S24
    have nh4:=nh2.same S24
    have nb4:=nb2.same S24
    have hk4:=hk2.same S24
    have f14:=S24 _ _ f1
    clear S3 S4 n0 m1 m2 m3 m4 m5 k1 k2 k3 k4 k5 f4 f5 n2
    refine ⟨_,rfl,_,rfl,_,rfl,_,rfl,_,rfl,(by show 3 ≤ sizeLine; decide),fun t1 nt1 => ?_⟩
    have q5:=upd_same (H:=H4) (a:=t1) (o:=.tup [.str "scale", .int (0 + (p:Int)),hv])
    have S5:=same_new nt1 (.tup [.str "scale", .int (0 + (p:Int)),hv])
    generalize upd H4 t1 (.tup [.str "scale", .int (0 + (p:Int)),hv]) = H5 at *
    rw [Int.zero_add] at q5
    have wk5:=wk4.same S5
    have lRp:=wk5.len
    refine ⟨κ,sk,r,u,Z,R0,pw,m,Rp,tp,.ref t1,.scale (p:Int) (ent R l c),rfl,hk4.same S5,wk5,by omega,⟨t1,hv,rfl,q5,nh4.same S5⟩,⟨⟨by omega,by omega⟩,h0⟩,⟨pb.ent _ (pe l ll c cm'),?_⟩,fun H6 tp6 O6 wk6 l6 => ?_⟩
    · rw [Int.toNat_natCast]
      refine ent_row wk5.wd (by omega) fun j hj => ?_
      rw [en p hp j,if_neg (by omega)]
      exact pb.ent _ (pe p hp j hj)
    obtain ⟨tv5,hU5⟩:=wk5.ul
    have hR5:=S5 _ _ f14
    have nls6:=(nls.same S5).off2 hR5 hU5 O6
    have nb6:=(nb4.same S5).off2 hR5 hU5 O6
    have hk6:=(hk4.same S5).off2 hR5 hU5 O6
    have en6:∀ i < R0.length,∀ j,ent (doT (.scale (p:Int) (ent R l c)) Rp) i j = if i = p then ent R l c * ent R p j else ent Rp i j:=fun i hi j => by
      rw [ent_scale (by rw [Int.toNat_natCast]; omega),Int.toNat_natCast]
      by_cases q:i = p
      · rw [if_pos q,if_pos q,q,en p hp j,if_neg (by omega)]
      · rw [if_neg q,if_neg q]
    generalize doT (.scale (p:Int) (ent R l c)) Rp = R6 at *
    refine ⟨_,rfl,_,rfl,_,rfl,_,rfl,_,rfl,_,rfl,(by show 4 ≤ sizeLine; decide),fun t2 nt2 => ?_⟩
    have q7:=upd_same (H:=H6) (a:=t2) (o:=.tup [.str "add", .int (0 + (p:Int)),.int (l:Int),lsv])
    have S7:=same_new nt2 (.tup [.str "add", .int (0 + (p:Int)),.int (l:Int),lsv])
    generalize upd H6 t2 (.tup [.str "add", .int (0 + (p:Int)),.int (l:Int),lsv]) = H7 at *
    rw [Int.zero_add] at q7
    have wk7:=wk6.same S7
    have lR6:=wk7.len
    have rl7:∀ j,ent R6 l j = ent R l j:=fun j => by
      rw [en6 l ll j,if_neg (Ne.symm npl),en l ll j]
      unfold newE
      rw [if_pos rfl]
      split <;> rfl
    refine ⟨κ,sk,r,u,Z,R0,pw,m,R6,tp6,.ref t2,.add (p:Int) (l:Int) (0 - ent R p c),rfl,hk6.same S7,wk7,by omega,⟨t2,lsv,rfl,q7,nls6.same S7⟩,⟨⟨by omega,by omega⟩,⟨by omega,by omega⟩,by omega⟩,⟨pb.neg _ (pe p hp c cm'),?_,?_⟩,fun H8 tp8 O8 wk8 l8 => ?_⟩
    · rw [Int.toNat_natCast]
      refine ent_row wk7.wd (by omega) fun j hj => ?_
      rw [en6 p hp j,if_pos rfl]
      exact pb.mul _ _ (pe l ll c cm') (pe p hp j hj)
    · rw [Int.toNat_natCast]
      refine ent_row (Pr:=fun y => B1s κ y ∧ B1s κ ((0 - ent R p c) * y)) wk7.wd (by omega) fun j hj => ?_
      rw [rl7 j]
      exact ⟨pb.ent _ (pe l ll j hj),pb.nml _ _ (pe p hp c cm') (pe l ll j hj)⟩
    obtain ⟨as7,hR7,_⟩:=wk7.rl
    obtain ⟨tv7,hU7⟩:=wk7.ul
    have nb8:=(nb6.same S7).off2 hR7 hU7 O8
    have hk8:=(hk6.same S7).off2 hR7 hU7 O8
    have en8:∀ i < R0.length,∀ j,ent (doT (.add (p:Int) (l:Int) (0 - ent R p c)) R6) i j = if i = p then ent R l c * ent R p j + (0 - ent R p c) * ent R l j else ent Rp i j:=fun i hi j => by
      rw [ent_add wk7.wd (by rw [Int.toNat_natCast]; omega) (by rw [Int.toNat_natCast]; omega),Int.toNat_natCast,Int.toNat_natCast,rl7 j,en6 i hi j]
      by_cases q:i = p
      · rw [if_pos q,if_pos q,if_pos q]
      · rw [if_neg q,if_neg q,if_neg q]
    generalize doT (.add (p:Int) (l:Int) (0 - ent R p c)) R6 = R8 at *
    refine ⟨_,rfl,_,rfl,_,rfl,_,rfl,_,rfl,(by show 3 ≤ sizeLine; decide),fun t3 nt3 => ?_⟩
    have q9:=upd_same (H:=H8) (a:=t3) (o:=.tup [.str "scale", .int (0 + (p:Int)),bv])
    have S9:=same_new nt3 (.tup [.str "scale", .int (0 + (p:Int)),bv])
    generalize upd H8 t3 (.tup [.str "scale", .int (0 + (p:Int)),bv]) = H9 at *
    rw [Int.zero_add] at q9
    have wk9:=wk8.same S9
    have lR8:=wk9.len
    refine ⟨κ,sk,r,u,Z,R0,pw,m,R8,tp8,.ref t3,.scale (p:Int) (Fd.inv x),rfl,hk8.same S9,wk9,by omega,⟨t3,bv,rfl,q9,nb8.same S9⟩,⟨⟨by omega,by omega⟩,inv_ne' x0⟩,⟨pb.inv,?_⟩,fun H10 tp10 O10 wk10 l10 => ?_⟩
    · rw [Int.toNat_natCast]
      refine ent_row wk9.wd (by omega) fun j hj => ?_
      rw [en8 p hp j,if_pos rfl]
      exact pb.sum _ _ _ _ (pe l ll c cm') (pe p hp j hj) (pe p hp c cm') (pe l ll j hj)
    refine ⟨_,_,_,tp10,rfl,fun b o nb' q => O10 b o nb' (S9 _ _ (O8 b o nb' (S7 _ _ (O6 b o nb' (S5 _ _ (S24 _ _ (O b o nb' q))))))),wk10,by omega,fun i hi j => ?_⟩
    rw [ent_scale (by rw [Int.toNat_natCast]; omega),Int.toNat_natCast,en8 i hi j]
    by_cases q:i = p
    · rw [if_pos q,if_pos q,if_pos (by omega)]
      unfold newE
      rw [if_neg (by omega),q]
    · rw [if_neg q,if_neg q,en i hi j]
      by_cases q2:i < p
      · rw [if_pos q2,if_pos (by omega)]
      · rw [if_neg q2,if_neg (by omega)]
  · rintro σ H2 ⟨z8,z9,Rp,tp,rfl,O,wk2,lt,en⟩
    refine k H2 Rp tp (fun b o nb' q => O b o nb' (S1 _ _ q)) wk2 (fun i hi j => ?_) lt
    rw [en i hi j,if_pos hi]
end
end My
namespace My
open PySem L2 PyProof.Rows
section
variable {P:Program} {w:World} {K:PySem.W.Frag} {mg:Str → Option Value} {base:Heap} {CF CR:Addr}
theorem sc_emptied:FnScope ["kind", "table", "rows", "turns", "leads", "last", "column", "lead", "found"] ["kind", "table"] (defScope s_emptied):=⟨rfl,rfl,rfl,by decide +kernel,rfl,by decide +kernel,by decide +kernel⟩
theorem ok_emptied (h:Here K mg "emptied" s_emptied) (T:Nm mg) (mn:MethNum P w K mg base CF CR) (h_take_bottoms:Has P w K mg base "take_bottoms" 6 ["kind", "rows", "turns"] (sp_take_bottoms CF CR)) (h_first_filled:Has P w K mg base "first_filled" 6 ["kind", "rows", "start", "column"] (sp_first_filled CF CR)) (h_take:Has P w K mg base "take" 6 ["kind", "rows", "turns", "turn"] (sp_take CF CR)) (h_empty_column:Has P w K mg base "empty_column" 6 ["kind", "rows", "turns", "lead", "column", "last"] (sp_empty_column CF CR)):Has P w K mg base "emptied" 7 ["kind", "table"] (sp_emptied CF CR):=by
  refine h.has (fun f fd F => F.binds fun _ _ _ _ _ _ us hl => by obtain ⟨_,_,rfl⟩:=len2 hl; exact rfl) fun f fd F => F.ok sc_emptied (fun vs H Q E h => ?_) (fun cdv A outer s H vs Q E hr h => ?_)
  · obtain ⟨_,_,_,_,_,_,_,rfl,_⟩:=h
    rfl
  obtain ⟨κ,sk,tb,rs,R0,pw,m,rfl,hk,hT,rx,wd,wm,n1,n7,m7,mM,qt,k⟩:=h
  have nd:=sc_emptied.nd
  refine ⟨_,(pss_cons (ps_set (i:=2) nd rfl (Or.inl rfl) (pe_callTy call_list_of (by rfl) T.list boot_list (pa_cons (pv 1) pa_nil)))
    (pss_cons (ps_set (i:=3) nd rfl (Or.inl rfl) (pe_lst pa_nil))
    (pss_cons (ps_set (i:=4) nd rfl (Or.inl rfl) (pe_lst pa_nil))
    (pss_cons (ps_set (i:=5) nd rfl (Or.inl rfl) (pe_methX (pv 0) passN hr (pa_cons pe_int pa_nil)))
    (pss_cons (ps_expr (pe_has h_take_bottoms hr (by rfl) (pa_cons (pv 0) (pa_cons (pv 2) (pa_cons (pv 3) pa_nil)))))
    (pss_cons (ps_for PassesOwn.never rfl (pi_range1 (by rfl) T.range (pa_cons (pe_callB call_len_seq (by rfl) T.len boot_len (pa_cons (pe_ix ix_list (pv 1) pe_int (fun _ _ => rfl)) pa_nil)) pa_nil)) (pg_name (i:=6) nd rfl (Or.inl rfl)) (pss_cons (ps_set (i:=7) nd rfl (Or.inl rfl) (pe_callB call_len_seq (by rfl) T.len boot_len (pa_cons (pv 4) pa_nil)))
      (pss_cons (ps_set (i:=8) nd rfl (Or.inl rfl) (pe_has h_first_filled hr (by rfl) (pa_cons (pv 0) (pa_cons (pv 2) (pa_cons (pv 7) (pa_cons (pv 6) pa_nil))))))
      (pss_one (ps_if (pt_cmpR op_lt (pv 8) (pe_callB call_len_seq (by rfl) T.len boot_len (pa_cons (pv 2) pa_nil)) (nomark _)) (pss_cons (ps_if (pt_cmpR op_ne (pv 8) (pv 7) (nomark _)) (pss_one (ps_expr (pe_has h_take hr (by rfl) (pa_cons (pv 0) (pa_cons (pv 2) (pa_cons (pv 3) (pa_cons (pe_tup (pa_cons pe_str (pa_cons (pv 7) (pa_cons (pv 8) pa_nil)))) pa_nil))))))) pss_nil)
        (pss_cons (ps_expr (pe_has h_empty_column hr (by rfl) (pa_cons (pv 0) (pa_cons (pv 2) (pa_cons (pv 3) (pa_cons (pv 7) (pa_cons (pv 6) (pa_cons (pv 5) pa_nil))))))))
        (pss_cons (ps_set (i:=5) nd rfl (Or.inl rfl) (pe_ix ix_list (pe_ix ix_list (pv 2) (pv 7) (fun _ _ => rfl)) (pv 6) (fun _ _ => rfl)))
        (pss_one (ps_expr (pe_bm PySem.F.plainAttrs_list PySem.F.slot_list_append PySem.F.type_list_append mt_append (pv 4) (pa_cons (pv 6) pa_nil))))))) pss_nil)))))
    (pss_one (ps_ret (pe_tup (pa_cons (pv 2) (pa_cons (pv 3) (pa_cons (pv 4) (pa_cons (pv 5) pa_nil))))))))))))),?_⟩
  have lrs:=rx.1
  rw [List.length_map] at lrs
  obtain ⟨a0,g0⟩:∃ a0,rs[0]? = some a0:=⟨rs[0]'(by omega),List.getElem?_eq_getElem (by omega)⟩
  obtain ⟨f0,e0⟩:=get_of_lt g0 rx.1
  obtain ⟨xs0,hx0,al0⟩:=rx.2 0 a0 f0 g0 e0
  have lx0:xs0.length = pw:=by rw [al0.1]; exact wid_take wd wm f0 (List.mem_of_getElem? e0)
  refine ⟨_,rfl,tb,_,rfl,.inl (SqL.of hT),fun r nr => ?_⟩
  have Sr:=same_new nr (.lst (rs.map V.ref))
  have qr:=upd_same (H:=H) (a:=r) (o:=.lst (rs.map V.ref))
  have nrr:=rx.notin nr
  generalize upd H r (.lst (rs.map V.ref)) = H1 at *
  refine ⟨(by show 0 ≤ sizeLine; decide),fun u nu => ?_⟩
  have Su:=same_new nu (.lst [])
  have qu:=upd_same (H:=H1) (a:=u) (o:=.lst [])
  have nur:=(rx.same Sr).notin nu
  have nru:r ≠ u:=fun z => by rw [← z,qr] at nu; cases nu
  generalize upd H1 u (.lst []) = H2 at *
  refine ⟨(by show 0 ≤ sizeLine; decide),fun L nL => ?_⟩
  have SL:=same_new nL (.lst [])
  have qL:=upd_same (H:=H2) (a:=L) (o:=.lst [])
  have nLr:=((rx.same Sr).same Su).notin nL
  have nL1:L ≠ r:=fun z => by rw [z,Su _ _ qr] at nL; cases nL
  have nL2:L ≠ u:=fun z => by rw [z,qu] at nL; cases nL
  generalize upd H2 L (.lst []) = H3 at *
  have S03:=Sr.trans (Su.trans SL)
  have fu:H u = none:=Sr.free nu
  have fL:H L = none:=(Sr.trans Su).free nL
  obtain ⟨C,dx,fs,ps,dvs,sp,c1,c2,c3,c4,rfl,c5⟩:=mn κ H3 sk (hk.same S03)
  refine ⟨_,rfl,sk,C,dx,fs,ps,_,sp,rfl,c1,c2,c3.mono (by decide),c4,c5 H3 1 1 _ _ (Same.refl _) numV1 fun v0 H4 S4 nv0 => ?_⟩
  have S04:=S03.trans S4
  have wk4:Wk κ [r,u,L] R0 pw m r u H4 R0 []:=by
    refine ⟨⟨rs,(Su.trans (SL.trans S4)) _ _ qr,rx.same S04,fun z hz => ?_⟩,⟨[],(SL.trans S4) _ _ qu,.nil⟩,rfl,(fun t h => nomatch h),fun i t h => by simp at h,wd,nru,by omega,Nat.zero_le _,by simp,by simp,fun z hz => ?_,wm⟩
    · simp only [List.mem_cons,List.not_mem_nil,or_false] at hz
      rcases hz with rfl | rfl | rfl
      · exact nrr
      · exact nur
      · exact nLr
    · simp only [List.mem_cons,List.not_mem_nil,or_false] at hz
      rcases hz with rfl | rfl | rfl
      · exact ⟨_,(Su.trans (SL.trans S4)) _ _ qr⟩
      · exact ⟨_,(SL.trans S4) _ _ qu⟩
      · exact ⟨_,S4 _ _ qL⟩
  have fru:∀ z ∈ [r,u],H z = none:=fun z hz => by
    simp only [List.mem_cons,List.not_mem_nil,or_false] at hz
    rcases hz with rfl | rfl
    · exact nr
    · exact fu
  refine ⟨_,rfl,_,rfl,_,rfl,κ,sk,r,u,[r,u,L],R0,pw,m,rfl,hk.same S04,wk4,qt,n7,fun H5 R5 ts5 O5 wk5 l5 stg5 => ?_⟩
  have S05:=Off.same O5 S04 fru
  have nLo:L ∉ [r,u]:=fun z => by
    simp only [List.mem_cons,List.not_mem_nil,or_false] at z
    rcases z with z | z
    · exact nL1 z
    · exact nL2 z
  have qL5:=O5 _ _ nLo (S4 _ _ qL)
  obtain ⟨as4,hR4,_⟩:=wk4.rl
  obtain ⟨tv4,hU4⟩:=wk4.ul
  have nv5:=nv0.off2 hR4 hU4 O5
  refine ⟨_,rfl,tb,_,0,_,rfl,rfl,SqL.of (S05 _ _ hT),ref_at (i:=0) g0,a0,_,rfl,.inl (SqL.of (S05 _ _ hx0)),_,rfl,?_⟩
  rw [lx0]
  refine ⟨by omega,by omega,?_⟩
  rw [Int.toNat_natCast]
  refine for_range (lo:=0) (n:=pw) (fun c σ H6 => ∃ (z6 z7 z8:Option V) (R:List (List κ.F)) (ts:List (Tn κ)) (ls:List Nat) (v:V) (x:κ.F),σ = [some (.ref sk),some (.ref tb),some (.ref r),some (.ref u),some (.ref L),some v,z6,z7,z8] ∧ Same H H6 ∧ Wk κ [r,u,L] R0 pw m r u H6 R ts ∧ H6 L = some (.lst (ls.map fun (i:Nat) => V.int (i:Int))) ∧ NR κ H6 v x ∧ Ech R R0.length c ls x ∧ Stg κ R ls.length x ∧ ts.length ≤ R0.length + 22 * c) ⟨_,_,_,R5,ts5,[],v0,1,rfl,S05,wk5,qL5,nv5,ech_nil,stg5,by omega⟩ ?_ ?_
  · rintro c σ H6 hc ⟨z6,z7,z8,R,ts,ls,v,x,rfl,S6,wk6,qL6,nv6,ech,stg,lt⟩
    refine ⟨_,rfl,L,_,rfl,.inl (SqL.of qL6),?_⟩
    rw [List.length_map]
    refine ⟨_,rfl,_,rfl,_,rfl,_,rfl,κ,sk,r,u,[r,u,L],R0,pw,m,R,ts,ls.length,c,(by rw [Int.zero_add]; rfl),hk.same S6,wk6,hc,ech.le,by omega,fun f h1 h2 h3 h4 => ?_⟩
    obtain ⟨as6,hR6,la6⟩:=wk6.rl
    refine ⟨_,rfl,_,rfl,r,_,rfl,.inl (SqL.of hR6),_,_,rfl,rfl,_,rfl,?_⟩
    rw [List.length_map,la6]
    refine if_dec (fun q => ?_) (fun q => ?_)
    case refine_2 =>
      have ef:f = R0.length:=by have:¬ (f:Int) < (R0.length:Int):=q; omega
      exact ⟨_,_,_,R,ts,ls,v,x,rfl,S6,wk6,qL6,nv6,ech.skip fun i a b => h4 i a (by omega),stg,by omega⟩
    have hf:f < R0.length:=by have:(f:Int) < (R0.length:Int):=q; omega
    have hll:ls.length < R0.length:=by omega
    have d6:Same H H6 ∧ Wk κ [r,u,L] R0 pw m r u H6 R ts ∧ H6 L = some (.lst (ls.map fun (i:Nat) => V.int (i:Int))) ∧ NR κ H6 v x:=⟨S6,wk6,qL6,nv6⟩
    clear S6 qL6 nv6 hR6 la6 wk6
    revert H6
    refine' joinH2 (C:=fun H6 => Same H H6 ∧ Wk κ [r,u,L] R0 pw m r u H6 R ts ∧ H6 L = some (.lst (ls.map fun (i:Nat) => V.int (i:Int))) ∧ NR κ H6 v x) (C':=fun H6 => Same H H6 ∧ ∃ (R1:List (List κ.F)) (ts1:List (Tn κ)),Wk κ [r,u,L] R0 pw m r u H6 R1 ts1 ∧ H6 L = some (.lst (ls.map fun (i:Nat) => V.int (i:Int))) ∧ NR κ H6 v x ∧ Ech R1 R0.length c ls x ∧ Stg κ R1 ls.length x ∧ ts1.length ≤ ts.length + 1 ∧ ent R1 ls.length c ≠ 0) (fun k1 H6 d6 => ?first) ?second
    case first =>
      obtain ⟨S6,wk6,qL6,nv6⟩:=d6
      refine ⟨_,rfl,_,rfl,rfl,_,rfl,?_⟩
      refine if_neI (fun z => ?_) (fun z => ?_)
      case refine_2 =>
        have ef:f = ls.length:=by omega
        exact k1 H6 ⟨S6,R,ts,wk6,qL6,nv6,ech,stg,by omega,by rw [← ef]; exact h3 hf⟩
      have nfl:f ≠ ls.length:=fun e => z (by rw [e])
      refine ⟨_,rfl,_,rfl,_,rfl,_,rfl,_,rfl,(by show 3 ≤ sizeLine; decide),fun t1 nt1 => ?_⟩
      have q7:=upd_same (H:=H6) (a:=t1) (o:=.tup [.str "swap", .int (ls.length:Int),.int (f:Int)])
      have S7:=same_new nt1 (.tup [.str "swap", .int (ls.length:Int),.int (f:Int)])
      generalize upd H6 t1 (.tup [.str "swap", .int (ls.length:Int),.int (f:Int)]) = H7 at *
      have wk7:=wk6.same S7
      refine ⟨κ,sk,r,u,[r,u,L],R0,pw,m,R,ts,.ref t1,.swap (ls.length:Int) (f:Int),rfl,(hk.same S6).same S7,wk7,by omega,⟨t1,rfl,q7⟩,⟨⟨by omega,by omega⟩,⟨by omega,by omega⟩,by omega⟩,trivial,fun H8 ts8 O8 wk8 l8 => ?_⟩
      obtain ⟨as7,hR7,_⟩:=wk7.rl
      obtain ⟨tv7,hU7⟩:=wk7.ul
      refine k1 H8 ⟨Off.same O8 (S6.trans S7) fru,_,ts8,wk8,O8 _ _ nLo (S7 _ _ qL6),(nv6.same S7).off2 hR7 hU7 O8,ech.swap wk7.len h1 hf,stg.swap,by omega,?_⟩
      rw [ent_swap (by rw [Int.toNat_natCast,wk7.len]; exact hll) (by rw [Int.toNat_natCast,wk7.len]; exact hf),Int.toNat_natCast,Int.toNat_natCast,if_neg (Ne.symm nfl),if_pos rfl]
      exact h3 hf
    case second =>
      rintro H6 ⟨S6,R1,ts1,wk6,qL6,nv6,ech1,stg1,lt1,h0⟩
      obtain ⟨PQ,PN,pq,pb,fin⟩:=stg_piv stg1 ech1.x0 (fun z => by have:=qt.l4 z; omega)
      refine ⟨_,rfl,_,rfl,_,rfl,_,rfl,_,rfl,_,rfl,κ,sk,r,u,[r,u,L],R0,pw,m,R1,ts1,ls.length,c,v,x,PQ,PN,(by rw [Int.zero_add]; rfl),hk.same S6,wk6,hll,hc,nv6,ech1.x0,h0,pq,pb,n7,by omega,fun H7 R7 ts7 O7 wk7 en l7 => ?_⟩
      have S7:=Off.same O7 S6 fru
      have qL7:=O7 _ _ nLo qL6
      have ech7:=ech1.pivot hll h0 en
      have pe:∀ i < R0.length,∀ j < m,PQ (ent R1 i j):=fun i hi j hj => all_ent wk6.wd pq (by rw [wk6.len]; exact hi) hj
      have stg7:Stg κ R7 (ls.length + 1) (ent R1 ls.length c):=fin R7 _ (ent_all wk7.wd fun i hi j hj => by
        have hi:i < R0.length:=by rw [← wk7.len]; exact hi
        rw [en i hi j]
        unfold newE
        split
        · exact pb.keep _ (pe _ hll j hj)
        · exact pb.new _ _ _ _ (pe _ hll c (Nat.lt_of_lt_of_le hc wm)) (pe i hi j hj) (pe i hi c (Nat.lt_of_lt_of_le hc wm)) (pe _ hll j hj)) (pe _ hll c (Nat.lt_of_lt_of_le hc wm))
      obtain ⟨as7,a7,xs7,v7,g1,g2,g3,g4,g5,n7'⟩:=wk7.ent hll hc
      have e7:ent R7 ls.length c = ent R1 ls.length c:=by
        rw [en _ hll c]
        unfold newE
        rw [if_pos rfl]
      rw [e7] at n7'
      refine ⟨_,rfl,_,rfl,r,_,_,_,rfl,rfl,SqL.of g1,ref_at g3,_,rfl,a7,_,_,_,rfl,rfl,SqL.of g4,(by rw [Int.zero_add]; exact atI_nat g5),?_⟩
      have ll7:=ech7.le
      refine ⟨_,rfl,.inl ⟨rfl,_,SqL.of qL7⟩,_,rfl,L,_,_,rfl,rfl,qL7,Nat.lt_of_lt_of_le (show (ls.map fun (i:Nat) => V.int (i:Int)).length < 1000 by rw [List.length_map]; omega) (by decide),?_⟩
      have OL:Off [L] H7 (upd H7 L (.lst ((ls.map fun (i:Nat) => V.int (i:Int)) ++ [.int (0 + (c:Int))]))):=off_upd' (Same.refl H7)
      refine ⟨_,_,_,R7,ts7,ls ++ [c],v7,_,rfl,Off.same OL S7 (fun z hz => by rw [List.mem_singleton.mp hz]; exact fL),wk7.offL (by simp) nL1 nL2 qL7 upd_same OL,?_,n7'.off qL7 OL,ech7,by rw [List.length_append]; exact stg7,by omega⟩
      rw [upd_same,List.map_append,Int.zero_add]
      rfl
  · rintro σ H6 ⟨z6,z7,z8,R,ts,ls,v,x,rfl,S6,wk6,qL6,nv6,ech,stg,lt⟩
    refine ⟨_,rfl,_,rfl,_,rfl,_,rfl,(by show 4 ≤ sizeLine; decide),fun t nt => ?_⟩
    have St:=same_new nt (.tup [.ref r,.ref u,.ref L,v])
    exact k _ t r u L [r,u,L] v R ts ls x (S6.trans St) upd_same nr fu fL (wk6.same St) (by simp) nL1 nL2 (St _ _ qL6) (nv6.same St) ech stg (by omega)
theorem sc_steps:FnScope ["kind", "table", "found", "rows", "turns", "back", "lead"] ["kind", "table"] (defScope s_steps):=⟨rfl,rfl,rfl,by decide +kernel,rfl,by decide +kernel,by decide +kernel⟩
theorem ok_steps (h:Here K mg "steps" s_steps) (T:Nm mg) (mb:MethBack P w K mg base CF CR) (h_emptied:Has P w K mg base "emptied" 7 ["kind", "table"] (sp_emptied CF CR)) (h_take:Has P w K mg base "take" 7 ["kind", "rows", "turns", "turn"] (sp_take CF CR)):Has P w K mg base "steps" 8 ["kind", "table"] (sp_steps CF CR):=by
  refine h.has (fun f fd F => F.binds fun _ _ _ _ _ _ us hl => by obtain ⟨_,_,rfl⟩:=len2 hl; exact rfl) fun f fd F => F.ok sc_steps (fun vs H Q E h => ?_) (fun cdv A outer s H vs Q E hr h => ?_)
  · obtain ⟨_,_,_,_,_,_,_,rfl,_⟩:=h
    rfl
  obtain ⟨κ,sk,tb,rs,R0,pw,m,rfl,hk,hT,rx,wd,wm,n1,n7,m7,mM,qt,k⟩:=h
  have nd:=sc_steps.nd
  refine ⟨_,(pss_cons (ps_set (i:=2) nd rfl (Or.inl rfl) (pe_has h_emptied hr (by rfl) (pa_cons (pv 0) (pa_cons (pv 1) pa_nil))))
    (pss_cons (ps_set (i:=3) nd rfl (Or.inl rfl) (pe_ix ix_tup (pv 2) pe_int (fun _ _ => rfl)))
    (pss_cons (ps_set (i:=4) nd rfl (Or.inl rfl) (pe_ix ix_tup (pv 2) pe_int (fun _ _ => rfl)))
    (pss_cons (ps_set (i:=5) nd rfl (Or.inl rfl) (pe_methX (pv 0) passN hr (pa_cons (pe_ix ix_tup (pv 2) pe_int (fun _ _ => rfl)) pa_nil)))
    (pss_cons (ps_for PassesOwn.never rfl (pi_range1 (by rfl) T.range (pa_cons (pe_callB call_len_seq (by rfl) T.len boot_len (pa_cons (pe_ix ix_tup (pv 2) pe_int (fun _ _ => rfl)) pa_nil)) pa_nil)) (pg_name (i:=6) nd rfl (Or.inl rfl)) (pss_one (ps_expr (pe_has h_take hr (by rfl) (pa_cons (pv 0) (pa_cons (pv 3) (pa_cons (pv 4) (pa_cons (pe_tup (pa_cons pe_str (pa_cons (pv 6) (pa_cons (pv 5) pa_nil)))) pa_nil))))))))
    (pss_one (ps_ret (pe_tup (pa_cons (pe_comp ["row"] [] rfl (pi_list (pv 3)) (by exact fun _ _ _ _ => (pg_name (i:=0) (show (["row"]:List Str).Nodup by decide +kernel) rfl (Or.inl rfl))) (by exact fun _ _ _ _ => (pe_callTy (call_list_ofK K rfl) (by rfl) T.list boot_list (pa_cons (pv 0) pa_nil))) trivial) (pa_cons (pv 4) (pa_cons (pe_ix ix_tup (pv 2) pe_int (fun _ _ => rfl)) pa_nil))))))))))),?_⟩
  refine ⟨_,rfl,_,rfl,κ,sk,tb,rs,R0,pw,m,rfl,hk,hT,rx,wd,wm,n1,n7,m7,mM,qt,fun H1 t r u L Z v R1 ts ls x S1 ht nr nu nL wk zL nLr nLu hL nv ech stg l180 => ?_⟩
  refine ⟨_,rfl,t,_,0,_,rfl,rfl,SqT.of ht,rfl,?_⟩
  refine ⟨_,rfl,t,_,1,_,rfl,rfl,SqT.of ht,rfl,?_⟩
  obtain ⟨C,dx,fs,ps,dvs,sp,c1,c2,c3,c4,rfl,c5⟩:=mb κ H1 sk (hk.same S1)
  refine ⟨_,rfl,sk,C,dx,fs,ps,_,sp,rfl,c1,c2,c3.mono (by decide),c4,_,rfl,t,_,3,_,rfl,rfl,SqT.of ht,rfl,c5 H1 v x _ _ (Same.refl _) nv ech.x0 fun bv H2 S2 nb => ?_⟩
  have S02:=S1.trans S2
  have wk2:=wk.same S2
  obtain ⟨as2,hR2,_⟩:=wk2.rl
  obtain ⟨tv2,hU2⟩:=wk2.ul
  have hk2:=hk.same S02
  have lR:=wk2.len
  have le:=ech.le
  obtain ⟨bi,bR⟩:=stg_b1 stg ech.x0 (fun z => by have:=qt.l4 z; omega)
  have fru:∀ z ∈ [r,u],H z = none:=fun z hz => by
    simp only [List.mem_cons,List.not_mem_nil,or_false] at hz
    rcases hz with rfl | rfl
    · exact nr
    · exact nu
  have nLo:L ∉ [r,u]:=fun z => by
    simp only [List.mem_cons,List.not_mem_nil,or_false] at z
    rcases z with z | z
    · exact nLr z
    · exact nLu z
  have tno:t ∉ [r,u]:=fun z => by
    simp only [List.mem_cons,List.not_mem_nil,or_false] at z
    rcases z with z | z
    · obtain ⟨as1,q1,_⟩:=wk.rl
      rw [z,q1] at ht; cases ht
    · obtain ⟨tv1,q1⟩:=wk.ul
      rw [z,q1] at ht; cases ht
  refine ⟨_,rfl,t,_,2,_,rfl,rfl,SqT.of (S2 _ _ ht),rfl,L,_,rfl,.inl (SqL.of (S2 _ _ hL)),_,rfl,?_⟩
  rw [List.length_map]
  refine ⟨by omega,by omega,?_⟩
  rw [Int.toNat_natCast]
  refine for_range (lo:=0) (n:=ls.length) (fun p σ H3 => ∃ (z6:Option V) (Rp:List (List κ.F)) (tp:List (Tn κ)),σ = [some (.ref sk),some (.ref tb),some (.ref t),some (.ref r),some (.ref u),some bv,z6] ∧ Off [r,u] H2 H3 ∧ Wk κ Z R0 pw m r u H3 Rp tp ∧ tp.length ≤ ts.length + p ∧ ∀ i < R0.length,∀ j,ent Rp i j = if i < p then Fd.inv x * ent R1 i j else ent R1 i j) ⟨_,R1,ts,rfl,fun _ _ _ q => q,wk2,by omega,fun i hi j => by rw [if_neg (by omega)]⟩ ?_ ?_
  · rintro p σ H3 hp ⟨z6,Rp,tp,rfl,O,wk3,lt,en⟩
    refine ⟨_,rfl,_,rfl,_,rfl,_,rfl,_,rfl,(by show 3 ≤ sizeLine; decide),fun t1 nt1 => ?_⟩
    have q5:=upd_same (H:=H3) (a:=t1) (o:=.tup [.str "scale", .int (0 + (p:Int)),bv])
    have S5:=same_new nt1 (.tup [.str "scale", .int (0 + (p:Int)),bv])
    generalize upd H3 t1 (.tup [.str "scale", .int (0 + (p:Int)),bv]) = H5 at *
    rw [Int.zero_add] at q5
    have wk5:=wk3.same S5
    have lRp:=wk5.len
    refine ⟨κ,sk,r,u,Z,R0,pw,m,Rp,tp,.ref t1,.scale (p:Int) (Fd.inv x),rfl,(hk2.off2 hR2 hU2 O).same S5,wk5,by omega,⟨t1,bv,rfl,q5,(nb.off2 hR2 hU2 O).same S5⟩,⟨⟨by omega,by omega⟩,inv_ne' ech.x0⟩,⟨bi,?_⟩,fun H6 tp6 O6 wk6 l6 => ?_⟩
    · rw [Int.toNat_natCast]
      refine ent_row wk5.wd (by omega) fun j hj => ?_
      rw [en p (by omega) j,if_neg (by omega)]
      exact all_ent wk2.wd bR (by omega) hj
    refine ⟨_,_,tp6,rfl,fun b o nb' q => O6 b o nb' (S5 _ _ (O b o nb' q)),wk6,by omega,fun i hi j => ?_⟩
    rw [ent_scale (by rw [Int.toNat_natCast]; omega),Int.toNat_natCast,en i hi j]
    by_cases q:i = p
    · rw [if_pos q,if_neg (by omega),if_pos (by omega)]
    · rw [if_neg q]
      by_cases q2:i < p
      · rw [if_pos q2,if_pos (by omega)]
      · rw [if_neg q2,if_neg (by omega)]
  · rintro σ H3 ⟨z6,Rp,tp,rfl,O,wk3,lt,en⟩
    have S03:=Off.same O S02 fru
    have ech3:Ech Rp R0.length pw ls 1:=ech.scale en
    obtain ⟨as3,hR3,rx3,nz3⟩:=wk3.rows
    have ht3:=O _ _ tno (S2 _ _ ht)
    have hL3:=O _ _ nLo (S2 _ _ hL)
    obtain ⟨tv3,hU3,al3⟩:=wk3.turns
    have la3:=rx3.1
    have la3':=la3
    rw [List.length_map] at la3'
    have lRp:=wk3.len
    refine ⟨_,rfl,r,rfl,⟨_,SqL.of hR3⟩,?_⟩
    refine comp_list (K:=K) (a:=r) (xs:=as3.map V.ref) (fun i ys H4 => Same H3 H4 ∧ ∃ ds:List Addr,ys = ds.map V.ref ∧ ds.length = i ∧ RowsX κ H4 ds ((Rp.map (List.take pw)).take i) ∧ ds.Nodup ∧ (∀ a ∈ ds,H3 a = none)) (by rw [List.length_map]; omega) ⟨Same.refl _,[],rfl,rfl,.nil,List.nodup_nil,fun a h => nomatch h⟩ (fun i ys H4 _ q => SqL.of (q.1 _ _ hR3)) ?_ ?_
    · rintro i y ys H4 hy hl ⟨S4,ds,rfl,ld,rd,ndd,nw⟩
      obtain ⟨a,ha,rfl⟩:=map_ref_get hy
      obtain ⟨f,hf⟩:=get_of_lt ha la3
      obtain ⟨xs,hx,al⟩:=rx3.2 i a f ha hf
      refine ⟨_,rfl,a,_,rfl,.inl (SqL.of (S4 _ _ hx)),fun D hD => ?_⟩
      have SD:=same_new hD (.lst xs)
      refine ⟨S4.trans SD,ds ++ [D],by simp,by simp [ld],?_,nodup_snoc ndd (rd.notin hD),fun b hb => ?_⟩
      · rw [List.take_succ,hf]
        exact (rd.same SD).snoc upd_same (al.mono fun _ _ n => (n.same S4).same SD)
      · rcases List.mem_append.mp hb with q | q
        · exact nw b q
        · rw [List.mem_singleton.mp q]; exact S4.free hD
    · rintro ys H4 hl ⟨S4,ds,rfl,ld,rd,ndd,nw⟩ D hD
      rw [List.length_map] at ld
      rw [List.length_map,la3,List.take_length] at rd
      have SD:=same_new hD (.lst (ds.map V.ref))
      have qD:=upd_same (H:=H4) (a:=D) (o:=.lst (ds.map V.ref))
      have nDd:=rd.notin hD
      generalize upd H4 D (.lst (ds.map V.ref)) = H5 at *
      have S35:=S4.trans SD
      refine ⟨_,rfl,_,rfl,t,_,2,_,rfl,rfl,SqT.of (S35 _ _ ht3),rfl,(by show 3 ≤ sizeLine; decide),fun t2 nt2 => ?_⟩
      have St:=same_new nt2 (.tup [.ref D,.ref u,.ref L])
      have S3e:=S35.trans St
      have hD3:=S4.free hD
      have run:=wk3.run
      refine k _ t2 D u L ds tv3 tp ls (S03.trans S3e) upd_same (St _ _ qD) (by rw [← run]; exact (rd.same SD).same St) (S3e _ _ hU3) (al3.mono fun _ _ n => n.same S3e) (S3e _ _ hL3) wk3.ok wk3.pre (by omega) (by rw [← run]; exact ech3) (fun e => ?stg) (S03.free hD3) nu nL (fun a ha => S03.free (nw a ha)) ndd (fun a ha => ⟨fun z => nDd (by rw [← z]; exact ha),fun z => ?_,fun z => ?_⟩) (fun z => ?_) (fun z => ?_) (Ne.symm nLu)
      case stg =>
        obtain ⟨D0,D1,p0,p1,p2,_⟩:=stg e
        refine ⟨D0,p0,p1,fun i i1 i2 j hj => ?_⟩
        rw [← run,en i i2 j,if_neg (by omega)]
        exact all_ent wk2.wd p2 (by rw [wk2.len]; exact i2) hj
      · have:=nw a ha
        rw [z,hU3] at this; cases this
      · have:=nw a ha
        rw [z,hL3] at this; cases this
      · rw [z,hU3] at hD3; cases hD3
      · rw [z,hL3] at hD3; cases hD3
end
end My
set_option maxHeartbeats 1000000
namespace My
open PySem L2 PyProof.Rows
section
variable {κ:KX}
noncomputable def sumP (f v:Nat → κ.F):Nat → κ.F
  | 0 => 0
  | m + 1 => sumP f v m + f m * v m
theorem sumP_mul (c:κ.F) (f v:Nat → κ.F):∀ m,sumP (fun j => c * f j) v m = c * sumP f v m
  | 0 => by show (0:κ.F) = c * 0; grind
  | m + 1 => by
    show sumP (fun j => c * f j) v m + c * f m * v m = c * (sumP f v m + f m * v m)
    rw [sumP_mul c f v m]; grind
theorem sumP_add (f g v:Nat → κ.F):∀ m,sumP (fun j => f j + g j) v m = sumP f v m + sumP g v m
  | 0 => by show (0:κ.F) = 0 + 0; grind
  | m + 1 => by
    show sumP (fun j => f j + g j) v m + (f m + g m) * v m = sumP f v m + f m * v m + (sumP g v m + g m * v m)
    rw [sumP_add f g v m]; grind
theorem sumP_zero {f v:Nat → κ.F}:∀ {m},(∀ j < m,f j * v j = 0) → sumP f v m = 0
  | 0,_ => rfl
  | m + 1,h => by
    show sumP f v m + f m * v m = 0
    rw [sumP_zero fun j hj => h j (by omega),h m (by omega)]; grind
theorem sumP_one {f v:Nat → κ.F} {a:Nat}:∀ {m},a < m → (∀ j < m,j ≠ a → f j * v j = 0) → sumP f v m = f a * v a
  | 0,h,_ => absurd h (Nat.not_lt_zero _)
  | m + 1,h,z => by
    show sumP f v m + f m * v m = _
    by_cases e:a = m
    · subst e
      rw [sumP_zero fun j hj => z j (by omega) (by omega)]; grind
    · rw [sumP_one (by omega) fun j hj => z j (by omega),z m (by omega) (by omega)]; grind
theorem sumP_two {f v:Nat → κ.F} {a b:Nat} (ne:a ≠ b):∀ {m},a < m → b < m → (∀ j < m,j ≠ a → j ≠ b → f j * v j = 0) → sumP f v m = f a * v a + f b * v b
  | 0,h,_,_ => absurd h (Nat.not_lt_zero _)
  | m + 1,h,h',z => by
    show sumP f v m + f m * v m = _
    by_cases e:a = m
    · subst e
      rw [sumP_one (a:=b) (by omega) fun j hj jb => z j (by omega) (by omega) jb]; grind
    · by_cases e':b = m
      · subst e'
        rw [sumP_one (a:=a) (by omega) fun j hj ja => z j (by omega) ja (by omega)]
      · rw [sumP_two ne (by omega) (by omega) fun j hj => z j (by omega),z m (by omega) (by omega) (by omega)]; grind
def Ker (R:List (List κ.F)) (n m:Nat) (v:Nat → κ.F):Prop:=∀ i < n,sumP (ent R i) v m = 0
theorem mul_cancel0 {c s:κ.F} (hc:c ≠ 0) (h:c * s = 0):s = 0:=by
  have e:=Fd.mul_inv c hc
  have:s = Fd.inv c * (c * s):=by grind
  rw [this,h]; grind
theorem ker_doT {R:List (List κ.F)} {m:Nat} {t:Tn κ} {v:Nat → κ.F} (wd:Wid m R) (ok:t.ok R.length):Ker (doT t R) R.length m v ↔ Ker R R.length m v:=by
  cases t with
  | swap a b =>
    obtain ⟨⟨a0,a1⟩,⟨b0,b1⟩,ne⟩:=ok
    have e:=ent_swap (R:=R) (a:=a) (b:=b) (by omega) (by omega)
    have r:∀ i,ent (doT (.swap a b) R) i = if i = b.toNat then ent R a.toNat else if i = a.toNat then ent R b.toNat else ent R i:=fun i => by
      funext j
      rw [e]
      split
      · rfl
      · split <;> rfl
    constructor
    · intro h i hi
      by_cases ia:i = a.toNat
      · have:=h b.toNat (by omega)
        rw [r,if_pos rfl] at this
        rw [ia]; exact this
      · by_cases ib:i = b.toNat
        · have:=h a.toNat (by omega)
          rw [r,if_neg (by omega),if_pos rfl] at this
          rw [ib]; exact this
        · have:=h i hi
          rw [r,if_neg ib,if_neg ia] at this
          exact this
    · intro h i hi
      rw [r]
      split
      · exact h _ (by omega)
      · split
        · exact h _ (by omega)
        · exact h _ hi
  | scale a c =>
    obtain ⟨⟨a0,a1⟩,c0⟩:=ok
    have r:∀ i,sumP (ent (doT (.scale a c) R) i) v m = if i = a.toNat then c * sumP (ent R i) v m else sumP (ent R i) v m:=fun i => by
      have:ent (doT (.scale a c) R) i = if i = a.toNat then (fun j => c * ent R i j) else ent R i:=by
        funext j
        rw [ent_scale (by omega)]
        split <;> rfl
      rw [this]
      split
      · exact sumP_mul _ _ _ _
      · rfl
    constructor
    · intro h i hi
      have:=h i hi
      rw [r] at this
      split at this
      · exact mul_cancel0 c0 this
      · exact this
    · intro h i hi
      rw [r,h i hi]
      split
      · grind
      · rfl
  | add a b c =>
    obtain ⟨⟨a0,a1⟩,⟨b0,b1⟩,ne⟩:=ok
    have r:∀ i,sumP (ent (doT (.add a b c) R) i) v m = if i = a.toNat then sumP (ent R i) v m + c * sumP (ent R b.toNat) v m else sumP (ent R i) v m:=fun i => by
      have:ent (doT (.add a b c) R) i = if i = a.toNat then (fun j => ent R i j + (fun j => c * ent R b.toNat j) j) else ent R i:=by
        funext j
        rw [ent_add wd (by omega) (by omega)]
        split <;> rfl
      rw [this]
      split
      · rw [sumP_add,sumP_mul]
      · rfl
    constructor
    · intro h
      have hb:sumP (ent R b.toNat) v m = 0:=by
        have:=h b.toNat (by omega)
        rw [r,if_neg (by omega)] at this
        exact this
      intro i hi
      have:=h i hi
      rw [r] at this
      split at this
      · rw [hb] at this
        grind
      · exact this
    · intro h i hi
      rw [r,h i hi,h b.toNat (by omega)]
      split
      · grind
      · rfl
theorem ker_runT {m:Nat} {v:Nat → κ.F} {ts:List (Tn κ)}:∀ {R:List (List κ.F)},Wid m R → (∀ t ∈ ts,t.ok R.length) → (Ker (runT ts R) R.length m v ↔ Ker R R.length m v):=by
  induction ts with
  | nil => exact fun _ _ => Iff.rfl
  | cons t ts ih =>
    intro R wd ok
    have o:=ok t (by simp)
    have l:=doT_len t R
    have:=ih (R:=doT t R) (doT_wid wd o) (fun t' h' => by rw [l]; exact ok t' (by simp [h']))
    rw [l] at this
    exact this.trans (ker_doT wd o)
theorem ech_vec {R:List (List κ.F)} {n m j:Nat} {ls:List Nat} {x:κ.F} (h:Ech R n m ls x) (nj:∀ k < ls.length,ls.getD k 0 ≠ j):∃ v:Nat → κ.F,v j = 1 ∧ (∀ k < ls.length,v (ls.getD k 0) = 0 - Fd.inv x * ent R k j) ∧ ∀ j',j' ≠ j → (∀ k < ls.length,ls.getD k 0 ≠ j') → v j' = 0:=by
  classical
  refine ⟨fun j' => if j' = j then 1 else if hk:∃ k,k < ls.length ∧ ls.getD k 0 = j' then 0 - Fd.inv x * ent R hk.choose j else 0,if_pos rfl,fun k hk => ?_,fun j' h1 h2 => ?_⟩
  · have ex:∃ k',k' < ls.length ∧ ls.getD k' 0 = ls.getD k 0:=⟨k,hk,rfl⟩
    show (if ls.getD k 0 = j then (1:κ.F) else _) = _
    rw [if_neg (nj k hk),dif_pos ex]
    obtain ⟨c1,c2⟩:=ex.choose_spec
    generalize ex.choose = k' at *
    have:k' = k:=by
      rcases Nat.lt_trichotomy k' k with l | l | l
      · have:=h.inc k' k l hk; omega
      · exact l
      · have:=h.inc k k' l c1; omega
    rw [this]
  · show (if j' = j then (1:κ.F) else _) = 0
    rw [if_neg h1,dif_neg (fun ⟨k,a,b⟩ => h2 k a b)]
theorem vec_row {R R':List (List κ.F)} {n m j:Nat} {ls:List Nat} {x x':κ.F} {v:Nat → κ.F} (h':Ech R' n m ls x') (hj:j < m) (nj:∀ k < ls.length,ls.getD k 0 ≠ j) (v1:v j = 1) (v2:∀ k < ls.length,v (ls.getD k 0) = 0 - Fd.inv x * ent R k j) (v3:∀ j',j' ≠ j → (∀ k < ls.length,ls.getD k 0 ≠ j') → v j' = 0) {k:Nat} (hk:k < ls.length):sumP (ent R' k) v m = ent R' k j + x' * (0 - Fd.inv x * ent R k j):=by
  have le:=h'.le
  rw [sumP_two (a:=j) (b:=ls.getD k 0) (Ne.symm (nj k hk)) hj (h'.lt k hk),v1,v2 k hk,h'.col k hk k (by omega),if_pos rfl]
  · grind
  · intro j' _ n1 n2
    by_cases e:∀ k < ls.length,ls.getD k 0 ≠ j'
    · rw [v3 j' n1 e]; grind
    · obtain ⟨k',e⟩:=Classical.not_forall.mp e
      obtain ⟨hk',e⟩:=Classical.not_forall.mp e
      have e:ls.getD k' 0 = j':=Classical.not_not.mp e
      rw [← e,h'.col k' hk' k (by omega),if_neg (fun z => n2 (by rw [z]; exact e.symm))]; grind
theorem vec_ker {R:List (List κ.F)} {n m j:Nat} {ls:List Nat} {x:κ.F} {v:Nat → κ.F} (h:Ech R n m ls x) (hj:j < m) (nj:∀ k < ls.length,ls.getD k 0 ≠ j) (v1:v j = 1) (v2:∀ k < ls.length,v (ls.getD k 0) = 0 - Fd.inv x * ent R k j) (v3:∀ j',j' ≠ j → (∀ k < ls.length,ls.getD k 0 ≠ j') → v j' = 0):Ker R n m v:=by
  intro i hi
  by_cases hk:i < ls.length
  · rw [vec_row h hj nj v1 v2 v3 hk]
    have:=Fd.mul_inv x h.x0
    grind
  · exact sumP_zero fun j' hj' => by rw [h.low i (by omega) hi j' hj']; grind
theorem ech_lead {R1 R2:List (List κ.F)} {n m:Nat} {l1 l2:List Nat} {x1 x2:κ.F} (h1:Ech R1 n m l1 x1) (h2:Ech R2 n m l2 x2) (ker:∀ v,Ker R2 n m v → Ker R1 n m v):∀ k < l1.length,∃ k' < l2.length,l2.getD k' 0 = l1.getD k 0:=by
  intro k hk
  refine Classical.byContradiction fun nx => ?_
  have nj:∀ k' < l2.length,l2.getD k' 0 ≠ l1.getD k 0:=fun k' hk' e => nx ⟨k',hk',e⟩
  obtain ⟨v,v1,v2,v3⟩:=ech_vec h2 nj
  have kv:=ker v (vec_ker h2 (h1.lt k hk) nj v1 v2 v3) k (by have:=h1.le; omega)
  rw [sumP_one (a:=l1.getD k 0) (h1.lt k hk),v1,h1.col k hk k (by have:=h1.le; omega),if_pos rfl] at kv
  · exact h1.x0 (by grind)
  · intro j hj ne
    by_cases lt:j < l1.getD k 0
    · rw [h1.pre k hk j lt]; grind
    · have z:v j = 0:=by
        by_cases e:∀ k < l2.length,l2.getD k 0 ≠ j
        · exact v3 j ne e
        · obtain ⟨k',e⟩:=Classical.not_forall.mp e
          obtain ⟨hk',e⟩:=Classical.not_forall.mp e
          have e:l2.getD k' 0 = j:=Classical.not_not.mp e
          rw [← e,v2 k' hk',h2.pre k' hk' _ (by omega)]; grind
      rw [z]; grind
theorem inc_ext:∀ {l1 l2:List Nat},l1.Pairwise (· < ·) → l2.Pairwise (· < ·) → (∀ x,x ∈ l1 ↔ x ∈ l2) → l1 = l2
  | [],[],_,_,_ => rfl
  | [],b :: l2,_,_,h => by have:=(h b).mpr (by simp); simp at this
  | a :: l1,[],_,_,h => by have:=(h a).mp (by simp); simp at this
  | a :: l1,b :: l2,p1,p2,h => by
    obtain ⟨q1,r1⟩:=List.pairwise_cons.mp p1
    obtain ⟨q2,r2⟩:=List.pairwise_cons.mp p2
    have e:a = b:=by
      rcases List.mem_cons.mp ((h a).mp (by simp)) with e | m1
      · exact e
      · rcases List.mem_cons.mp ((h b).mpr (by simp)) with e | m2
        · exact e.symm
        · have:=q2 a m1; have:=q1 b m2; omega
    subst e
    refine congrArg (List.cons a) (inc_ext r1 r2 fun x => ?_)
    constructor
    · intro m
      rcases List.mem_cons.mp ((h x).mp (by simp [m])) with e | m'
      · have:=q1 x m; omega
      · exact m'
    · intro m
      rcases List.mem_cons.mp ((h x).mpr (by simp [m])) with e | m'
      · have:=q2 x m; omega
      · exact m'
theorem getD_lt {l:List Nat} {k:Nat} (h:k < l.length):l.getD k 0 = l[k]:=by rw [List.getD_eq_getElem?_getD,List.getElem?_eq_getElem h]; rfl
theorem Ech.pw {R:List (List κ.F)} {n m:Nat} {ls:List Nat} {x:κ.F} (h:Ech R n m ls x):ls.Pairwise (· < ·) :=
  List.pairwise_iff_getElem.mpr fun i j hi hj l => by have:=h.inc i j l hj; rw [getD_lt hi,getD_lt hj] at this; exact this
theorem mem_getD {l:List Nat} {x:Nat}:x ∈ l ↔ ∃ k < l.length,l.getD k 0 = x:=by
  constructor
  · intro m
    obtain ⟨k,hk,e⟩:=List.getElem_of_mem m
    exact ⟨k,hk,by rw [getD_lt hk]; exact e⟩
  · rintro ⟨k,hk,e⟩
    rw [getD_lt hk] at e
    rw [← e]; exact List.getElem_mem hk
theorem ech_same {R1 R2:List (List κ.F)} {n m:Nat} {l1 l2:List Nat} {x1 x2:κ.F} (h1:Ech R1 n m l1 x1) (h2:Ech R2 n m l2 x2) (ker:∀ v,Ker R2 n m v ↔ Ker R1 n m v):l1 = l2:=by
  refine inc_ext h1.pw h2.pw fun x => ?_
  rw [mem_getD,mem_getD]
  constructor
  · rintro ⟨k,hk,e⟩
    obtain ⟨k',hk',e'⟩:=ech_lead h1 h2 (fun v => (ker v).mp) k hk
    exact ⟨k',hk',e'.trans e⟩
  · rintro ⟨k,hk,e⟩
    obtain ⟨k',hk',e'⟩:=ech_lead h2 h1 (fun v => (ker v).mpr) k hk
    exact ⟨k',hk',e'.trans e⟩
theorem ech_ent {R1 R2:List (List κ.F)} {n m:Nat} {ls:List Nat} (h1:Ech R1 n m ls 1) (h2:Ech R2 n m ls 1) (ker:∀ v,Ker R1 n m v → Ker R2 n m v):∀ i < n,∀ j < m,ent R1 i j = ent R2 i j:=by
  intro i hi j hj
  by_cases hl:i < ls.length
  · by_cases e:∀ k < ls.length,ls.getD k 0 ≠ j
    · obtain ⟨v,v1,v2,v3⟩:=ech_vec h1 e
      have kv:=ker v (vec_ker h1 hj e v1 v2 v3) i hi
      rw [vec_row h2 hj e v1 v2 v3 hl] at kv
      have i1:(Fd.inv (1:κ.F)) = 1:=by
        have:=Fd.mul_inv (1:κ.F) h1.x0
        grind
      rw [i1] at kv
      grind
    · obtain ⟨k',e⟩:=Classical.not_forall.mp e
      obtain ⟨hk',e⟩:=Classical.not_forall.mp e
      have e:ls.getD k' 0 = j:=Classical.not_not.mp e
      rw [← e,h1.col k' hk' i hi,h2.col k' hk' i hi]
  · rw [h1.low i (by omega) hi j hj,h2.low i (by omega) hi j hj]
theorem one_form {R:List (List κ.F)} {m:Nat} {ls ls':List Nat} {ts ts':List (Tn κ)} (wd:Wid m R) (ok:∀ t ∈ ts,t.ok R.length) (ok':∀ t ∈ ts',t.ok R.length) (h1:Ech R R.length m ls 1) (h2:Ech (runT ts' (runT ts R)) R.length m ls' 1):ls' = ls ∧ runT ts' (runT ts R) = R:=by
  have w1:=runT_wid wd ok
  have l1:=runT_len ts R
  have ker:∀ v,Ker (runT ts' (runT ts R)) R.length m v ↔ Ker R R.length m v:=fun v => by
    have:=ker_runT (v:=v) (ts:=ts') w1 (fun t ht => by rw [l1]; exact ok' t ht)
    rw [l1] at this
    exact this.trans (ker_runT wd ok)
  have e:ls' = ls:=ech_same h2 h1 fun v => (ker v).symm
  subst e
  have w2:Wid m (runT ts' (runT ts R)):=runT_wid w1 (fun t ht => by rw [l1]; exact ok' t ht)
  have l2:=runT_len ts' (runT ts R)
  refine ⟨rfl,ent_ext (by rw [l2,l1]) w2 wd fun i hi j hj => ?_⟩
  exact ech_ent h2 h1 (fun v => (ker v).mp) i (by rw [l2,l1] at hi; exact hi) j hj
end
end My
set_option maxHeartbeats 1000000
namespace My
open PySem L2 PyProof.Rows
section
variable {κ:KX}
noncomputable def invT:Tn κ → Tn κ
  | .swap i j => .swap i j
  | .scale i c => .scale i (Fd.inv c)
  | .add i j c => .add i j (0 - c)
theorem inv_ne {α:Type} [Fd α] {x:α} (h:x ≠ 0):Fd.inv x ≠ 0:=fun z => by
  have:=Fd.mul_inv x h
  rw [z] at this
  have e:x * (0:α) = 0:=by grind
  rw [e] at this
  exact Fd.zne this
theorem invT_ok {n:Nat} {t:Tn κ} (h:t.ok n):(invT t).ok n:=by
  cases t with
  | swap i j => exact h
  | scale i c => exact ⟨h.1,inv_ne h.2⟩
  | add i j c => exact h
theorem set_comm' {α:Type} {R:List α} {i j:Nat} {f g:α} (h:i ≠ j):(R.set i f).set j g = (R.set j g).set i f:=List.set_comm f g h
theorem doT_inv {m:Nat} {t:Tn κ} {R:List (List κ.F)} (wd:Wid m R) (ok:t.ok R.length):doT (invT t) (doT t R) = R:=by
  cases t with
  | swap i j =>
    obtain ⟨⟨i0,i1⟩,⟨j0,j1⟩,ne⟩:=ok
    have hi:i.toNat < R.length:=by omega
    have hj:j.toNat < R.length:=by omega
    have nij:i.toNat ≠ j.toNat:=by omega
    show ((((R.set i.toNat (R.getD j.toNat [])).set j.toNat (R.getD i.toNat [])).set i.toNat (((R.set i.toNat (R.getD j.toNat [])).set j.toNat (R.getD i.toNat [])).getD j.toNat [])).set j.toNat (((R.set i.toNat (R.getD j.toNat [])).set j.toNat (R.getD i.toNat [])).getD i.toNat [])) = R
    rw [getD_set_self (by rw [List.length_set]; exact hj),getD_set_ne (Ne.symm nij),getD_set_self hi]
    rw [set_comm' (Ne.symm nij) (R:=R.set i.toNat (R.getD j.toNat [])),List.set_set,List.set_set,set_getD hi,set_getD hj]
  | scale i c =>
    obtain ⟨⟨i0,i1⟩,c0⟩:=ok
    have hi:i.toNat < R.length:=by omega
    show (R.set i.toNat ((R.getD i.toNat []).map (c * ·))).set i.toNat (((R.set i.toNat ((R.getD i.toNat []).map (c * ·))).getD i.toNat []).map (Fd.inv c * ·)) = R
    rw [getD_set_self hi,List.set_set,List.map_map]
    have e:((fun x => Fd.inv c * x) ∘ fun x => c * x) = id:=by
      funext x
      have:=Fd.mul_inv c c0
      show Fd.inv c * (c * x) = x
      grind
    rw [e,List.map_id,set_getD hi]
  | add i j c =>
    obtain ⟨⟨i0,i1⟩,⟨j0,j1⟩,ne⟩:=ok
    have hi:i.toNat < R.length:=by omega
    have hj:j.toNat < R.length:=by omega
    have nij:i.toNat ≠ j.toNat:=by omega
    show (R.set i.toNat (List.zipWith (· + ·) (R.getD i.toNat []) ((R.getD j.toNat []).map (c * ·)))).set i.toNat (List.zipWith (· + ·) ((R.set i.toNat (List.zipWith (· + ·) (R.getD i.toNat []) ((R.getD j.toNat []).map (c * ·)))).getD i.toNat []) (((R.set i.toNat (List.zipWith (· + ·) (R.getD i.toNat []) ((R.getD j.toNat []).map (c * ·)))).getD j.toNat []).map ((0 - c) * ·))) = R
    rw [getD_set_self hi,getD_set_ne nij,List.set_set]
    have l1:=wd.get hi
    have l2:=wd.get hj
    have e:List.zipWith (· + ·) (List.zipWith (· + ·) (R.getD i.toNat []) ((R.getD j.toNat []).map (c * ·))) ((R.getD j.toNat []).map ((0 - c) * ·)) = R.getD i.toNat []:=by
      apply List.ext_getElem
      · simp only [List.length_zipWith,List.length_map]; omega
      · intro k h1 h2
        simp only [List.getElem_zipWith,List.getElem_map]
        grind
    rw [e,set_getD hi]
theorem runT_append (a b:List (Tn κ)) (R:List (List κ.F)):runT (a ++ b) R = runT b (runT a R):=List.foldl_append
theorem runT_back {m:Nat}:∀ {ts:List (Tn κ)} {R:List (List κ.F)},Wid m R → (∀ t ∈ ts,t.ok R.length) → runT (ts.reverse.map invT) (runT ts R) = R
  | [],R,_,_ => rfl
  | t :: ts,R,wd,ok => by
    have h1:=ok t (by simp)
    have l:(doT t R).length = R.length:=doT_len t R
    rw [List.reverse_cons,List.map_append,runT_append]
    show runT [invT t] (runT (ts.reverse.map invT) (runT ts (doT t R))) = R
    rw [runT_back (doT_wid wd h1) (fun x hx => by rw [l]; exact ok x (by simp [hx]))]
    exact doT_inv wd h1
end
end My
set_option maxHeartbeats 1000000
namespace My
open PySem L2 PyProof.Rows
section
variable {κ:KX}
noncomputable def col (v:List κ.F):List (List κ.F):=v.map fun x => [x]
noncomputable def uRow (κ:KX) (n i:Nat):List κ.F:=(List.range n).map fun j => if i = j then 1 else 0
noncomputable def unitT (κ:KX) (n:Nat):List (List κ.F):=(List.range n).map (uRow κ n)
theorem unitT_len (n:Nat):(unitT κ n).length = n:=by unfold unitT; simp
theorem unitT_wid (n:Nat):Wid n (unitT κ n):=fun f hf => by
  unfold unitT at hf
  obtain ⟨i,_,rfl⟩:=List.mem_map.mp hf
  unfold uRow; simp
theorem unitT_ent {n i j:Nat} (hi:i < n) (hj:j < n):ent (unitT κ n) i j = if i = j then 1 else 0:=by
  have e:(unitT κ n).getD i [] = uRow κ n i:=getD_get (by unfold unitT; rw [List.getElem?_map,List.getElem?_range hi]; rfl)
  unfold ent
  rw [e]
  unfold uRow
  rw [List.getD_eq_getElem?_getD,List.getElem?_map,List.getElem?_range hj]
  rfl
theorem comb_doT {n w w':Nat} {t:Tn κ} {X Y U:List (List κ.F)} (hU:U.length = n) (hY:Y.length = n) (wU:Wid w' U) (wY:Wid w Y) (ok:t.ok n) {v:Nat → Nat → κ.F} (h:∀ i < n,∀ j,ent Y i j = sumP (ent U i) (fun k => v k j) n):∀ i < n,∀ j,ent (doT t Y) i j = sumP (ent (doT t U) i) (fun k => v k j) n:=by
  intro i hi j
  cases t with
  | swap a b =>
    obtain ⟨⟨a0,a1⟩,⟨b0,b1⟩,ne⟩:=ok
    have r:ent (doT (.swap a b) U) i = if i = b.toNat then ent U a.toNat else if i = a.toNat then ent U b.toNat else ent U i:=by
      funext j
      rw [ent_swap (by omega) (by omega)]
      split
      · rfl
      · split <;> rfl
    rw [ent_swap (by omega) (by omega),r]
    split
    · exact h _ (by omega) j
    · split
      · exact h _ (by omega) j
      · exact h _ hi j
  | scale a c =>
    obtain ⟨⟨a0,a1⟩,c0⟩:=ok
    have r:ent (doT (.scale a c) U) i = if i = a.toNat then (fun j => c * ent U i j) else ent U i:=by
      funext j
      rw [ent_scale (by omega)]
      split <;> rfl
    rw [ent_scale (by omega),r]
    split
    · rw [sumP_mul,h i hi j]
    · exact h i hi j
  | add a b c =>
    obtain ⟨⟨a0,a1⟩,⟨b0,b1⟩,ne⟩:=ok
    have r:ent (doT (.add a b c) U) i = if i = a.toNat then (fun j => ent U i j + (fun j => c * ent U b.toNat j) j) else ent U i:=by
      funext j
      rw [ent_add wU (by omega) (by omega)]
      split <;> rfl
    rw [ent_add wY (by omega) (by omega),r]
    split
    · rw [sumP_add,sumP_mul,h i hi j,h b.toNat (by omega) j]
    · exact h i hi j
theorem comb_runT {n w:Nat} {X:List (List κ.F)} (hX:X.length = n) (wX:Wid w X) {ts:List (Tn κ)} (ok:∀ t ∈ ts,t.ok n):∀ i < n,∀ j,ent (runT ts X) i j = sumP (ent (runT ts (unitT κ n)) i) (fun k => ent X k j) n:=by
  have key:∀ m ≤ ts.length,∀ i < n,∀ j,ent (runT (ts.take m) X) i j = sumP (ent (runT (ts.take m) (unitT κ n)) i) (fun k => ent X k j) n:=by
    intro m
    induction m with
    | zero =>
      intro _ i hi j
      rw [List.take_zero]
      show ent X i j = sumP (ent (unitT κ n) i) (fun k => ent X k j) n
      rw [sumP_one (a:=i) hi,unitT_ent hi hi,if_pos rfl]
      · grind
      · intro k hk ne
        rw [unitT_ent hi hk,if_neg (Ne.symm ne)]; grind
    | succ m ih =>
      intro hm i hi j
      have e:ts.take (m + 1) = ts.take m ++ [ts[m]]:=by rw [List.take_succ,List.getElem?_eq_getElem (by omega)]; rfl
      rw [e,runT_snoc,runT_snoc]
      have okm:∀ t ∈ ts.take m,t.ok n:=fun t ht => ok t (List.mem_of_mem_take ht)
      exact comb_doT (X:=X) (w:=w) (w':=n) (by rw [runT_len,unitT_len]) (by rw [runT_len,hX]) (runT_wid (unitT_wid n) (by rw [unitT_len]; exact okm)) (runT_wid wX (by rw [hX]; exact okm)) (ok _ (List.getElem_mem _)) (ih (by omega)) i hi j
  have:=key ts.length (Nat.le_refl _)
  rw [List.take_length] at this
  exact this
noncomputable def mv (R:List (List κ.F)) (x:Nat → κ.F) (m:Nat):List κ.F:=(List.range R.length).map fun i => sumP (ent R i) x m
end
end My
set_option maxHeartbeats 1000000
namespace My
open PySem L2 PyProof.Rows
section
variable {κ:KX}
noncomputable def wideR (A:List (List κ.F)) (v:List κ.F):List (List κ.F):=(List.range A.length).map fun i => A.getD i [] ++ (v.getD i 0 :: uRow κ A.length i)
theorem wide_len (A:List (List κ.F)) (v:List κ.F):(wideR A v).length = A.length:=by unfold wideR; simp
theorem wide_wid {m:Nat} {A:List (List κ.F)} (v:List κ.F) (wd:Wid m A):Wid (m + 1 + A.length) (wideR A v):=fun f hf => by
  unfold wideR at hf
  obtain ⟨i,hi,rfl⟩:=List.mem_map.mp hf
  have hi:i < A.length:=by simpa using hi
  rw [List.length_append,wd.get hi]
  unfold uRow; simp; omega
theorem wide_take {m:Nat} {A:List (List κ.F)} (v:List κ.F) (wd:Wid m A):(wideR A v).map (List.take m) = A:=by
  unfold wideR
  rw [List.map_map]
  apply List.ext_getElem (by simp)
  intro i h1 h2
  rw [List.getElem_map,List.getElem_range]
  show List.take m (A.getD i [] ++ _) = _
  have e:A.getD i [] = A[i]:=getD_get (List.getElem?_eq_getElem h2)
  rw [e,List.take_append_of_le_length (by rw [wd _ (List.getElem_mem h2)]; exact Nat.le_refl _),List.take_of_length_le (by rw [wd _ (List.getElem_mem h2)]; exact Nat.le_refl _)]
theorem wide_dropE {m i:Nat} {A:List (List κ.F)} (v:List κ.F) (wd:Wid m A) (hi:i < A.length):List.drop m (A.getD i [] ++ (v.getD i 0 :: uRow κ A.length i)) = v.getD i 0 :: uRow κ A.length i:=by
  rw [List.drop_append_of_le_length (by rw [wd.get hi]; exact Nat.le_refl _),List.drop_of_length_le (by rw [wd.get hi]; exact Nat.le_refl _),List.nil_append]
theorem wide_unit {m:Nat} {A:List (List κ.F)} {v:List κ.F} (wd:Wid m A):(wideR A v).map (List.drop (m + 1)) = unitT κ A.length:=by
  unfold wideR unitT
  rw [List.map_map]
  apply List.ext_getElem (by simp)
  intro i h1 h2
  have hi:i < A.length:=by simpa using h1
  rw [List.getElem_map,List.getElem_range,List.getElem_map,List.getElem_range]
  show List.drop (m + 1) (A.getD i [] ++ _) = _
  rw [← List.drop_drop,wide_dropE v wd hi]
  rfl
noncomputable def smul (e:κ.F) (R:List (List κ.F)):List (List κ.F):=R.map fun f => f.map (e * ·)
end
noncomputable def solL {κ:KX} (m:Nat) (ls:List Nat) (goal:List κ.F):Nat → List κ.F
  | 0 => List.replicate m 0
  | k + 1 => (solL m ls goal k).set (ls.getD k 0) (goal.getD k 0)
def sp_unit_rowX (CF CR:Addr):Sp:=fun vs H Q _ => ∃ (κ:KX) (s:Addr) (n i:Nat),vs = [.ref s,.int (n:Int),.int (i:Int)] ∧ KdX CF CR κ H s ∧ n ≤ 100 ∧ ∀ (H':Hp) (D:Addr) (ys:List V),Same H H' → H D = none → H' D = some (.lst ys) → AllG (NR κ H') ys (uRow κ n i) → Q (.ref D) H'
def sp_unitX (CF CR:Addr):Sp:=fun vs H Q _ => ∃ (κ:KX) (s:Addr) (n:Nat),vs = [.ref s,.int (n:Int)] ∧ KdX CF CR κ H s ∧ n ≤ 100 ∧ ∀ (H':Hp) (D:Addr) (rs:List Addr),Same H H' → H D = none → H' D = some (.lst (rs.map V.ref)) → RowsX κ H' rs (unitT κ n) → Q (.ref D) H'
structure SolvIn (CF CR:Addr) (κ:KX) (H:Hp) (s tb:Addr) (rs:List Addr) (R:List (List κ.F)) (ts:List (Tn κ)) (m:Nat) (ls:List Nat):Prop where
  kd:KdX CF CR κ H s
  tab:H tb = some (.lst (rs.map V.ref))
  rows:RowsX κ H rs (runT ts R)
  wid:Wid m R
  ok:∀ t ∈ ts,t.ok R.length
  ech:Ech R R.length m ls 1
  n1:1 ≤ R.length
  n7:R.length ≤ 7
  m1:1 ≤ m
  m7:m ≤ 7
end My
set_option maxHeartbeats 1000000
namespace My
open PySem L2 PyProof.Rows
section
variable {κ:KX}
theorem ech_take {R:List (List κ.F)} {n m:Nat} {ls:List Nat} {x:κ.F} (h:Ech R n m ls x):Ech (R.map (List.take m)) n m ls x :=
  ⟨h.le,h.lt,h.inc,h.x0,fun k hk i hi => by rw [ent_take (h.lt k hk)]; exact h.col k hk i hi,fun i a b j hj => by rw [ent_take hj]; exact h.low i a b j hj,fun k hk j hj => by rw [ent_take (Nat.lt_trans hj (h.lt k hk))]; exact h.pre k hk j hj⟩
variable {A:List (List κ.F)} {b:List κ.F} {e:κ.F} {m:Nat} {ts:List (Tn κ)}
theorem w_take (wd:Wid m A):(runT ts (wideR A (b.map (e * ·)))).map (List.take m) = runT ts A:=by rw [take_runT,wide_take _ wd]
theorem w_unit (wd:Wid m A):(runT ts (wideR A (b.map (e * ·)))).map (List.drop (m + 1)) = runT ts (unitT κ A.length):=by rw [drop_runT,wide_unit wd]
end
end My
namespace My
open PySem L2 PyProof.Rows
section
variable {P:Program} {w:World} {K:PySem.W.Frag} {mg:Str → Option Value} {base:Heap} {CF CR:Addr}
theorem sc_is_place:FnScope ["rows", "thing"] ["rows", "thing"] (defScope s_is_place):=⟨rfl,rfl,rfl,by decide +kernel,rfl,by decide +kernel,by decide +kernel⟩
theorem ok_is_place (h:Here K mg "is_place" s_is_place) (T:Nm mg) (h_is_whole:Has P w K mg base "is_whole" 1 ["thing"] sp_whole):Has P w K mg base "is_place" 2 ["rows", "thing"] sp_place:=by
  refine h.has (fun f fd F => F.binds fun _ _ _ _ _ _ us hl => by obtain ⟨_,_,rfl⟩:=len2 hl; exact rfl) fun f fd F => F.ok sc_is_place (fun vs H Q E h => ?_) (fun cdv A outer s H vs Q E hr h => ?_)
  · obtain ⟨_,_,_,rfl,_⟩:=h
    rfl
  obtain ⟨r,xs,i,rfl,hr',k⟩:=h
  refine ⟨_,(pss_one (ps_ret (pe_and (pe_has h_is_whole hr (by rfl) (pa_cons (pv 1) pa_nil)) (pe_one (pe_chain op_le op_lt pe_int (pv 1) (pe_callB call_len_seq (by rfl) T.len boot_len (pa_cons (pv 0) pa_nil))))))),?_⟩
  refine ⟨_,rfl,i,rfl,_,rfl,iteT ⟨_,rfl,_,_,rfl,rfl,_,rfl,?_⟩⟩
  refine if_dec (fun h0 => ?_) (fun h0 => ?_)
  · rw [decide_eq_true (show 0 ≤ i from h0),Bool.true_and] at k
    exact ⟨_,rfl,r,_,rfl,.inl (SqL.of hr'),_,_,rfl,rfl,k⟩
  · rw [decide_eq_false (show ¬ 0 ≤ i from h0),Bool.false_and] at k
    exact k
end
section
variable {P:Program} {w:World} {K:PySem.W.Frag} {mg:Str → Option Value} {base:Heap} {CF CR:Addr}
theorem sc_is_turn:FnScope ["kind", "rows", "turn"] ["kind", "rows", "turn"] (defScope s_is_turn):=⟨rfl,rfl,rfl,by decide +kernel,rfl,by decide +kernel,by decide +kernel⟩
theorem ok_is_turn (h:Here K mg "is_turn" s_is_turn) (nt:Nought P w K mg base CF CR) (h_is_place:Has P w K mg base "is_place" 2 ["rows", "thing"] sp_place):Has P w K mg base "is_turn" 3 ["kind", "rows", "turn"] (sp_is_turn CF CR):=by
  refine h.has (fun f fd F => F.binds fun _ _ _ _ _ _ us hl => by obtain ⟨_,_,_,rfl⟩:=len3 hl; exact rfl) fun f fd F => F.ok sc_is_turn (fun vs H Q E h => ?_) (fun cdv A outer s H vs Q E hr h => ?_)
  · obtain ⟨_,_,_,_,_,_,rfl,_⟩:=h
    rfl
  obtain ⟨κ,sk,r,xs,tv,t,rfl,hk,hr',ht,k⟩:=h
  refine ⟨_,(pss_cons (ps_if (pt_cmpR op_eq (pe_ix ix_tup (pv 2) pe_int (fun _ _ => rfl)) pe_str (nomark _)) (pss_one (ps_ret (pe_and (pe_has h_is_place hr (by rfl) (pa_cons (pv 1) (pa_cons (pe_ix ix_tup (pv 2) pe_int (fun _ _ => rfl)) pa_nil))) (pe_one (pe_not (pe_methA (pv 0) hr (pa_cons (pe_ix ix_tup (pv 2) pe_int (fun _ _ => rfl)) pa_nil))))))) pss_nil)
    (pss_cons (ps_if (pw_and (pt_cmpR op_ne (pe_ix ix_tup (pv 2) pe_int (fun _ _ => rfl)) pe_str (nomark _)) (pw_and1 (pt_cmpR op_ne (pe_ix ix_tup (pv 2) pe_int (fun _ _ => rfl)) pe_str (nomark _)))).pt (pss_one (ps_ret pe_bl)) pss_nil)
    (pss_one (ps_ret (pe_and (pe_has h_is_place hr (by rfl) (pa_cons (pv 1) (pa_cons (pe_ix ix_tup (pv 2) pe_int (fun _ _ => rfl)) pa_nil))) (pe_and (pe_has h_is_place hr (by rfl) (pa_cons (pv 1) (pa_cons (pe_ix ix_tup (pv 2) pe_int (fun _ _ => rfl)) pa_nil))) (pe_one (pe_cmpR op_ne (pe_ix ix_tup (pv 2) pe_int (fun _ _ => rfl)) (pe_ix ix_tup (pv 2) pe_int (fun _ _ => rfl)) (nomark _))))))))),?_⟩
  have pl:∀ i:Int,(decide (0 ≤ i) && decide (i < (xs.length:Int))) = true ↔ (0 ≤ i ∧ i < xs.length):=fun i => by simp
  cases t with
  | scale i c =>
    obtain ⟨a,u,rfl,ha,nu⟩:=ht
    refine ⟨_,rfl,a,_,0,_,rfl,rfl,SqT.of ha,rfl,rfl,_,rfl,ite_yes rfl ?_⟩
    refine ⟨_,rfl,_,rfl,a,_,1,_,rfl,rfl,SqT.of ha,rfl,r,xs,i,rfl,hr',_,rfl,?_⟩
    by_cases hp:0 ≤ i ∧ i < xs.length
    · rw [(pl i).mpr hp]
      obtain ⟨C,dx,fs,ps,dvs,sp,c1,c2,c3,c4,rfl,c5⟩:=nt κ H sk hk
      refine iteT ⟨_,rfl,sk,C,dx,fs,ps,_,sp,rfl,c1,c2,c3,c4,_,rfl,a,_,2,_,rfl,rfl,SqT.of ha,rfl,c5 u c _ nu fun b hb => ?_⟩
      refine ⟨_,rfl,k _ ?_⟩
      show (!b) = true ↔ ((0 ≤ i ∧ i < xs.length) ∧ c ≠ 0)
      constructor
      · intro z
        exact ⟨hp,fun e => by rw [hb.mpr e] at z; cases z⟩
      · rintro ⟨_,z⟩
        cases b with
        | false => rfl
        | true => exact absurd (hb.mp rfl) z
    · have e:(decide (0 ≤ i) && decide (i < (xs.length:Int))) = false:=by
        rw [← Bool.not_eq_true,pl]; exact hp
      rw [e]
      exact iteF (k _ ⟨fun z => (nomatch z),fun z => absurd z.1 hp⟩)
  | swap i j =>
    obtain ⟨a,rfl,ha⟩:=ht
    refine ⟨_,rfl,a,_,0,_,rfl,rfl,SqT.of ha,rfl,rfl,_,rfl,ite_no s12 ?_⟩
    refine ⟨_,rfl,a,_,0,_,rfl,rfl,SqT.of ha,rfl,rfl,_,rfl,itn_no rfl ?_⟩
    refine ⟨_,rfl,_,rfl,a,_,1,_,rfl,rfl,SqT.of ha,rfl,r,xs,i,rfl,hr',_,rfl,?_⟩
    by_cases hp:0 ≤ i ∧ i < xs.length
    · rw [(pl i).mpr hp]
      refine iteT ⟨_,rfl,_,rfl,a,_,2,_,rfl,rfl,SqT.of ha,rfl,r,xs,j,rfl,hr',_,rfl,?_⟩
      by_cases hq:0 ≤ j ∧ j < xs.length
      · rw [(pl j).mpr hq]
        refine iteT ⟨_,rfl,a,_,1,_,rfl,rfl,SqT.of ha,rfl,_,rfl,a,_,2,_,rfl,rfl,SqT.of ha,rfl,rfl,k _ ?_⟩
        show (!decide (V.int i = V.int j)) = true ↔ ((0 ≤ i ∧ i < xs.length) ∧ (0 ≤ j ∧ j < xs.length) ∧ i ≠ j)
        simp [hp,hq]
      · have e:(decide (0 ≤ j) && decide (j < (xs.length:Int))) = false:=by
          rw [← Bool.not_eq_true,pl]; exact hq
        rw [e]
        exact iteF (k _ ⟨fun z => (nomatch z),fun z => absurd z.2.1 hq⟩)
    · have e:(decide (0 ≤ i) && decide (i < (xs.length:Int))) = false:=by
        rw [← Bool.not_eq_true,pl]; exact hp
      rw [e]
      exact iteF (k _ ⟨fun z => (nomatch z),fun z => absurd z.1 hp⟩)
  | add i j c =>
    obtain ⟨a,u,rfl,ha,nu⟩:=ht
    refine ⟨_,rfl,a,_,0,_,rfl,rfl,SqT.of ha,rfl,rfl,_,rfl,ite_no s32 ?_⟩
    refine ⟨_,rfl,a,_,0,_,rfl,rfl,SqT.of ha,rfl,rfl,_,rfl,itn_yes s31 ?_⟩
    refine ⟨_,rfl,a,_,0,_,rfl,rfl,SqT.of ha,rfl,rfl,_,rfl,itn_no rfl ?_⟩
    refine ⟨_,rfl,_,rfl,a,_,1,_,rfl,rfl,SqT.of ha,rfl,r,xs,i,rfl,hr',_,rfl,?_⟩
    by_cases hp:0 ≤ i ∧ i < xs.length
    · rw [(pl i).mpr hp]
      refine iteT ⟨_,rfl,_,rfl,a,_,2,_,rfl,rfl,SqT.of ha,rfl,r,xs,j,rfl,hr',_,rfl,?_⟩
      by_cases hq:0 ≤ j ∧ j < xs.length
      · rw [(pl j).mpr hq]
        refine iteT ⟨_,rfl,a,_,1,_,rfl,rfl,SqT.of ha,rfl,_,rfl,a,_,2,_,rfl,rfl,SqT.of ha,rfl,rfl,k _ ?_⟩
        show (!decide (V.int i = V.int j)) = true ↔ ((0 ≤ i ∧ i < xs.length) ∧ (0 ≤ j ∧ j < xs.length) ∧ i ≠ j)
        simp [hp,hq]
      · have e:(decide (0 ≤ j) && decide (j < (xs.length:Int))) = false:=by
          rw [← Bool.not_eq_true,pl]; exact hq
        rw [e]
        exact iteF (k _ ⟨fun z => (nomatch z),fun z => absurd z.2.1 hq⟩)
    · have e:(decide (0 ≤ i) && decide (i < (xs.length:Int))) = false:=by
        rw [← Bool.not_eq_true,pl]; exact hp
      rw [e]
      exact iteF (k _ ⟨fun z => (nomatch z),fun z => absurd z.1 hp⟩)
end
section
variable {P:Program} {w:World} {K:PySem.W.Frag} {mg:Str → Option Value} {base:Heap} {CF CR cT:Addr}
theorem sc_done:FnScope ["kind", "table", "turns", "rows", "turn"] ["kind", "table", "turns"] (defScope s_done):=⟨rfl,rfl,rfl,by decide +kernel,rfl,by decide +kernel,by decide +kernel⟩
theorem ok_done (h:Here K mg "done" s_done) (T:Nm mg) (c_NoTurn:ExcC K mg "NoTurn" cT) (h_is_turn:Has P w K mg base "is_turn" 4 ["kind", "rows", "turn"] (sp_is_turn CF CR)) (h_make_turn:Has P w K mg base "make_turn" 4 ["kind", "rows", "turn"] (sp_make_turn CF CR)):HasX P w K mg base "done" 5 ["kind", "table", "turns"] (sp_done CF CR cT):=by
  refine h.hasX (fun f fd F => F.binds fun _ _ _ _ _ _ us hl => by obtain ⟨_,_,_,rfl⟩:=len3 hl; exact rfl) fun f fd F => F.okx sc_done (fun vs H Q E h => ?_) (fun cdv A outer s H vs Q E hr h => ?_)
  · obtain ⟨_,_,_,_,_,_,_,_,_,rfl,_⟩:=h
    rfl
  obtain ⟨κ,sk,tb,tu,rs,R,tvs,ts,m,rfl,hk,hT,rx,lR,wid,lm,hU,al,pre,kQ,kE⟩:=h
  have nd:=sc_done.nd
  refine ⟨_,(pss_cons (ps_setComp (i:=3) ["row"] [] nd rfl rfl rfl (pi_list (pv 1)) (by exact fun _ _ _ _ => (pg_name (i:=0) (show (["row"]:List Str).Nodup by decide +kernel) rfl (Or.inl rfl))) (by exact fun _ _ _ _ => (pe_callTy (call_list_ofK K rfl) (by rfl) T.list boot_list (pa_cons (pv 0) pa_nil))) trivial)
    (pss_cons (ps_for PassesOwn.leaving rfl (pi_list (pv 2)) (pg_name (i:=4) nd rfl (Or.inl rfl)) (pss_cons (ps_if (pt_not (pt_val (pe_has h_is_turn hr (by rfl) (pa_cons (pv 0) (pa_cons (pv 3) (pa_cons (pv 4) pa_nil)))))) (pss_one (ps_raise c_NoTurn raiseE rfl (by rfl) (pa_cons pe_str pa_nil))) pss_nil)
      (pss_one (ps_expr (pe_has h_make_turn hr (by rfl) (pa_cons (pv 0) (pa_cons (pv 3) (pa_cons (pv 4) pa_nil))))))))
    (pss_one (ps_ret (pv 3))))),?_⟩
  have lr:=rx.1
  have lt:=al.1
  refine ⟨_,rfl,tb,rfl,⟨_,SqL.of hT⟩,?_⟩
  refine comp_list (K:=K) (a:=tb) (xs:=rs.map V.ref) (fun i ys H2 => ∃ as:List Addr,ys = as.map V.ref ∧ Same H H2 ∧ RowsX κ H2 as (R.take i) ∧ as.Nodup ∧ ∀ a ∈ as,H a = none) (by rw [List.length_map]; omega) ⟨[],rfl,Same.refl H,by rw [List.take_zero]; exact .nil,List.nodup_nil,fun a h => nomatch h⟩ (fun i ys H2 _ ⟨as,_,S,_⟩ => SqL.of (S _ _ hT)) ?_ ?_
  · rintro i x ys H2 hx hl ⟨as,rfl,S,ra,nda,fra⟩
    obtain ⟨a,ha,rfl⟩:=map_ref_get hx
    obtain ⟨f,hf⟩:=get_of_lt ha lr
    obtain ⟨xs,hxs,fl⟩:=rx.2 i a f ha hf
    refine ⟨_,rfl,a,xs,rfl,.inl (SqL.of (S _ _ hxs)),fun l nl => ?_⟩
    have Sl:=same_new nl (.lst xs)
    refine ⟨as ++ [l],by rw [List.map_append]; rfl,S.trans Sl,?_,nodup_snoc nda (ra.notin nl),fun b hb => ?_⟩
    · rw [List.take_succ,hf]
      exact (ra.same Sl).snoc upd_same (fl.mono fun _ _ n => n.same (S.trans Sl))
    · rcases List.mem_append.mp hb with hb | hb
      · exact fra b hb
      · rw [List.mem_singleton.mp hb]; exact S.free nl
  rintro ys H2 hl ⟨as0,rfl,S0,ra0,nda0,fra0⟩ D hD
  rw [List.length_map,lr,List.take_length] at ra0
  have SD:=same_new hD (.lst (as0.map V.ref))
  have nD0:H D = none:=S0.free hD
  have qD:=upd_same (H:=H2) (a:=D) (o:=.lst (as0.map V.ref))
  have nDa:=ra0.notin hD
  generalize upd H2 D (.lst (as0.map V.ref)) = H3 at *
  refine ⟨_,rfl,tu,rfl,⟨_,SqL.of ((S0.trans SD) _ _ hU)⟩,?_⟩
  refine for_list (xs:=tvs) (fun i σ H4 => ∃ (as:List Addr) (z:Option V),σ = [some (.ref sk),some (.ref tb),some (.ref tu),some (.ref D),z] ∧ Same H H4 ∧ H4 D = some (.lst (as.map V.ref)) ∧ RowsX κ H4 as (runT (ts.take i) R) ∧ D ∉ as ∧ as.Nodup ∧ (∀ a ∈ as,H a = none) ∧ (∀ t ∈ ts.take i,t.ok R.length) ∧ Wid m (runT (ts.take i) R)) ⟨as0,none,rfl,S0.trans SD,qD,by rw [List.take_zero]; exact ra0.same SD,nDa,nda0,fra0,(fun t h => by rw [List.take_zero] at h; cases h),(by rw [List.take_zero]; exact wid)⟩ ?_ ?_ ?_
  · rintro i σ H4 - ⟨as,z,rfl,S,-⟩
    exact SqL.of (S _ _ hU)
  · rintro i x σ H4 hx ⟨as,z,rfl,S,hD4,ra,nDas,nda,fra,oks,wd⟩
    obtain ⟨t,ht,tr⟩:=al.get hx
    have ll:(as.map V.ref).length = R.length:=by rw [List.length_map,ra.1,runT_len]
    refine ⟨_,rfl,_,rfl,_,rfl,κ,sk,D,_,x,t,rfl,hk.same S,hD4,tr.same S,fun b hb => ?_⟩
    rw [ll] at hb
    refine ⟨_,rfl,?_⟩
    cases b with
    | false =>
      refine iteT ⟨(by show 1 ≤ 1000; decide),kE ⟨t,List.mem_of_getElem? ht,fun z => by have:=hb.mpr z; cases this⟩ _ S⟩
    | true =>
      have okt:=hb.mp rfl
      have oks':∀ t' ∈ ts.take (i + 1),t'.ok R.length:=fun t' h' => by
        rw [List.take_succ,ht] at h'
        rcases List.mem_append.mp h' with h' | h'
        · exact oks t' h'
        · rw [List.mem_singleton.mp h']; exact okt
      have lrun:(runT (ts.take i) R).length = R.length:=runT_len _ _
      refine iteF ⟨_,rfl,_,rfl,_,rfl,κ,sk,D,as,_,x,t,rfl,hk.same S,hD4,ra,nDas,fun f hf => by rw [wd f hf]; exact lm,tr.same S,by rw [lrun]; exact okt,pre i t ht oks',fun H5 as' O hD5 ra' nD' nda' sub => ?_⟩
      have S5:Same H H5:=Off.same O S (fun r hr => by rw [List.mem_singleton.mp hr]; exact nD0)
      refine ⟨as',_,rfl,S5,hD5,?_,nD',nda' nda,fun a ha => ?_,oks',?_⟩
      · rw [List.take_succ,ht]
        show RowsX κ H5 as' (runT (ts.take i ++ [t]) R)
        rw [runT_snoc]; exact ra'
      · rcases sub a ha with h | h
        · exact fra a h
        · exact S.free h
      · rw [List.take_succ,ht]
        show Wid m (runT (ts.take i ++ [t]) R)
        rw [runT_snoc]
        exact doT_wid wd (by rw [lrun]; exact okt)
  · rintro σ H4 ⟨as,z,rfl,S,hD4,ra,nDas,nda,fra,oks,wd⟩
    rw [lt,List.take_length] at oks ra
    exact ⟨_,rfl,kQ oks H4 D as S nD0 hD4 ra nda nDas fra⟩
end
section
variable {P:Program} {w:World} {K:PySem.W.Frag} {mg:Str → Option Value} {base:Heap} {CF CR cT cF:Addr}
theorem sc_unit_row:FnScope ["kind", "size", "place"] ["kind", "size", "place"] (defScope s_unit_row):=⟨rfl,rfl,rfl,by decide +kernel,rfl,by decide +kernel,by decide +kernel⟩
theorem ok_unit_rowX (h:Here K mg "unit_row" s_unit_row) (T:Nm mg) (mn:MethNum P w K mg base CF CR):Has P w K mg base "unit_row" 4 ["kind", "size", "place"] (sp_unit_rowX CF CR):=by
  refine h.has (fun f fd F => F.binds fun _ _ _ _ _ _ us hl => by obtain ⟨_,_,_,rfl⟩:=len3 hl; exact rfl) fun f fd F => F.ok sc_unit_row (fun vs H Q E h => ?_) (fun cdv A outer s H vs Q E hr h => ?_)
  · obtain ⟨_,_,_,_,rfl,_⟩:=h
    rfl
  obtain ⟨κ,sk,n,i,rfl,hk,hn,k⟩:=h
  refine ⟨_,(pss_one (ps_ret (pe_comp ["column"] [(0, "kind"),(2, "place")] rfl (pi_range1 (by rfl) T.range (pa_cons (pv 1) pa_nil)) (by exact fun _ _ _ _ => (pg_name (i:=0) (show (["column", "kind", "place"]:List Str).Nodup by decide +kernel) rfl (Or.inl rfl))) (by exact fun _ _ _ _ => (pe_methXK ⟨rfl,rfl,rfl,rfl,rfl⟩ (pv 1) passN hr (pa_cons (pe_ifExp (pt_cmpR op_eq (pv 0) (pv 2) (nomark _)) pe_int pe_int) pa_nil))) ⟨⟨rfl,rfl,Or.inl rfl⟩,⟨⟨rfl,rfl,Or.inl rfl⟩,trivial⟩⟩))),?_⟩
  refine ⟨_,rfl,(n:Int),rfl,by omega,by omega,?_⟩
  rw [Int.toNat_natCast]
  refine comp_range (lo:=0) (n:=n) (fun q ys H4 => Same H H4 ∧ AllG (NR κ H4) ys ((List.range q).map fun j => if i = j then (1:κ.F) else 0)) (by omega) ⟨Same.refl _,.nil⟩ ?_ ?_
  · rintro q ys H4 _ _ ⟨S4,e4⟩
    obtain ⟨Cn,dxn,fsn,psn,dvn,spn,k1,k2,k3,k4,rfl,k5⟩:=mn κ H4 sk (hk.same S4)
    have key:∀ (y:κ.F),y = (if i = q then (1:κ.F) else 0) → ∀ v' H5,Same H4 H5 → NR κ H5 v' y → Same H H5 ∧ AllG (NR κ H5) (ys ++ [v']) ((List.range (q + 1)).map fun j => if i = j then (1:κ.F) else 0):=by
      rintro y rfl v' H5 S5 nv'
      refine ⟨S4.trans S5,?_⟩
      rw [List.range_succ,List.map_append]
      exact (e4.mono fun _ _ n => n.same S5).append (.one nv')
    refine ⟨_,rfl,sk,Cn,dxn,fsn,psn,_,spn,rfl,k1,k2,k3.mono (by decide),k4,_,rfl,_,rfl,rfl,_,rfl,?_⟩
    refine if_eqI (fun z => ?_) (fun z => ?_)
    · have z:0 + (q:Int) = (i:Int):=z
      exact k5 H4 1 1 _ _ (Same.refl _) numV1 (fun v' H5 S5 nv' => key 1 (by rw [if_pos (by omega)]) v' H5 S5 nv')
    · have z:¬ (0 + (q:Int) = (i:Int)):=z
      exact k5 H4 0 0 _ _ (Same.refl _) numV0 (fun v' H5 S5 nv' => key 0 (by rw [if_neg (by omega)]) v' H5 S5 nv')
  · rintro ys H4 _ ⟨S4,e4⟩ D nD
    have SD:=same_new nD (.lst ys)
    exact k _ D ys (S4.trans SD) (S4.free nD) upd_same (e4.mono fun _ _ n => n.same SD)
theorem sc_unit:FnScope ["kind", "size"] ["kind", "size"] (defScope s_unit):=⟨rfl,rfl,rfl,by decide +kernel,rfl,by decide +kernel,by decide +kernel⟩
theorem ok_unitX (h:Here K mg "unit" s_unit) (T:Nm mg) (h_unit_row:Has P w K mg base "unit_row" 4 ["kind", "size", "place"] (sp_unit_rowX CF CR)):Has P w K mg base "unit" 5 ["kind", "size"] (sp_unitX CF CR):=by
  refine h.has (fun f fd F => F.binds fun _ _ _ _ _ _ us hl => by obtain ⟨_,_,rfl⟩:=len2 hl; exact rfl) fun f fd F => F.ok sc_unit (fun vs H Q E h => ?_) (fun cdv A outer s H vs Q E hr h => ?_)
  · obtain ⟨_,_,_,rfl,_⟩:=h
    rfl
  obtain ⟨κ,sk,n,rfl,hk,hn,k⟩:=h
  refine ⟨_,(pss_one (ps_ret (pe_comp ["place"] [(0, "kind"),(1, "size")] rfl (pi_range1 (by rfl) T.range (pa_cons (pv 1) pa_nil)) (by exact fun _ _ _ _ => (pg_name (i:=0) (show (["place", "kind", "size"]:List Str).Nodup by decide +kernel) rfl (Or.inl rfl))) (by exact fun _ _ _ _ => (pe_has h_unit_row hr (by rfl) (pa_cons (pv 1) (pa_cons (pv 2) (pa_cons (pv 0) pa_nil))))) ⟨⟨rfl,rfl,Or.inl rfl⟩,⟨⟨rfl,rfl,Or.inl rfl⟩,trivial⟩⟩))),?_⟩
  refine ⟨_,rfl,(n:Int),rfl,by omega,by omega,?_⟩
  rw [Int.toNat_natCast]
  refine comp_range (lo:=0) (n:=n) (fun q ys H4 => Same H H4 ∧ ∃ rs:List Addr,ys = rs.map V.ref ∧ RowsX κ H4 rs ((List.range q).map (uRow κ n))) (by omega) ⟨Same.refl _,[],rfl,.nil⟩ ?_ ?_
  · rintro q ys H4 _ _ ⟨S4,rs,rfl,rx⟩
    refine ⟨_,rfl,_,rfl,_,rfl,κ,sk,n,q,(by rw [Int.zero_add]; rfl),hk.same S4,hn,fun H5 D zs S5 nD hD e5 => ⟨S4.trans S5,rs ++ [D],by simp,?_⟩⟩
    rw [List.range_succ,List.map_append]
    exact (rx.same S5).snoc hD e5
  · rintro ys H4 _ ⟨S4,rs,rfl,rx⟩ D nD
    have SD:=same_new nD (.lst (rs.map V.ref))
    exact k _ D rs (S4.trans SD) (S4.free nD) upd_same (rx.same SD)
end
end My
set_option maxHeartbeats 1000000
namespace My
open PySem L2 PyProof.Rows
end My
set_option maxHeartbeats 1000000
namespace My
open PySem L2 PyProof.Rows
theorem joinV1 {C G X:V → Prop} (h:(∀ a,C a → G a) → ∀ a,C a → X a) (hG:∀ a,C a → G a):∀ a,C a → X a:=h hG
structure LeadsOk (n m:Nat) (ls:List Nat):Prop where
  len:ls.length ≤ n
  pw:ls.Pairwise (· < ·)
  lt:∀ x ∈ ls,x < m
theorem LeadsOk.inc {n m:Nat} {ls:List Nat} (h:LeadsOk n m ls) {k k':Nat} (hk:k < k') (hk':k' < ls.length):ls.getD k 0 < ls.getD k' 0:=by
  rw [getD_lt (by omega),getD_lt hk']
  exact List.pairwise_iff_getElem.mp h.pw k k' (by omega) hk' hk
section
variable {κ:KX}
def QM (κ:KX) (D:Int) (M:Nat) (x:κ.F):Prop:=match κ with
  | .q => ∃ X:Int,x = Rat.divInt X D ∧ X.natAbs ≤ M
  | .r _ _ => True
theorem QM.qs {D:Int} {M a:Nat} {x:κ.F} (h:QM κ D M x) (hM:M < 2 ^ a):QS κ D a x:=by
  cases κ with
  | r p hp => exact trivial
  | q => obtain ⟨X,e,l⟩:=h; exact ⟨X,e,Bits.of (Nat.lt_of_le_of_lt l hM)⟩
def SzM (κ:KX) (N p:Nat) (R:List (List κ.F)):Prop:=∃ D:Int,0 < D ∧ D ≤ 60 * 3 ^ p ∧ AllR (QM κ D (N * 3 ^ p)) R
theorem p3_le {p:Nat} (h:p ≤ 64):3 ^ p ≤ 3 ^ 64:=Nat.pow_le_pow_right (by decide) h
theorem SzM.bits {N p:Nat} {R:List (List κ.F)} (h:SzM κ N p R) (hp:p ≤ 64) (hN:N ≤ 10 ^ 50):∃ D:Int,0 < D ∧ Bits 120 D ∧ AllR (QM κ D (N * 3 ^ p)) R ∧ N * 3 ^ p < 2 ^ 290:=by
  obtain ⟨D,hD,l,al⟩:=h
  have e:(60 * 3 ^ p:Int) = ((60 * 3 ^ p:Nat):Int):=by rw [Int.natCast_mul,Int.natCast_pow]; rfl
  rw [e] at l
  have:=p3_le hp
  refine ⟨D,hD,Bits.of (Nat.lt_of_le_of_lt (show D.natAbs ≤ 60 * 3 ^ 64 by omega) (by decide)),al,?_⟩
  exact Nat.lt_of_le_of_lt (Nat.mul_le_mul hN this) (by decide)
structure RowP (Pr:κ.F → Prop) (ls:List Nat) (m i:Nat) (f:List κ.F):Prop where
  len:f.length = m
  out:ls.length ≤ i → ∀ j < m,f.getD j 0 = 0
  one:i < ls.length → f.getD (ls.getD i 0) 0 = 1
  pre:i < ls.length → ∀ j < ls.getD i 0,f.getD j 0 = 0
  nil:i < ls.length → ∀ k < ls.length,k ≠ i → f.getD (ls.getD k 0) 0 = 0
  sz:∀ x ∈ f,Pr x
end
end My
namespace My
open PySem L2 PyProof.Rows
end My
namespace My
open PySem L2 PyProof.Rows
noncomputable def dotL {κ:KX} (f g:List κ.F):κ.F:=sumP (fun i => f.getD i 0) (fun i => g.getD i 0) f.length
end My
namespace L2
open PySem PySem.Spec PyProof.Rows
section
variable {X:Cx}
end
end L2
set_option maxHeartbeats 1000000
namespace My
open PySem L2 PyProof.Rows
section
variable {κ:KX}
theorem bits1 {n:Nat} (h:1 ≤ n):Bits n 1:=Bits.of (by show 1 < _; exact Nat.lt_of_lt_of_le (show 1 < 2 ^ 1 by decide) (Nat.pow_le_pow_right (by decide) h))
end
end My
set_option maxHeartbeats 1000000
namespace My
open PySem L2 PyProof.Rows
section
variable {κ:KX}
theorem mul_1K (x:κ.F):1 * x = x:=by grind
theorem mul_0K (x:κ.F):0 * x = 0:=by grind
theorem ech_full {R:List (List κ.F)} {n:Nat} {ls:List Nat} (hR:R.length = n) (wd:Wid n R) (h:Ech R n n ls 1) (full:ls.length = n):R = unitT κ n:=by
  have ge:∀ k,k < n → k ≤ ls.getD k 0:=by
    intro k
    induction k with
    | zero => intro _; omega
    | succ k ih => intro hk; have:=h.inc k (k + 1) (by omega) (by omega); have:=ih (by omega); omega
  have le:∀ d k,k + d + 1 = n → ls.getD k 0 ≤ k:=by
    intro d
    induction d with
    | zero => intro k hk; have:=h.lt k (by omega); omega
    | succ d ih => intro k hk; have:=h.inc k (k + 1) (by omega) (by omega); have:=ih (k + 1) (by omega); omega
  have eq:∀ k,k < n → ls.getD k 0 = k:=fun k hk => by have:=ge k hk; have:=le (n - k - 1) k (by omega); omega
  refine ent_ext (m:=n) (by rw [hR,unitT_len]) wd (unitT_wid n) fun i hi j hj => ?_
  have:=h.col j (by omega) i (by omega)
  rw [eq j hj] at this
  rw [this,unitT_ent (by omega) hj]
theorem sum_unit {n:Nat} {v:Nat → κ.F} {i:Nat} (hi:i < n):sumP (ent (unitT κ n) i) v n = v i:=by
  rw [sumP_one hi (fun j hj ne => by rw [unitT_ent hi hj,if_neg (Ne.symm ne)]; exact mul_0K _),unitT_ent hi hi,if_pos rfl]
  exact mul_1K _
theorem run_id {n w:Nat} {ts:List (Tn κ)} (ok:∀ t ∈ ts,t.ok n) (h:runT ts (unitT κ n) = unitT κ n) {X:List (List κ.F)} (hX:X.length = n) (wX:Wid w X):runT ts X = X:=by
  refine ent_ext (m:=w) (runT_len _ _) (runT_wid wX (by rw [hX]; exact ok)) wX fun i hi j hj => ?_
  rw [runT_len,hX] at hi
  rw [comb_runT hX wX ok i hi j,h,sum_unit hi]
theorem inv_both {n:Nat} {ts0 ts:List (Tn κ)} (ok0:∀ t ∈ ts0,t.ok n) (ok:∀ t ∈ ts,t.ok n) (h:runT ts (runT ts0 (unitT κ n)) = unitT κ n) :
    runT ts0 (runT ts (unitT κ n)) = unitT κ n ∧ runT ts (unitT κ n) = runT (ts0.reverse.map invT) (unitT κ n):=by
  have lu:=unitT_len (κ:=κ) n
  have wu:=unitT_wid (κ:=κ) n
  have okb:∀ t ∈ ts0 ++ ts,t.ok n:=fun t ht => by
    rcases List.mem_append.mp ht with q | q
    · exact ok0 t q
    · exact ok t q
  have lT:(runT ts (unitT κ n)).length = n:=by rw [runT_len,lu]
  have wT:Wid n (runT ts (unitT κ n)):=runT_wid wu (by rw [lu]; exact ok)
  have e1:=run_id okb (by rw [runT_append]; exact h) lT wT
  rw [runT_append] at e1
  have e2:=runT_back (m:=n) (ts:=ts) (R:=runT ts0 (runT ts (unitT κ n))) (runT_wid wT (by rw [lT]; exact ok0)) (by rw [runT_len,lT]; exact ok)
  rw [e1] at e2
  have e3:=runT_back (m:=n) (ts:=ts) (R:=unitT κ n) wu (by rw [lu]; exact ok)
  have e4:runT ts0 (runT ts (unitT κ n)) = unitT κ n:=e2.symm.trans e3
  refine ⟨e4,?_⟩
  have e5:=runT_back (m:=n) (ts:=ts0) (R:=runT ts (unitT κ n)) wT (by rw [lT]; exact ok0)
  rw [e4] at e5
  exact e5.symm
noncomputable def mulE (A B:List (List κ.F)) (n i j:Nat):κ.F:=sumP (ent A i) (fun k => ent B k j) n
theorem inv_units {n:Nat} {ts0 ts:List (Tn κ)} (ok0:∀ t ∈ ts0,t.ok n) (ok:∀ t ∈ ts,t.ok n) (h:runT ts (runT ts0 (unitT κ n)) = unitT κ n) {i j:Nat} (hi:i < n) (hj:j < n) :
    mulE (runT ts (unitT κ n)) (runT ts0 (unitT κ n)) n i j = (if i = j then 1 else 0) ∧ mulE (runT ts0 (unitT κ n)) (runT ts (unitT κ n)) n i j = (if i = j then 1 else 0):=by
  have lu:=unitT_len (κ:=κ) n
  have wu:=unitT_wid (κ:=κ) n
  refine ⟨?_,?_⟩
  · have e:=comb_runT (X:=runT ts0 (unitT κ n)) (by rw [runT_len,lu]) (runT_wid wu (by rw [lu]; exact ok0)) ok i hi j
    rw [h,unitT_ent hi hj] at e
    exact e.symm
  · have e:=comb_runT (X:=runT ts (unitT κ n)) (by rw [runT_len,lu]) (runT_wid wu (by rw [lu]; exact ok)) ok0 i hi j
    rw [(inv_both ok0 ok h).1,unitT_ent hi hj] at e
    exact e.symm
end
structure TabR (κ:KX) (H:Hp) (a:Addr) (rs:List Addr) (R:List (List κ.F)) (m:Nat):Prop where
  l:H a = some (.lst (rs.map V.ref))
  r:RowsX κ H rs R
  w:Wid m R
  n1:1 ≤ R.length
  n9:R.length ≤ 100
theorem TabR.fst {κ:KX} {H:Hp} {a:Addr} {rs:List Addr} {R:List (List κ.F)} {m:Nat} (h:TabR κ H a rs R m):∃ a0 xs,rs[0]? = some a0 ∧ H a0 = some (.lst xs) ∧ xs.length = m:=by
  have n1:=h.n1
  obtain ⟨a0,xs,ha,hx,al⟩:=h.r.get (i:=0) (by omega)
  exact ⟨a0,xs,ha,hx,by rw [al.1]; exact h.w _ (List.getElem_mem _)⟩
def sp_is_squareR:Sp:=fun vs H Q _ => ∃ (κ:KX) (a:Addr) (rs:List Addr) (R:List (List κ.F)) (m:Nat),vs = [.ref a] ∧ TabR κ H a rs R m ∧ Q (.bl (decide (R.length = m))) H
def sp_need_squareR (cF:Addr):Sp:=fun vs H Q E => ∃ (κ:KX) (a:Addr) (rs:List Addr) (R:List (List κ.F)) (m:Nat),vs = [.ref a] ∧ TabR κ H a rs R m ∧ (R.length = m → Q .non H) ∧ (R.length ≠ m → E (.ref cF) none H)
def sp_Iinit (cI:Addr):Sp:=fun vs H Q _ => ∃ (e:Addr) (r:Nat),vs = [.ref e,.int (r:Int)] ∧ r ≤ 9 ∧ H e = some (excN e cI none) ∧ ∀ d,H d = none → Q .non (upd (upd H d (.xd [("rank", .int (r:Int))])) e (excN e cI (some d)))
def sp_inverse (CF CR cF cI:Addr):Sp:=fun vs H Q E => ∃ (κ:KX) (s tb:Addr) (rs:List Addr) (A:List (List κ.F)) (m:Nat),vs = [.ref s,.ref tb] ∧ KdX CF CR κ H s ∧ TabR κ H tb rs A m ∧ (A.length ≠ m → E (.ref cF) none H) ∧
  (A.length = m → m ≤ 7 ∧ ∃ (R:List (List κ.F)) (ts0:List (Tn κ)) (ls:List Nat),A = runT ts0 R ∧ R.length = m ∧ Wid m R ∧ (∀ t ∈ ts0,t.ok m) ∧ Ech R m m ls 1 ∧ QT κ m (wideR A (([]:List κ.F).map (1 * ·))) ∧
    (ls.length < m → ∀ (H':Hp) (d:Addr),Same H H' → H' d = some (.xd [("rank", .int (ls.length:Int))]) → E (.ref cI) (some d) H') ∧
    (ls.length = m → ∀ (H':Hp) (D:Addr) (as:List Addr) (ts:List (Tn κ)),Same H H' → H D = none → H' D = some (.lst (as.map V.ref)) → RowsX κ H' as (runT ts (unitT κ m)) → as.Nodup → D ∉ as → (∀ a ∈ as,H a = none) → (∀ t ∈ ts,t.ok m) → runT ts (runT ts0 R) = R → Q (.ref D) H'))
end My
namespace My
open PySem L2 PyProof.Rows
section
variable {P:Program} {w:World} {K:PySem.W.Frag} {mg:Str → Option Value} {base:Heap} {CF CR cF cT cI CE fI:Addr}
theorem sc_is_square:FnScope ["table"] ["table"] (defScope s_is_square):=⟨rfl,rfl,rfl,by decide +kernel,rfl,by decide +kernel,by decide +kernel⟩
theorem ok_is_squareR (h:Here K mg "is_square" s_is_square) (T:Nm mg):Has P w K mg base "is_square" 1 ["table"] sp_is_squareR:=by
  refine h.has (fun f fd F => F.binds fun _ _ _ _ _ _ us hl => by obtain ⟨_,rfl⟩:=len1 hl; exact rfl) fun f fd F => F.ok sc_is_square (fun vs H Q E h => ?_) (fun cdv A outer s H vs Q E hr h => ?_)
  · obtain ⟨_,_,_,_,_,rfl,_⟩:=h
    rfl
  obtain ⟨κ,a,rs,R,m,rfl,ta,k⟩:=h
  refine ⟨_,(pss_one (ps_ret (pe_cmpR op_eq (pe_callB call_len_seq (by rfl) T.len boot_len (pa_cons (pv 0) pa_nil)) (pe_callB call_len_seq (by rfl) T.len boot_len (pa_cons (pe_ix ix_list (pv 0) pe_int (fun _ _ => rfl)) pa_nil)) (nomark _)))),?_⟩
  have lr:=ta.r.1
  obtain ⟨a0,xs,ha,hx,lx⟩:=ta.fst
  refine ⟨_,rfl,a,_,rfl,.inl (SqL.of ta.l),_,rfl,a,_,0,_,rfl,rfl,SqL.of ta.l,ref_at (i:=0) ha,a0,_,rfl,.inl (SqL.of hx),rfl,?_⟩
  rw [List.length_map,lr,lx]
  have e:decide (V.int (R.length:Int) = V.int (m:Int)) = decide (R.length = m):=by
    by_cases z:R.length = m
    · rw [decide_eq_true z,decide_eq_true (by rw [z])]
    · rw [decide_eq_false z,decide_eq_false (fun q => z (by have:=V.int.inj q; omega))]
  rw [e]
  exact k
theorem sc_need_square:FnScope ["table"] ["table"] (defScope s_need_square):=⟨rfl,rfl,rfl,by decide +kernel,rfl,by decide +kernel,by decide +kernel⟩
theorem ok_need_squareR (h:Here K mg "need_square" s_need_square) (c_NoFit:ExcC K mg "NoFit" cF) (h_is_square:Has P w K mg base "is_square" 1 ["table"] sp_is_squareR):HasX P w K mg base "need_square" 2 ["table"] (sp_need_squareR cF):=by
  refine h.hasX (fun f fd F => F.binds fun _ _ _ _ _ _ us hl => by obtain ⟨_,rfl⟩:=len1 hl; exact rfl) fun f fd F => F.okx sc_need_square (fun vs H Q E h => ?_) (fun cdv A outer s H vs Q E hr h => ?_)
  · obtain ⟨_,_,_,_,_,rfl,_⟩:=h
    rfl
  obtain ⟨κ,a,rs,R,m,rfl,ta,k,kE⟩:=h
  refine ⟨_,(pss_one (ps_if (pt_not (pt_val (pe_has h_is_square hr (by rfl) (pa_cons (pv 0) pa_nil)))) (pss_one (ps_raise c_NoFit raiseE rfl (by rfl) (pa_cons pe_str pa_nil))) pss_nil)),?_⟩
  refine ⟨_,rfl,κ,a,rs,R,m,rfl,ta,_,rfl,?_⟩
  refine if_ndec (fun z => ?_) (fun z => k z)
  exact ⟨(by show 1 ≤ 1000; decide),kE z⟩
theorem sc_Iinit:FnScope ["self", "rank"] ["self", "rank"] (defScope s_NoInverse___init__):=⟨rfl,rfl,rfl,by decide +kernel,rfl,by decide +kernel,by decide +kernel⟩
theorem ok_Iinit {fd:FuncData} (F:Fun K "__init__" "NoInverse.__init__" s_NoInverse___init__ fI fd) (u:XUp K mg "FrameError" CE) (c:XIni K mg "NoInverse" cI CE fI) (hna:PySem.W.findIn K (.ref cI) "rank" = some none):FnOk P w K mg base CX0 1 fI fd ["self", "rank"] (sp_Iinit cI):=by
  refine F.ok sc_Iinit (fun vs H Q E h => ?_) (fun cdv A outer s H vs Q E hr h => ?_)
  · obtain ⟨_,_,rfl,_⟩:=h
    rfl
  obtain ⟨e,r,rfl,r9,he,k⟩:=h
  refine ⟨_,(pss_cons (ps_expr (pe_excInit u c (by rfl) (pa_cons (pv 0) (pa_cons (pe_fmt3 (pv 1)) pa_nil))))
    (pss_one (ps_fldE c hna (pv 0) (pv 1) rfl))),?_⟩
  have hz:∀ r:Nat,r ≤ 9 → ((r:Int)).natAbs.log2 < 1920 ∧ (Str.empty ++ Str.ofString "a table of rank " ++ Str.ofString (toString (r:Int))).length ≤ sizeLine ∧ (Str.empty ++ Str.ofString "a table of rank " ++ Str.ofString (toString (r:Int)) ++ Str.ofString ", less than its rows, has no inverse").length ≤ sizeLine:=by
    intro r hr
    rcases (by omega:r = 0 ∨ r = 1 ∨ r = 2 ∨ r = 3 ∨ r = 4 ∨ r = 5 ∨ r = 6 ∨ r = 7 ∨ r = 8 ∨ r = 9) with q | q | q | q | q | q | q | q | q | q <;> subst q <;> decide +kernel
  obtain ⟨z1,z2,z3⟩:=hz r r9
  refine ⟨_,rfl,_,rfl,(r:Int),rfl,z1,z2,z3,e,_,rfl,he,?_⟩
  exact ⟨_,rfl,_,rfl,e,rfl,he,fun d nd => k d nd⟩
theorem sc_inverse:FnScope ["kind", "table", "found"] ["kind", "table"] (defScope s_inverse):=⟨rfl,rfl,rfl,by decide +kernel,rfl,by decide +kernel,by decide +kernel⟩
theorem ok_inverse {fd:FuncData} (h:Here K mg "inverse" s_inverse) (T:Nm mg) (cI':XIni K mg "NoInverse" cI CE fI) (FI:FnOk P w K mg base CX0 1 fI fd ["self", "rank"] (sp_Iinit cI)) (bI:Binds K fd ["self", "rank"] []) (h_need_square:HasX P w K mg base "need_square" 8 ["table"] (sp_need_squareR cF)) (h_steps:Has P w K mg base "steps" 8 ["kind", "table"] (sp_steps CF CR)) (h_done:HasX P w K mg base "done" 8 ["kind", "table", "turns"] (sp_done CF CR cT)) (h_unit:Has P w K mg base "unit" 8 ["kind", "size"] (sp_unitX CF CR)):HasX P w K mg base "inverse" 9 ["kind", "table"] (sp_inverse CF CR cF cI):=by
  refine h.hasX (fun f fd F => F.binds fun _ _ _ _ _ _ us hl => by obtain ⟨_,_,rfl⟩:=len2 hl; exact rfl) fun f fd F => F.okx sc_inverse (fun vs H Q E h => ?_) (fun cdv A outer s H vs Q E hr h => ?_)
  · obtain ⟨_,_,_,_,_,_,rfl,_⟩:=h
    rfl
  obtain ⟨κ,sk,tb,rs,A,m,rfl,hk,ta,kF,kS⟩:=h
  have nd:=sc_inverse.nd
  refine ⟨_,(pss_cons (ps_expr (pe_hasX h_need_square passE hr (by rfl) (pa_cons (pv 1) pa_nil)))
    (pss_cons (ps_set (i:=2) nd rfl (Or.inl rfl) (pe_has h_steps hr (by rfl) (pa_cons (pv 0) (pa_cons (pv 1) pa_nil))))
    (pss_cons (ps_if (pt_cmpR op_lt (pe_callB call_len_seq (by rfl) T.len boot_len (pa_cons (pe_ix ix_tup (pv 2) pe_int (fun _ _ => rfl)) pa_nil)) (pe_callB call_len_seq (by rfl) T.len boot_len (pa_cons (pv 1) pa_nil)) (nomark _)) (pss_one (ps_raiseI cI' FI bI raiseED rfl (hr.mono (by decide)) (by rfl) (pa_cons (pe_callB call_len_seq (by rfl) T.len boot_len (pa_cons (pe_ix ix_tup (pv 2) pe_int (fun _ _ => rfl)) pa_nil)) pa_nil))) pss_nil)
    (pss_one (ps_ret (pe_hasX h_done passE hr (by rfl) (pa_cons (pv 0) (pa_cons (pe_has h_unit hr (by rfl) (pa_cons (pv 0) (pa_cons (pe_callB call_len_seq (by rfl) T.len boot_len (pa_cons (pv 1) pa_nil)) pa_nil))) (pa_cons (pe_ix ix_tup (pv 2) pe_int (fun _ _ => rfl)) pa_nil))))))))),?_⟩
  refine ⟨_,rfl,κ,tb,rs,A,m,rfl,ta,(fun sq => ?_),kF⟩
  obtain ⟨m7,R,ts0,ls,eA,lR,wR,ok0,ech,qt,kI,kQ⟩:=kS sq
  have lr:=ta.r.1
  have n1:=ta.n1
  have wA:=ta.w
  have lW:(wideR A (([]:List κ.F).map (1 * ·))).length = m:=by rw [wide_len]; exact sq
  have wW:=wide_wid (([]:List κ.F).map (1 * ·)) wA
  refine ⟨_,rfl,_,rfl,κ,sk,tb,rs,wideR A (([]:List κ.F).map (1 * ·)),m,m + 1 + A.length,rfl,hk,ta.l,(by rw [wide_take _ wA]; exact ta.r),wW,by omega,by omega,by omega,m7,by omega,qt,fun H1 t D u L rs' tvs ts ls' S1 ht hD rx' hU al hL ok' pre' l200 ech' stg nD nu nL nr' ndr nrd nDu nDL nuL => ?_⟩
  rw [lW] at ok' ech'
  have ech2:=ech_take ech'
  rw [w_take wA,eA] at ech2
  obtain ⟨el,run⟩:=one_form wR (by rw [lR]; exact ok0) (by rw [lR]; exact ok') (by rw [lR]; exact ech) (by rw [lR]; exact ech2)
  subst el
  have le:=ech2.le
  refine ⟨_,rfl,t,_,2,_,rfl,rfl,SqT.of ht,rfl,L,_,rfl,.inl (SqL.of hL),_,rfl,tb,_,rfl,.inl (SqL.of (S1 _ _ ta.l)),_,_,rfl,rfl,_,rfl,?_⟩
  rw [List.length_map,List.length_map,lr,sq]
  refine if_dec (fun z => ?_) (fun z => ?_)
  · have z:(ls'.length:Int) < (m:Int):=z
    refine ⟨_,rfl,t,_,2,_,rfl,rfl,SqT.of ht,rfl,L,_,rfl,.inl (SqL.of hL),(by show 1 ≤ 1000; decide),fun a na sa => ?_⟩
    rw [List.length_map]
    refine ⟨a,ls'.length,rfl,by omega,upd_same,fun d nd' => ⟨rfl,a,some d,upd H1 d (.xd [("rank", .int (ls'.length:Int))]),rfl,sa,?_,?_,?_⟩⟩
    · have hda:d ≠ a:=fun q => by rw [q,upd_same] at nd'; cases nd'
      funext b
      by_cases hb:b = a
      · subst hb; rw [upd_same,upd_same]
      · rw [upd_ne hb,upd_ne hb]
        by_cases hb2:b = d
        · subst hb2; rw [upd_same,upd_same]
        · rw [upd_ne hb2,upd_ne hb2,upd_ne hb]
    · have hda:a ≠ d:=fun q => by rw [← q,upd_same] at nd'; cases nd'
      rw [upd_ne hda]; exact na
    · have nd1:H1 d = none:=by
        have hda:d ≠ a:=fun q => by rw [q,upd_same] at nd'; cases nd'
        rw [upd_ne hda] at nd'; exact nd'
      exact kI (by omega) _ d (S1.trans (same_new nd1 _)) upd_same
  · have z:¬ ((ls'.length:Int) < (m:Int)):=z
    have full:ls'.length = m:=by omega
    refine ⟨_,rfl,_,rfl,_,rfl,tb,_,rfl,.inl (SqL.of (S1 _ _ ta.l)),?_⟩
    rw [List.length_map,lr,sq]
    refine ⟨κ,sk,m,rfl,hk.same S1,by omega,fun H2 D1 rs1 S2 nD1 hD1 rx1 => ?_⟩
    have lu:(unitT κ m).length = m:=unitT_len m
    have preU:∀ (i:Nat) t,ts[i]? = some t → t.pre (runT (ts.take i) (unitT κ m)):=fun i t hti => by
      have:=pre_drop (m + 1) (pre' i t hti)
      rw [w_unit wA,sq] at this
      exact Tn.preS.pre this
    refine ⟨_,rfl,t,_,1,_,rfl,rfl,SqT.of (S2 _ _ ht),rfl,κ,sk,D1,u,rs1,unitT κ m,tvs,ts,m,rfl,hk.same (S1.trans S2),hD1,rx1,by omega,unitT_wid m,by omega,S2 _ _ hU,al.mono (fun _ _ n => n.same S2),fun i t hti _ => preU i t hti,fun _ H3 D3 as S3 nD3 hD3 rx3 nda nDa fra => ?_,fun ⟨t,hti,z⟩ => absurd (by rw [lu]; exact ok' t hti) z⟩
    have S03:=S1.trans S2
    exact kQ full H3 D3 as ts (S03.trans S3) (S03.free nD3) hD3 rx3 nda nDa (fun a ha => S03.free (fra a ha)) ok' (by rw [← eA] at run ⊢; exact run)
end
end My
set_option maxHeartbeats 1000000
namespace My
open PySem L2 PyProof.Rows
section
variable {κ:KX}
noncomputable def downRow (N s n:Nat) (f:List κ.F):List κ.F:=List.replicate s 0 ++ f ++ List.replicate (N - s - n) 0
noncomputable def setDn (N:Nat):Nat → List (List (List κ.F)) → List (List κ.F)
  | _,[] => []
  | s,T :: Ts => T.map (downRow N s T.length) ++ setDn N (s + T.length) Ts
noncomputable def fullR (N i:Nat) (x:κ.F) (b:Bool):List κ.F:=(List.range N).map fun j => if j = i then x else if b = true ∧ j + 1 = i then 1 else 0
noncomputable def nblk (x:κ.F) (n:Nat):List (List κ.F):=(List.range n).map fun p => (List.range n).map fun c => if c = p then x else if c + 1 = p then 1 else 0
noncomputable def dsc (bl:List (κ.F × Nat)):List (κ.F × Bool):=bl.flatMap fun d => (List.range d.2).map fun k => (d.1,decide (0 < k))
noncomputable def nearT (bl:List (κ.F × Nat)):List (List κ.F):=(dsc bl).mapIdx fun i d => fullR (dsc bl).length i d.1 d.2
noncomputable def rowL (i:Nat) (d:κ.F × Bool):List κ.F:=if d.2 = true then (List.replicate i 0 ++ [d.1]).set (i - 1) 1 else List.replicate i 0 ++ [d.1]
noncomputable def rowsL (ds:List (κ.F × Bool)):List (List κ.F):=ds.mapIdx rowL
end
end My
namespace My
open PySem L2 PyProof.Rows
theorem RowsX.cat {κ:KX} {H:Hp} {as bs:List Addr} {R S:List (List κ.F)} (h:RowsX κ H as R) (g:RowsX κ H bs S):RowsX κ H (as ++ bs) (R ++ S):=by
  have l:=h.1
  have l2:=g.1
  refine ⟨by rw [List.length_append,List.length_append,l,l2],fun i a f ha hf => ?_⟩
  by_cases hi:i < as.length
  · rw [List.getElem?_append_left hi] at ha
    rw [List.getElem?_append_left (by omega)] at hf
    exact h.2 i a f ha hf
  · rw [List.getElem?_append_right (by omega)] at ha hf
    rw [← l] at hf
    exact g.2 _ a f ha hf
end My
namespace L2
open PySem PySem.Spec PyProof.Rows
section
variable {X:Cx} {e st:Expr} {te ts:TE} {pos p2:Pos}
end
section
variable {X:Cx} {k:Nat}
end
end L2
namespace L2
open PySem PySem.Spec PyProof.Rows
def Itd (hi:Int) (n:Nat):It:=⟨fun i _ => i < n,fun i H x H' => H' = H ∧ x = .int (hi - i),fun i _ => n ≤ i⟩
theorem turn_down {P:Program} {w:World} {K:PySem.W.Frag} {tg:Expr} (it:Addr) (lo:Int) (n:Nat):Turn P w K tg (Itd lo n) [it] it (fun i h => IsRangeIter h it (lo + (i:Nat) * (-1)) ((n:Int) - (i:Nat)) (-1)) where
  mem:=by simp
  obj:=fun i h st b hb => by
    have e:b = it:=by simpa using hb
    subst e
    exact ⟨_,st,fun v z => by
      have z':Data.fields _ = Data.cell v:=z
      cases z'⟩
  keep:=fun i h h' st k => k it (by simp) _ st
  item:=by
    intro X hP hw hK hc i pins s σ H E I hf st hg
    subst hP hw hK
    obtain ⟨f0,f1,f2,f3,f4,f5⟩:=hf it (by simp)
    have W:=Walks.range (prog:=X.prog) (w:=X.w) (I.ok.hd hc) it lo (-1) n
    refine W.item i s _ _ hg st fun v h' tk hv st' kk => ?_
    obtain ⟨t,rfl⟩:=hv
    have I1:Inv X pins σ H { s with heap:=h',toks:=tk }:=I.turned (fun b o hb e => kk b o (by simpa using hb) e) f0 f1 f3 f4 f5
    refine ⟨_,rfl,go_of (s:={ s with heap:=h',toks:=tk }) (n := "range_iterator") st' rfl rfl (by decide) ⟨.int (lo - i),H,I1,⟨t,?_⟩,⟨rfl,rfl⟩,st',fun b hb => (hf b hb).1⟩⟩
    congr 1
    omega
  done:=by
    intro X hP hw hK hc i pins s σ H E I hf st hg
    subst hP hw hK
    obtain ⟨f0,f1,f2,f3,f4,f5⟩:=hf it (by simp)
    exact wpAny_pyNext_range_end (I.ok.hd hc) st (by have:n ≤ i:=hg; omega) fun h' eb => ⟨rfl,I.turned (t':=s.toks) (fun b o hb e => eb b o hb e) f0 f1 f3 f4 f5⟩
  self:=fun _ _ _ _ _ st h => wpAny_pyIter_rangeiter st h
section
variable {X:Cx} {tg:Expr}
theorem size_down (a b:Int):Builtin.Range.rangeSize a b (-1) = ((a - b).toNat:Int):=by
  unfold Builtin.Range.rangeSize
  simp only [show ¬ ((-1:Int) > 0) by decide,if_false,show (-(-1):Int) = 1 from rfl,Int.ediv_one]
  split <;> omega
theorem small_dn {a b:Int} (ha:-(2 ^ 62) ≤ a) (ha':a < 2 ^ 62) (hb:-(2 ^ 62) ≤ b) (hb':b < 2 ^ 62):Builtin.Range.small a b (-1) = true:=by
  unfold Builtin.Range.small
  rw [size_down]
  simp only [Builtin.Range.rangeFitsLong,Bool.and_eq_true,Bool.or_eq_true,decide_eq_true_eq,beq_iff_eq,show ¬ ((-1:Int) > 0) by decide,if_false]
  omega
theorem range_dn {pins:List (Addr × Obj)} {σ:St} {H:Hp} {s:Shared} {R:It → Hp → Prop} {E:Value → Shared → Prop} {lo hi:Int} {t u v:Tok} {tk:Nat} (I:Inv X pins σ H s) (h1:-(2 ^ 62) ≤ lo) (h2:lo < 2 ^ 62) (h3:-(2 ^ 62) ≤ hi) (h4:hi < 2 ^ 62)
    (q:R (Itd lo (lo - hi).toNat) H):wpAny (model X.prog X.w) X.A (pyIter (.ref s.heap.objs.size)) (PIE X pins σ tg R) E { s with heap:=s.heap.push { cls:=.type "range", data:=.fields #[.int lo t,.int hi u,.int (-1) v] },toks:=tk }:=by
  refine wpAny_pyIter_range (IsRange.new ..) (small_dn h1 h2 h3 h4) ?_
  have I1:Inv X pins σ H { s with heap:=s.heap.push { cls:=.type "range", data:=.fields #[.int lo t,.int hi u,.int (-1) v] },toks:=tk }:=I.kept fun b o e => Heap.get?_push_of_some _ e
  refine ⟨(s.heap.push { cls:=.type "range", data:=.fields #[.int lo t,.int hi u,.int (-1) v] }).objs.size,[(s.heap.push { cls:=.type "range", data:=.fields #[.int lo t,.int hi u,.int (-1) v] }).objs.size],_,_,H,rfl,
    I1.kept (t':=tk) fun b o e => Heap.get?_push_of_some _ e,turn_down _ lo (lo - hi).toNat,?_,fun b hb => ?_,q⟩
  · have e1:lo + ((0:Nat):Int) * (-1) = lo:=by simp
    have e2:(((lo - hi).toNat:Nat):Int) - ((0:Nat):Int) = Builtin.Range.rangeSize lo hi (-1):=by rw [size_down]; omega
    show IsRangeIter _ _ (lo + ((0:Nat):Int) * (-1)) ((((lo - hi).toNat:Nat):Int) - ((0:Nat):Int)) (-1)
    rw [e1,e2]
    exact Heap.get?_push_size _ rfl
  · have e:b = (s.heap.push { cls:=.type "range", data:=.fields #[.int lo t,.int hi u,.int (-1) v] }).objs.size:=by simpa using hb
    subst e
    exact I1.fpOk (Nat.le_refl _) (I1.hok.fresh (Nat.le_refl _))
def iRngD (ta:TA):TI:=fun σ H R => ta σ H fun vs H1 => ∃ i j:Int,vs = [.int i,.int j,.int (-1)] ∧ (-(2 ^ 62) ≤ i ∧ i < 2 ^ 62 ∧ -(2 ^ 62) ≤ j ∧ j < 2 ^ 62) ∧ R (Itd i (i - j).toNat) H1
theorem pi_rangeD {a b c:Expr} {ta:TA} {p pos:Pos} (hg:Gl X "range") (hm:X.mg "range" = none) (ha:PA X [a,b,c] ta) (hs:starEach [a,b,c] X.env = [(false,eval a X.env),(false,eval b X.env),(false,eval c X.env)]:=by rfl) (hs2:starEach [b,c] X.env = [(false,eval b X.env),(false,eval c X.env)]:=by rfl) :
    PI X tg (.Call (.Name "range" p) [a,b,c] [] pos) (iRngD ta):=by
  intro pins s σ H R I h
  refine Call_ (ld_blt I hg hm boot_range (PyProof.Rows.callWith_type1 (thn (ha pos pins s σ H _ I h) fun us s1 ⟨vs,H1,I1,r1,q1⟩ => ?_) (by rw [hs,hs2]) (by rw [hs2]; rfl)))
  obtain ⟨i,j,e,⟨q1,q2,q3,q4⟩,q⟩:=q1
  subst e
  cases r1 with
  | cons r rr =>
    cases rr with
    | cons r' rr =>
      cases rr with
      | cons r'' rr =>
        cases rr
        obtain ⟨t,rfl⟩:=r
        obtain ⟨t',rfl⟩:=r'
        obtain ⟨t'',rfl⟩:=r''
        exact call_range_3 (by decide) (range_dn I1 q1 q2 q3 q4 q) (Or.inl (PyProof.noPylong_of_log2 (by decide +kernel)))
theorem for_down {hi:Int} {n:Nat} {g:TG} {tb:TS} {D:Ends} {σ:St} {H:Hp} (Pv:Nat → St → Hp → Prop) (h0:Pv 0 σ H)
    (hs:∀ i σ H,i < n → Pv i σ H → g (.int (hi - i)) σ H fun σ2 H2 => tb { D with nx:=Pv (i + 1),ct:=Pv (i + 1),bk:=D.nx } σ2 H2) (hd:∀ σ H,Pv n σ H → D.nx σ H) :
    ∃ W:Nat → Nat → St → Hp → Prop,(∃ m,W 0 m σ H) ∧ ∀ i m σ H,W i m σ H →
      ((Itd hi n).stop i H ∧ D.nx σ H) ∨ ((Itd hi n).go i H ∧ ∃ N:St → Hp → Prop,(∀ σ' H',N σ' H' → ∃ m',m' < m ∧ W (i + 1) m' σ' H') ∧ ∀ x H',(Itd hi n).yld i H x H' → g x σ H' fun σ2 H2 => tb { D with nx:=N,ct:=N,bk:=D.nx } σ2 H2):=by
  refine ⟨fun i m σ H => m = n - i ∧ i ≤ n ∧ Pv i σ H,⟨_,rfl,Nat.zero_le _,h0⟩,?_⟩
  rintro i m σ H ⟨rfl,hi',p⟩
  by_cases h:i < n
  · refine .inr ⟨h,Pv (i + 1),fun σ' H' p' => ⟨n - (i + 1),by omega,rfl,h,p'⟩,fun x H' y => ?_⟩
    obtain ⟨e1,e2⟩:=y
    subst e1 e2
    exact hs i σ _ h p
  · have e:i = n:=by omega
    subst e
    exact .inl ⟨Nat.le_refl _,hd σ H p⟩
end
section
variable {prog:Program} {w:World} {A:Around} {s:Shared} {R:Result → Shared → Prop}
end
section
variable {prog:Program} {w:World} {A:Around} {E:Value → Shared → Prop} {s:Shared}
end
section
variable {X:Cx} {e1:Expr} {ta:TA} {p p2 pos pos2:Pos}
end
end L2
set_option maxHeartbeats 1000000
namespace My
open PySem L2 PyProof.Rows
section
variable {κ:KX}
def QN (κ:KX) (D:Int) (M:Nat) (x:κ.F):Prop:=match κ with
  | .q => ∃ X:Int,x = Rat.divInt X D ∧ X.natAbs ≤ M
  | .r _ _ => True
theorem QN.mono {D:Int} {M N:Nat} {x:κ.F} (h:QN κ D M x) (l:M ≤ N):QN κ D N x:=by
  cases κ with
  | r p hp => exact trivial
  | q => obtain ⟨X,e,hX⟩:=h; exact ⟨X,e,Nat.le_trans hX l⟩
theorem QN.mul {D E:Int} {M N:Nat} {x y:κ.F} (h:QN κ D M x) (g:QN κ E N y):QN κ (D * E) (M * N) (x * y):=by
  cases κ with
  | r p hp => exact trivial
  | q =>
    obtain ⟨X,rfl,hX⟩:=h
    obtain ⟨Y,rfl,hY⟩:=g
    exact ⟨X * Y,Rat.divInt_mul_divInt _ _,by rw [Int.natAbs_mul]; exact Nat.mul_le_mul hX hY⟩
theorem QN.add {D:Int} (hD:0 < D) {M N:Nat} {x y:κ.F} (h:QN κ D M x) (g:QN κ D N y):QN κ D (M + N) (x + y):=by
  cases κ with
  | r p hp => exact trivial
  | q =>
    obtain ⟨X,rfl,hX⟩:=h
    obtain ⟨Y,rfl,hY⟩:=g
    refine ⟨X + Y,?_,Nat.le_trans (Int.natAbs_add_le X Y) (Nat.add_le_add hX hY)⟩
    show Rat.divInt X D + Rat.divInt Y D = _
    rw [Rat.divInt_add_divInt _ _ (by omega) (by omega),Rat.divInt_eq_divInt_iff (Int.ne_of_gt (Int.mul_pos hD hD)) (by omega),← Int.add_mul,Int.mul_assoc]
theorem QN.zero {D:Int} {M:Nat}:QN κ D M 0:=by
  cases κ with
  | r p hp => exact trivial
  | q => exact ⟨0,(Rat.zero_divInt D).symm,Nat.zero_le _⟩
theorem QN.b1 {D:Int} (hD:0 < D) (lD:D.natAbs < 2 ^ 3000) {M:Nat} (lM:M < 2 ^ 3000) {x:κ.F} (h:QN κ D M x):B1 κ x:=by
  cases κ with
  | r p hp => exact trivial
  | q =>
    obtain ⟨X,rfl,hX⟩:=h
    obtain ⟨d1,d2⟩:=divInt_sz X hD
    refine ⟨?_,?_⟩
    · show Bits 1000000 (Rat.divInt X D).num
      exact bits_dvd d2 ((Bits.of (n:=3000) (Nat.lt_of_le_of_lt hX lM)).up (by decide)) (num_zero X hD)
    · show Bits 4000 ((Rat.divInt X D).den:Int)
      exact bits_dvd d1 ((Bits.of (n:=3000) lD).up (by decide)) (fun z => by omega)
theorem qn_one {κ:KX}:QN κ 1 1 1:=by
  cases κ with
  | r p hp => exact trivial
  | q => exact ⟨1,rfl,Nat.le_refl _⟩
noncomputable def pI (F G:List κ.F) (i:Nat):Nat → Nat → κ.F
  | 0,_ => 0
  | j + 1,k => pI F G i j k + (if i + j = k then F.getD i 0 * G.getD j 0 else 0)
noncomputable def pO (F G:List κ.F):Nat → Nat → κ.F
  | 0,_ => 0
  | i + 1,k => pO F G i k + pI F G i G.length k
noncomputable def told (F G:List κ.F) (i j:Nat):List κ.F:=(List.range (F.length + G.length)).map fun k => pO F G i k + pI F G i j k
theorem add00 {κ:KX}:(0:κ.F) + 0 = 0:=by grind
noncomputable def cmpR (f:List κ.F) (d i:Nat):List κ.F:=(List.range d).map fun c => if c + 1 = d then 0 - f.getD i 0 else if c + 1 = i then 1 else 0
noncomputable def cmpT (f:List κ.F):List (List κ.F):=(List.range (f.length - 1)).map fun i => cmpR f (f.length - 1) i
noncomputable def atE:List (List κ.F) → Nat → Nat → Nat → κ.F
  | [],_,_,_ => 0
  | f :: fs,s,i,j => if s ≤ i ∧ i < s + (f.length - 1) ∧ j + 1 = s + (f.length - 1) then 0 - f.getD (i - s) 0 else if s ≤ i ∧ i < s + (f.length - 1) ∧ s ≤ j then (if i = j + 1 then 1 else 0) else atE fs (s + (f.length - 1)) i j
end
end My
set_option maxHeartbeats 1000000
namespace My
open PySem L2 PyProof.Rows
theorem bl_yes {p:Prop} [Decidable p] {Q:V → Hp → Prop} {H:Hp} (h:p) (k:Q (.bl true) H):Q (.bl (decide p)) H:=by rw [decide_eq_true h]; exact k
def spF:Sp:=fun _ _ _ _ => False
end My
set_option maxHeartbeats 1000000
namespace My
open PySem L2 PyProof.Rows
theorem gd_getF {κ:KX} {l:List κ.F} {i:Nat} (h:i < l.length):l[i]? = some (l.getD i 0):=by
  rw [List.getD_eq_getElem?_getD,List.getElem?_eq_getElem h]; rfl
theorem all_num {κ:KX} {H:Hp} {xs:List V} {f:List κ.F} (h:AllG (NR κ H) xs f) {i:Nat} (hi:i < f.length):∃ v,xs[i]? = some v ∧ NR κ H v (f.getD i 0):=by
  obtain ⟨v,hv⟩:=get_of_lt (gd_getF hi) h.1.symm
  obtain ⟨x,hx,nx⟩:=h.get hv
  rw [gd_getF hi] at hx
  cases hx
  exact ⟨v,hv,nx⟩
end My
set_option maxHeartbeats 1000000
namespace My
open PySem L2 PyProof.Rows
end My
set_option maxHeartbeats 1000000
namespace My
open PySem L2 PyProof.Rows
section
variable {κ:KX}
noncomputable def dotK (f g:List κ.F):Nat → κ.F
  | 0 => 0
  | k + 1 => dotK f g k + f.getD k 0 * g.getD k 0
noncomputable def dotF (f g:List κ.F):κ.F:=dotK f g f.length
theorem dotK_succ {f g:List κ.F} {i:Nat} {x y:κ.F} (hx:f[i]? = some x) (hy:g[i]? = some y):dotK f g (i + 1) = dotK f g i + x * y:=by
  show dotK f g i + f.getD i 0 * g.getD i 0 = _
  rw [List.getD_eq_getElem?_getD,List.getD_eq_getElem?_getD,hx,hy]; rfl
theorem dotK_qn {D E:Int} {M N:Nat} {f g:List κ.F} (hDE:0 < D * E) (hf:∀ x ∈ f,QN κ D M x) (hg:∀ x ∈ g,QN κ E N x):∀ k,k ≤ f.length → k ≤ g.length → QN κ (D * E) (k * (M * N)) (dotK f g k)
  | 0,_,_ => QN.zero
  | k + 1,h1,h2 => by
    rw [Nat.succ_mul]
    have a:f.getD k 0 ∈ f:=by rw [List.getD_eq_getElem?_getD,List.getElem?_eq_getElem (show k < f.length by omega)]; exact List.getElem_mem _
    have b:g.getD k 0 ∈ g:=by rw [List.getD_eq_getElem?_getD,List.getElem?_eq_getElem (show k < g.length by omega)]; exact List.getElem_mem _
    exact QN.add hDE (dotK_qn hDE hf hg k (by omega) (by omega)) (QN.mul (hf _ a) (hg _ b))
end
def tS (f g:List Rat) (A C:Int):Nat → Int
  | 0 => 0
  | k + 1 => tS f g A C k + (f.getD k 0).num * (A / (f.getD k 0).den) * (g.getD k 0).num * (C / (g.getD k 0).den)
def sp_RdotX (CR:Addr):Sp:=fun vs H Q _ => ∃ (p:Nat) (hp:PrN p) (s r1 r2:Addr) (xs ys:List V) (f g:List (KX.r p hp).F),vs = [.ref s,.ref r1,.ref r2] ∧ ReA CR p H s ∧ H r1 = some (.lst xs) ∧ H r2 = some (.lst ys) ∧ AllG (NR (.r p hp) H) xs f ∧ AllG (NR (.r p hp) H) ys g ∧ f.length = g.length ∧ f.length ≤ 100 ∧ ∀ H' v,Same H H' → NR (.r p hp) H' v (dotF f g) → Q v H'
def MethDot (P:Program) (w:World) (K:PySem.W.Frag) (mg:Str → Option Value) (base:Heap) (CF CR:Addr):Prop :=
  ∀ (κ:KX) (H:Hp) (s:Addr),KdX CF CR κ H s → ∃ C dx fs ps dvs sp,H s = some (.ins C dx fs) ∧ Cls K C ∧ HasM P w K mg base C "sum_of_products" 3 ps dvs sp ∧ fs.lookup ("sum_of_products" : Str) = none ∧ dvs = [] ∧
    ∀ (H':Hp) (r1 r2:Addr) (xs ys:List V) (f g:List κ.F) (D E M N:Nat) (Q:VK),Same H H' → H' r1 = some (.lst xs) → H' r2 = some (.lst ys) → AllG (NR κ H') xs f → AllG (NR κ H') ys g → f.length = g.length → f.length ≤ 100 → (∀ x ∈ f,QN κ (D:Int) M x) → (∀ x ∈ g,QN κ (E:Int) N x) → 0 < D → D ≤ 10 ^ 200 → 0 < E → E ≤ 10 ^ 200 → M ≤ 10 ^ 500 → N ≤ 10 ^ 500 → (∀ H'' v,Same H' H'' → NR κ H'' v (dotF f g) → Q v H'') → sp [.ref s,.ref r1,.ref r2] H' Q E0
end My
namespace My
open PySem L2 PyProof.Rows
section
variable {P:Program} {w:World} {K:PySem.W.Frag} {mg:Str → Option Value} {base:Heap} {CF CR:Addr}
end
section
variable {P:Program} {w:World} {K:PySem.W.Frag} {mg:Str → Option Value} {base:Heap} {CF CR cN:Addr}
theorem sc_Rests_sum_of_products:FnScope ["self", "some", "others"] ["self", "some", "others"] (defScope s_Rests_sum_of_products):=⟨rfl,rfl,rfl,by decide +kernel,rfl,by decide +kernel,by decide +kernel⟩
theorem ok_RdotX (h:HereM K CR "sum_of_products" "Rests.sum_of_products" s_Rests_sum_of_products) (cl:Cls K CR) (nP:NoAttr K CR "prime") (Tz:mg "zip" = none) (Ts:mg "sum" = none):HasM P w K mg base CR "sum_of_products" 3 ["self", "some", "others"] [] (sp_RdotX CR):=by
  refine h.hasM (fun f fd F => F.binds fun _ _ _ _ _ _ us hl => by obtain ⟨_,_,_,rfl⟩:=len3 hl; exact rfl) fun f fd F => F.ok sc_Rests_sum_of_products (fun vs H Q E h => ?_) (fun cdv A outer s H vs Q E hr h => ?_)
  · obtain ⟨_,_,_,_,_,_,_,_,_,rfl,_⟩:=h
    rfl
  obtain ⟨p,hp,sr,r1,r2,xs,ys,f1,f2,rfl,⟨dx,hs⟩,h1,h2,al1,al2,lfg,l100,k⟩:=h
  refine ⟨_,(pss_one (ps_ret (pe_op op_modN (pe_callB (call_sum rfl) (by rfl) Ts boot_sum (pa_cons (pe_comp ["one", "other"] [] rfl (pi_zip (by rfl) Tz (pa_cons (pv 1) (pa_cons (pv 2) pa_nil))) (by exact fun _ _ _ _ => (pg_tupK (n:=2) K rfl rfl (pgs_cons (pg_name (i:=0) (show (["one", "other"]:List Str).Nodup by decide +kernel) rfl (Or.inl rfl)) (pgs_cons (pg_name (i:=1) (show (["one", "other"]:List Str).Nodup by decide +kernel) rfl (Or.inl rfl)) pgs_nil)))) (by exact fun _ _ _ _ => (pe_op op_mulO (pv 0) (pv 1))) trivial) pa_nil)) (pe_fld (pv 0) rfl)))),?_⟩
  have lx:=al1.1
  have ly:=al2.1
  have h2':=hp.two
  refine ⟨_,rfl,_,rfl,r1,r2,rfl,⟨_,SqL.of h1⟩,⟨_,SqL.of h2⟩,?_⟩
  refine comp_zip2 (K:=K) (a:=r1) (b:=r2) (xs:=xs) (ys:=ys) (fun i zs H2 => Same H H2 ∧ ∃ ms:List Int,zs = ms.map V.int ∧ (ms.sum % p:Int) = ((Fin.val (dotK f1 f2 i:Fin p):Nat):Int)) (by omega) ⟨Same.refl H,[],rfl,?_⟩ (fun i zs H2 q => ⟨SqL.of (q.1 _ _ h1),SqL.of (q.1 _ _ h2)⟩) ?_ ?_
  · show (0:Int) % p = ((Fin.val (K0 (.r p hp)):Nat):Int)
    rw [zero_val]; simp
  · rintro i u v Tp zs H2 hx hy hl nT ⟨S,ms,rfl,es⟩
    obtain ⟨x,hx',e1⟩:=al1.get hx
    obtain ⟨y,hy',e2⟩:=al2.get hy
    have e1:u = .int (Fin.val (x:Fin p)):=e1
    have e2:v = .int (Fin.val (y:Fin p)):=e2
    subst e1 e2
    have ST:=same_new nT (.tup [.int (Fin.val (x:Fin p)),.int (Fin.val (y:Fin p))])
    generalize upd H2 Tp (.tup [.int (Fin.val (x:Fin p)),.int (Fin.val (y:Fin p))]) = H3 at *
    refine ⟨_,rfl,_,rfl,_,_,rfl,rfl,mul_fit (rest_small hp x) (rest_small hp y),S.trans ST,ms ++ [(Fin.val (x:Fin p):Int) * Fin.val (y:Fin p)],by simp,?_⟩
    have ed:(dotK f1 f2 (i + 1):Fin p) = (dotK f1 f2 i:Fin p) + (x:Fin p) * (y:Fin p):=dotK_succ hx' hy'
    rw [ed,Fin.val_add,Fin.val_mul,List.sum_append]
    simp only [List.sum_cons,List.sum_nil,Int.add_zero]
    rw [Int.add_emod,es,Int.natCast_emod,Int.natCast_add,Int.natCast_emod,Int.natCast_mul,Int.add_emod (Fin.val (dotK f1 f2 i:Fin p):Int)]
    first | done | simp
  · rintro zs H2 hl ⟨S,ms,rfl,es⟩ D hD
    have S4:=S.trans (same_new hD (.lst (ms.map V.int)))
    refine ⟨D,_,rfl,SqL.of upd_same,?_⟩
    refine ⟨_,rfl,sr,CR,dx,_,_,rfl,S4 _ _ hs,cl,nP,fsR_prime p,_,_,rfl,rfl,(show (p:Int) ≠ 0 by omega),?_⟩
    show Q (V.int (ms.sum.fmod p)) _
    refine k _ _ S4 ?_
    show V.int (ms.sum.fmod p) = V.int ((Fin.val (dotK f1 f2 f1.length:Fin p):Nat):Int)
    rw [Int.fmod_eq_emod_of_nonneg _ (by omega),es]
    congr 4
    omega
theorem meth_dot (kd:Kd K mg CF CR) (hR:HasM P w K mg base CR "sum_of_products" 3 ["self", "some", "others"] [] (sp_RdotX CR)):MethDot P w K mg base CF CR:=by
  intro κ H s hk
  cases κ with
  | q => exact hk.elim
  | r p hp =>
    obtain ⟨dx,h⟩:=hk
    exact ⟨CR,dx,fsR p,_,_,_,h,kd.clR,hR,fsR_no _ (by decide),rfl,fun H' r1 r2 xs ys f g D E M N Q S h1 h2 a1 a2 lfg l100 qf qg d0 dl e0 el ml nl k => ⟨p,hp,s,r1,r2,xs,ys,f,g,rfl,⟨dx,S _ _ h⟩,h1,h2,a1,a2,lfg,l100,k⟩⟩
end
end My
set_option maxHeartbeats 1000000
namespace My
open PySem L2 PyProof.Rows
section
variable {κ:KX}
noncomputable def colF (B:List (List κ.F)) (j:Nat):List κ.F:=B.map fun r => r.getD j 0
noncomputable def turnF (B:List (List κ.F)) (m:Nat):List (List κ.F):=(List.range m).map (colF B)
noncomputable def mulT (A B:List (List κ.F)) (m:Nat):List (List κ.F):=A.map fun r => (turnF B m).map fun c => dotF c r
noncomputable def sclT (c:κ.F) (A:List (List κ.F)):List (List κ.F):=A.map fun r => r.map (c * ·)
noncomputable def addT (A B:List (List κ.F)):List (List κ.F):=List.zipWith (fun f g => List.zipWith (· + ·) f g) A B
theorem colF_len (B:List (List κ.F)) (j:Nat):(colF B j).length = B.length:=by unfold colF; simp
theorem turnF_len (B:List (List κ.F)) (m:Nat):(turnF B m).length = m:=by unfold turnF; simp
theorem turnF_wid (B:List (List κ.F)) (m:Nat):Wid B.length (turnF B m):=fun f hf => by
  unfold turnF at hf
  obtain ⟨j,_,rfl⟩:=List.mem_map.mp hf
  exact colF_len _ _
theorem mulT_len (A B:List (List κ.F)) (m:Nat):(mulT A B m).length = A.length:=by unfold mulT; simp
theorem mulT_wid (A B:List (List κ.F)) (m:Nat):Wid m (mulT A B m):=fun f hf => by
  unfold mulT at hf
  obtain ⟨r,_,rfl⟩:=List.mem_map.mp hf
  rw [List.length_map,turnF_len]
theorem sclT_len (c:κ.F) (A:List (List κ.F)):(sclT c A).length = A.length:=by unfold sclT; simp
theorem sclT_wid {m:Nat} {A:List (List κ.F)} (h:Wid m A) (c:κ.F):Wid m (sclT c A):=fun f hf => by
  unfold sclT at hf
  obtain ⟨r,hr,rfl⟩:=List.mem_map.mp hf
  rw [List.length_map]; exact h r hr
theorem mem_colF {Pr:κ.F → Prop} {B:List (List κ.F)} {m j:Nat} (wd:Wid m B) (hj:j < m) (h:AllR Pr B):∀ x ∈ colF B j,Pr x:=fun x hx => by
  unfold colF at hx
  obtain ⟨r,hr,rfl⟩:=List.mem_map.mp hx
  exact h r hr _ (by
    have:=wd r hr
    rw [List.getD_eq_getElem?_getD,List.getElem?_eq_getElem (show j < r.length by omega)]; exact List.getElem_mem _)
end
structure TabL (κ:KX) (H:Hp) (a:Addr) (rs:List Addr) (R:List (List κ.F)) (m:Nat):Prop where
  l:H a = some (.lst (rs.map V.ref))
  r:RowsX κ H rs R
  w:Wid m R
  n1:1 ≤ R.length
  n9:R.length ≤ 100
  m9:m ≤ 100
theorem TabL.same {κ:KX} {H H':Hp} {a:Addr} {rs:List Addr} {R:List (List κ.F)} {m:Nat} (h:TabL κ H a rs R m) (S:Same H H'):TabL κ H' a rs R m:=⟨S _ _ h.l,h.r.same S,h.w,h.n1,h.n9,h.m9⟩
theorem TabL.fst {κ:KX} {H:Hp} {a:Addr} {rs:List Addr} {R:List (List κ.F)} {m:Nat} (h:TabL κ H a rs R m):∃ a0 xs f,rs[0]? = some a0 ∧ R[0]? = some f ∧ H a0 = some (.lst xs) ∧ AllG (NR κ H) xs f ∧ xs.length = m:=by
  have n1:=h.n1
  have hf:R[0]? = some R[0]:=List.getElem?_eq_getElem (by omega)
  obtain ⟨a0,ha⟩:=get_of_lt hf h.r.1.symm
  obtain ⟨xs,hx,al⟩:=h.r.2 0 a0 _ ha hf
  exact ⟨a0,xs,_,ha,hf,hx,al,by rw [al.1]; exact h.w _ (List.getElem_mem _)⟩
def sp_column_atX:Sp:=fun vs H Q _ => ∃ (κ:KX) (a:Addr) (rs:List Addr) (R:List (List κ.F)) (m j:Nat),vs = [.ref a,.int (j:Int)] ∧ TabL κ H a rs R m ∧ j < m ∧ ∀ (H':Hp) (D:Addr) (ys:List V),Same H H' → H D = none → H' D = some (.lst ys) → AllG (NR κ H') ys (colF R j) → Q (.ref D) H'
def sp_turnedX:Sp:=fun vs H Q _ => ∃ (κ:KX) (a:Addr) (rs:List Addr) (R:List (List κ.F)) (m:Nat),vs = [.ref a] ∧ TabL κ H a rs R m ∧ ∀ (H':Hp) (D:Addr) (rs':List Addr),Same H H' → H' D = some (.lst (rs'.map V.ref)) → RowsX κ H' rs' (turnF R m) → Q (.ref D) H'
def sp_scaledX (CF CR:Addr):Sp:=fun vs H Q _ => ∃ (κ:KX) (s a:Addr) (cv:V) (c:κ.F) (rs:List Addr) (R:List (List κ.F)) (m:Nat),vs = [.ref s,cv,.ref a] ∧ KdX CF CR κ H s ∧ NR κ H cv c ∧ B1 κ c ∧ TabL κ H a rs R m ∧ AllR (B1 κ) R ∧ ∀ (H':Hp) (D:Addr) (rs':List Addr),Same H H' → TabL κ H' D rs' (sclT c R) m → (∀ a ∈ rs',H a = none) → H D = none → Q (.ref D) H'
def sp_sums_withX (CF CR:Addr):Sp:=fun vs H Q _ => ∃ (κ:KX) (s a c:Addr) (rs:List Addr) (R:List (List κ.F)) (xs:List V) (f:List κ.F) (D E M N:Nat),vs = [.ref s,.ref a,.ref c] ∧ KdX CF CR κ H s ∧ H a = some (.lst (rs.map V.ref)) ∧ RowsX κ H rs R ∧ Wid f.length R ∧ R.length ≤ 100 ∧ f.length ≤ 100 ∧ H c = some (.lst xs) ∧ AllG (NR κ H) xs f ∧ AllR (QN κ (D:Int) M) R ∧ (∀ x ∈ f,QN κ (E:Int) N x) ∧ 0 < D ∧ D ≤ 10 ^ 200 ∧ 0 < E ∧ E ≤ 10 ^ 200 ∧ M ≤ 10 ^ 500 ∧ N ≤ 10 ^ 500 ∧ ∀ (H':Hp) (D:Addr) (ys:List V),Same H H' → H' D = some (.lst ys) → AllG (NR κ H') ys (R.map fun r => dotF r f) → Q (.ref D) H'
def sp_times_tableX (CF CR:Addr):Sp:=fun vs H Q _ => ∃ (κ:KX) (s a b:Addr) (rs rs2:List Addr) (R R2:List (List κ.F)) (m:Nat) (D E M N:Nat),vs = [.ref s,.ref a,.ref b] ∧ KdX CF CR κ H s ∧ TabL κ H a rs R R2.length ∧ TabL κ H b rs2 R2 m ∧ AllR (QN κ (D:Int) M) R ∧ AllR (QN κ (E:Int) N) R2 ∧ 0 < D ∧ D ≤ 10 ^ 200 ∧ 0 < E ∧ E ≤ 10 ^ 200 ∧ M ≤ 10 ^ 500 ∧ N ≤ 10 ^ 500 ∧ ∀ (H':Hp) (D:Addr) (rs':List Addr),Same H H' → TabL κ H' D rs' (mulT R R2 m) m → Q (.ref D) H'
def sp_evenly_freedX (CF CR:Addr):Sp:=fun vs H Q _ => ∃ (κ:KX) (s a:Addr) (rs:List Addr) (R:List (List κ.F)) (m:Nat) (D M:Nat),vs = [.ref s,.ref a] ∧ KdX CF CR κ H s ∧ TabL κ H a rs R m ∧ AllR (QN κ (D:Int) M) R ∧ 0 < D ∧ D ≤ 10 ^ 100 ∧ M ≤ 10 ^ 500 ∧ ∀ (H':Hp) (tp D':Addr) (rs':List Addr) (A:Int) (x:κ.F),Same H H' → H' tp = some (.tup [.ref D',.int A]) → BotV κ R.flatten A → NumV κ A x → TabL κ H' D' rs' (sclT x R) m → Q (.ref tp) H'
theorem qn_dv {κ:KX} {D M:Nat} (hD:0 < D) {x:κ.F} (h:QN κ (D:Int) M x):DvB κ (D:Int) x:=by
  cases κ with
  | r p hp => exact trivial
  | q =>
    obtain ⟨X,e,_⟩:=h
    show ((Rat.den x:Nat):Int) ∣ D
    have e:x = Rat.divInt X D:=e
    rw [e]
    exact (divInt_sz X (show (0:Int) < (D:Int) by omega)).1
theorem qn_b60 {κ:KX} {D M:Nat} (hD:0 < D) (lD:D ≤ 10 ^ 200) (lM:M ≤ 10 ^ 500) {x:κ.F} (h:QN κ (D:Int) M x):B1 κ x:=by
  have l:(10:Nat) ^ 500 < 2 ^ 3000:=Nat.lt_of_lt_of_le (show 10 ^ 500 < 2 ^ 2000 by decide) (Nat.pow_le_pow_right (by decide) (by decide))
  have l2:(10:Nat) ^ 200 < 2 ^ 3000:=Nat.lt_of_lt_of_le (show 10 ^ 200 < 2 ^ 1000 by decide) (Nat.pow_le_pow_right (by decide) (by decide))
  exact h.b1 (by omega) (by rw [Int.natAbs_natCast]; omega) (by omega)
theorem bot_le {κ:KX} {D M:Nat} (hD:0 < D) {f:List κ.F} {A:Int} (h:∀ x ∈ f,QN κ (D:Int) M x) (b:BotV κ f A):0 < A ∧ A.natAbs ≤ D:=by
  cases κ with
  | r p hp =>
    have b:A = 1:=b
    subst b
    exact ⟨by decide,hD⟩
  | q =>
    obtain ⟨b0,b1,b2⟩:=b
    refine ⟨b0,?_⟩
    have:=le_of_dvd' (b2 (D:Int) fun x hx => qn_dv (κ:=.q) hD (h x hx)) (by omega)
    rw [Int.natAbs_natCast] at this
    exact this
theorem numv_ex {κ:KX} {A:Int} (h:A.natAbs ≤ 10 ^ 140):∃ x:κ.F,NumV κ A x:=by
  cases κ with
  | q => obtain ⟨x,h1,h2⟩:=rat_mk (n:=A) (d:=1) ⟨by decide,by rw [Int.gcd_one]⟩; exact ⟨x,h1,by omega⟩
  | r p hp =>
    have h2:=hp.two
    have a:=Int.emod_nonneg A (show (p:Int) ≠ 0 by omega)
    have b:=Int.emod_lt_of_pos A (show 0 < (p:Int) by omega)
    exact ⟨(⟨(A % p).toNat,by omega⟩:Fin p),h,by show (((A % p).toNat:Nat):Int) = _; omega⟩
theorem numv_qn {κ:KX} {A:Int} {x:κ.F} (h:NumV κ A x):QN κ 1 A.natAbs x:=by
  cases κ with
  | r p hp => exact trivial
  | q =>
    refine ⟨A,?_,Nat.le_refl _⟩
    show (x:Rat) = _
    have e1:Rat.num x = A:=h.1
    have e2:Rat.den x = 1:=h.2
    rw [← Rat.num_divInt_den x,e1,e2]; rfl
end My
namespace My
open PySem L2 PyProof.Rows
section
variable {P:Program} {w:World} {K:PySem.W.Frag} {mg:Str → Option Value} {base:Heap} {CF CR cF:Addr}
theorem sc_column_at:FnScope ["table", "place"] ["table", "place"] (defScope s_column_at):=⟨rfl,rfl,rfl,by decide +kernel,rfl,by decide +kernel,by decide +kernel⟩
theorem ok_column_atX (h:Here K mg "column_at" s_column_at):Has P w K mg base "column_at" 1 ["table", "place"] sp_column_atX:=by
  refine h.has (fun f fd F => F.binds fun _ _ _ _ _ _ us hl => by obtain ⟨_,_,rfl⟩:=len2 hl; exact rfl) fun f fd F => F.ok sc_column_at (fun vs H Q E h => ?_) (fun cdv A outer s H vs Q E hr h => ?_)
  · obtain ⟨_,_,_,_,_,_,rfl,_⟩:=h
    rfl
  obtain ⟨κ,a,rs,R,m,j,rfl,tb,jm,k⟩:=h
  refine ⟨_,(pss_one (ps_ret (pe_comp ["row"] [(1, "place")] rfl (pi_list (pv 0)) (by exact fun _ _ _ _ => (pg_name (i:=0) (show (["row", "place"]:List Str).Nodup by decide +kernel) rfl (Or.inl rfl))) (by exact fun _ _ _ _ => (pe_ix (ix_listK K rfl) (pv 0) (pv 1) (fun _ _ => rfl))) ⟨⟨rfl,rfl,Or.inl rfl⟩,trivial⟩))),?_⟩
  have lr:=tb.r.1
  have n9:=tb.n9
  refine ⟨_,rfl,a,rfl,⟨_,SqL.of tb.l⟩,?_⟩
  refine comp_list (K:=K) (a:=a) (xs:=rs.map V.ref) (fun i ys H2 => H2 = H ∧ AllG (NR κ H) ys ((R.take i).map fun r => r.getD j 0)) (by rw [List.length_map]; omega) ⟨rfl,.nil⟩ (fun i ys H2 _ q => by rw [q.1]; exact SqL.of tb.l) ?_ ?_
  · rintro i x ys H2 hx hl ⟨rfl,e⟩
    obtain ⟨b,hb,rfl⟩:=map_ref_get hx
    obtain ⟨f,hf⟩:=get_of_lt hb lr
    obtain ⟨zs,hz,al⟩:=tb.r.2 i b f hb hf
    obtain ⟨v,hv,nv⟩:=all_num al (i:=j) (by rw [tb.w f (List.mem_of_getElem? hf)]; exact jm)
    refine ⟨_,rfl,_,rfl,b,_,_,v,rfl,rfl,SqL.of hz,atI_nat hv,rfl,?_⟩
    rw [List.take_succ,hf,List.map_append]
    exact e.append (.one nv)
  · rintro ys H2 hl ⟨rfl,e⟩ D nD
    rw [List.length_map,lr,List.take_length] at e
    have SD:=same_new nD (.lst ys)
    exact k _ D ys SD nD upd_same (e.mono fun _ _ n => n.same SD)
theorem sc_turned:FnScope ["table"] ["table"] (defScope s_turned):=⟨rfl,rfl,rfl,by decide +kernel,rfl,by decide +kernel,by decide +kernel⟩
theorem ok_turnedX (h:Here K mg "turned" s_turned) (T:Nm mg) (h_column_at:Has P w K mg base "column_at" 1 ["table", "place"] sp_column_atX):Has P w K mg base "turned" 2 ["table"] sp_turnedX:=by
  refine h.has (fun f fd F => F.binds fun _ _ _ _ _ _ us hl => by obtain ⟨_,rfl⟩:=len1 hl; exact rfl) fun f fd F => F.ok sc_turned (fun vs H Q E h => ?_) (fun cdv A outer s H vs Q E hr h => ?_)
  · obtain ⟨_,_,_,_,_,rfl,_⟩:=h
    rfl
  obtain ⟨κ,a,rs,R,m,rfl,tb,k⟩:=h
  refine ⟨_,(pss_one (ps_ret (pe_comp ["place"] [(0, "table")] rfl (pi_range1 (by rfl) T.range (pa_cons (pe_callB call_len_seq (by rfl) T.len boot_len (pa_cons (pe_ix ix_list (pv 0) pe_int (fun _ _ => rfl)) pa_nil)) pa_nil)) (by exact fun _ _ _ _ => (pg_name (i:=0) (show (["place", "table"]:List Str).Nodup by decide +kernel) rfl (Or.inl rfl))) (by exact fun _ _ _ _ => (pe_has h_column_at hr (by rfl) (pa_cons (pv 1) (pa_cons (pv 0) pa_nil)))) ⟨⟨rfl,rfl,Or.inl rfl⟩,trivial⟩))),?_⟩
  obtain ⟨a0,xs,f,ha,hf,hx,al,lx⟩:=tb.fst
  have m9:=tb.m9
  refine ⟨_,rfl,a,_,0,_,rfl,rfl,SqL.of tb.l,ref_at (i:=0) ha,a0,_,rfl,.inl (SqL.of hx),(xs.length:Int),rfl,by omega,by omega,?_⟩
  rw [Int.toNat_natCast,lx]
  refine comp_range (lo:=0) (n:=m) (fun q ys H4 => Same H H4 ∧ ∃ ds:List Addr,ys = ds.map V.ref ∧ RowsX κ H4 ds ((List.range q).map (colF R))) (by omega) ⟨Same.refl _,[],rfl,.nil⟩ ?_ ?_
  · rintro q ys H4 hq _ ⟨S4,ds,rfl,rx⟩
    refine ⟨_,rfl,_,rfl,κ,a,rs,R,m,q,(by rw [Int.zero_add]; rfl),tb.same S4,hq,fun H5 D zs S5 nD hD e5 => ⟨S4.trans S5,ds ++ [D],by simp,?_⟩⟩
    rw [List.range_succ,List.map_append]
    exact (rx.same S5).snoc hD e5
  · rintro ys H4 _ ⟨S4,ds,rfl,rx⟩ D nD
    have SD:=same_new nD (.lst (ds.map V.ref))
    exact k _ D ds (S4.trans SD) upd_same (rx.same SD)
theorem sc_scaled:FnScope ["kind", "number", "table"] ["kind", "number", "table"] (defScope s_scaled):=⟨rfl,rfl,rfl,by decide +kernel,rfl,by decide +kernel,by decide +kernel⟩
theorem ok_scaledX (h:Here K mg "scaled" s_scaled) (h_scaled_row:Has P w K mg base "scaled_row" 3 ["kind", "number", "row"] (sp_scaled_rowX CF CR)):Has P w K mg base "scaled" 4 ["kind", "number", "table"] (sp_scaledX CF CR):=by
  refine h.has (fun f fd F => F.binds fun _ _ _ _ _ _ us hl => by obtain ⟨_,_,_,rfl⟩:=len3 hl; exact rfl) fun f fd F => F.ok sc_scaled (fun vs H Q E h => ?_) (fun cdv A outer s H vs Q E hr h => ?_)
  · obtain ⟨_,_,_,_,_,_,_,_,rfl,_⟩:=h
    rfl
  obtain ⟨κ,sk,a,cv,c,rs,R,m,rfl,hk,nc,bc,tb,bR,k⟩:=h
  refine ⟨_,(pss_one (ps_ret (pe_comp ["row"] [(0, "kind"),(1, "number")] rfl (pi_list (pv 2)) (by exact fun _ _ _ _ => (pg_name (i:=0) (show (["row", "kind", "number"]:List Str).Nodup by decide +kernel) rfl (Or.inl rfl))) (by exact fun _ _ _ _ => (pe_has h_scaled_row hr (by rfl) (pa_cons (pv 1) (pa_cons (pv 2) (pa_cons (pv 0) pa_nil))))) ⟨⟨rfl,rfl,Or.inl rfl⟩,⟨⟨rfl,rfl,Or.inl rfl⟩,trivial⟩⟩))),?_⟩
  have lr:=tb.r.1
  have n9:=tb.n9
  have m9:=tb.m9
  refine ⟨_,rfl,a,rfl,⟨_,SqL.of tb.l⟩,?_⟩
  refine comp_list (K:=K) (a:=a) (xs:=rs.map V.ref) (fun i ys H2 => Same H H2 ∧ ∃ ds:List Addr,ys = ds.map V.ref ∧ RowsX κ H2 ds ((R.take i).map fun r => r.map (c * ·)) ∧ ∀ d ∈ ds,H d = none) (by rw [List.length_map]; omega) ⟨Same.refl _,[],rfl,.nil,fun d h => nomatch h⟩ (fun i ys H2 _ q => SqL.of (q.1 _ _ tb.l)) ?_ ?_
  · rintro i x ys H2 hx hl ⟨S2,ds,rfl,rx,fr⟩
    obtain ⟨b,hb,rfl⟩:=map_ref_get hx
    obtain ⟨f,hf⟩:=get_of_lt hb lr
    obtain ⟨zs,hz,al⟩:=tb.r.2 i b f hb hf
    have mf:=List.mem_of_getElem? hf
    refine ⟨_,rfl,_,rfl,_,rfl,κ,sk,b,cv,c,zs,f,rfl,hk.same S2,nc.same S2,S2 _ _ hz,al.mono (fun _ _ n => n.same S2),bc,bR f mf,by rw [tb.w f mf]; omega,fun H3 D ws S3 nD hD e3 => ⟨S2.trans S3,ds ++ [D],by simp,?_,fun d hd => ?_⟩⟩
    · rw [List.take_succ,hf,List.map_append]
      exact (rx.same S3).snoc hD e3
    · rcases List.mem_append.mp hd with q | q
      · exact fr d q
      · rw [List.mem_singleton.mp q]; exact S2.free nD
  · rintro ys H2 hl ⟨S2,ds,rfl,rx,fr⟩ D nD
    rw [List.length_map,lr,List.take_length] at rx
    have SD:=same_new nD (.lst (ds.map V.ref))
    exact k _ D ds (S2.trans SD) ⟨upd_same,rx.same SD,sclT_wid tb.w c,by rw [sclT_len]; exact tb.n1,by rw [sclT_len]; exact tb.n9,tb.m9⟩ fr (S2.free nD)
theorem sc_sums_with:FnScope ["kind", "table", "column"] ["kind", "table", "column"] (defScope s_sums_with):=⟨rfl,rfl,rfl,by decide +kernel,rfl,by decide +kernel,by decide +kernel⟩
theorem ok_sums_withX (h:Here K mg "sums_with" s_sums_with) (md:MethDot P w K mg base CF CR):Has P w K mg base "sums_with" 4 ["kind", "table", "column"] (sp_sums_withX CF CR):=by
  refine h.has (fun f fd F => F.binds fun _ _ _ _ _ _ us hl => by obtain ⟨_,_,_,rfl⟩:=len3 hl; exact rfl) fun f fd F => F.ok sc_sums_with (fun vs H Q E h => ?_) (fun cdv A outer s H vs Q E hr h => ?_)
  · obtain ⟨_,_,_,_,_,_,_,_,_,_,_,_,rfl,_⟩:=h
    rfl
  obtain ⟨κ,sk,a,c,rs,R,xs,f,D,E',M,N,rfl,hk,hA,rx,wd,n9,m9,hC,al,qR,qf,d0,d1,e0,e1,m1,n1,k⟩:=h
  refine ⟨_,(pss_one (ps_ret (pe_comp ["row"] [(0, "kind"),(2, "column")] rfl (pi_list (pv 1)) (by exact fun _ _ _ _ => (pg_name (i:=0) (show (["row", "kind", "column"]:List Str).Nodup by decide +kernel) rfl (Or.inl rfl))) (by exact fun _ _ _ _ => (pe_methAK ⟨rfl,rfl,rfl,rfl,rfl⟩ (pv 1) hr (pa_cons (pv 0) (pa_cons (pv 2) pa_nil)))) ⟨⟨rfl,rfl,Or.inl rfl⟩,⟨⟨rfl,rfl,Or.inl rfl⟩,trivial⟩⟩))),?_⟩
  have lr:=rx.1
  refine ⟨_,rfl,a,rfl,⟨_,SqL.of hA⟩,?_⟩
  refine comp_list (K:=K) (a:=a) (xs:=rs.map V.ref) (fun i ys H2 => Same H H2 ∧ AllG (NR κ H2) ys ((R.take i).map fun r => dotF r f)) (by rw [List.length_map]; omega) ⟨Same.refl _,.nil⟩ (fun i ys H2 _ q => SqL.of (q.1 _ _ hA)) ?_ ?_
  · rintro i x ys H2 hx hl ⟨S2,e⟩
    obtain ⟨b,hb,rfl⟩:=map_ref_get hx
    obtain ⟨g,hg⟩:=get_of_lt hb lr
    obtain ⟨zs,hz,al2⟩:=rx.2 i b g hb hg
    have mg':=List.mem_of_getElem? hg
    have lg:=wd g mg'
    obtain ⟨Cd,dxd,fsd,psd,dvd,spd,k1,k2,k3,k4,rfl,k5⟩:=md κ H2 sk (hk.same S2)
    refine ⟨_,rfl,sk,Cd,dxd,fsd,psd,_,spd,rfl,k1,k2,k3.mono (by decide),k4,_,rfl,_,rfl,k5 H2 b c zs xs g f D E' M N _ (Same.refl _) (S2 _ _ hz) (S2 _ _ hC) (al2.mono fun _ _ n => n.same S2) (al.mono fun _ _ n => n.same S2) lg (by omega) (qR g mg') qf d0 d1 e0 e1 m1 n1 fun H3 v S3 nv => ⟨S2.trans S3,?_⟩⟩
    rw [List.take_succ,hg,List.map_append]
    exact (e.mono fun _ _ n => n.same S3).append (.one nv)
  · rintro ys H2 hl ⟨S2,e⟩ Dd nD
    rw [List.length_map,lr,List.take_length] at e
    have SD:=same_new nD (.lst ys)
    exact k _ Dd ys (S2.trans SD) upd_same (e.mono fun _ _ n => n.same SD)
theorem sc_times_table:FnScope ["kind", "A", "B", "columns"] ["kind", "A", "B"] (defScope s_times_table):=⟨rfl,rfl,rfl,by decide +kernel,rfl,by decide +kernel,by decide +kernel⟩
theorem ok_times_tableX (h:Here K mg "times_table" s_times_table) (T:Nm mg) (c_NoFit:ExcC K mg "NoFit" cF) (h_turned:Has P w K mg base "turned" 4 ["table"] sp_turnedX) (h_sums_with:Has P w K mg base "sums_with" 4 ["kind", "table", "column"] (sp_sums_withX CF CR)):HasX P w K mg base "times_table" 5 ["kind", "A", "B"] (sp_times_tableX CF CR):=by
  refine h.hasX (fun f fd F => F.binds fun _ _ _ _ _ _ us hl => by obtain ⟨_,_,_,rfl⟩:=len3 hl; exact rfl) fun f fd F => F.okx sc_times_table (fun vs H Q E h => ?_) (fun cdv A outer s H vs Q E hr h => ?_)
  · obtain ⟨_,_,_,_,_,_,_,_,_,_,_,_,_,rfl,_⟩:=h
    rfl
  obtain ⟨κ,sk,a,b,rs,rs2,R,R2,m,D,E',M,N,rfl,hk,ta,tb,qR,qR2,d0,d1,e0,e1,m1,n1,k⟩:=h
  have nd:=sc_times_table.nd
  refine ⟨_,(pss_cons (ps_if (pt_cmpR op_ne (pe_callB call_len_seq (by rfl) T.len boot_len (pa_cons (pe_ix ix_list (pv 1) pe_int (fun _ _ => rfl)) pa_nil)) (pe_callB call_len_seq (by rfl) T.len boot_len (pa_cons (pv 2) pa_nil)) (nomark _)) (pss_one (ps_raise c_NoFit raiseE rfl (by rfl) (pa_cons pe_str pa_nil))) pss_nil)
    (pss_cons (ps_set (i:=3) nd rfl (Or.inr rfl) (pe_has h_turned hr (by rfl) (pa_cons (pv 2) pa_nil)))
    (pss_one (ps_ret (pe_comp ["row"] [(0, "kind"),(3, "columns")] rfl (pi_list (pv 1)) (by exact fun _ _ _ _ => (pg_name (i:=0) (show (["row", "kind", "columns"]:List Str).Nodup by decide +kernel) rfl (Or.inl rfl))) (by exact fun _ _ _ _ => (pe_has h_sums_with hr (by rfl) (pa_cons (pv 1) (pa_cons (pv 2) (pa_cons (pv 0) pa_nil))))) ⟨⟨rfl,rfl,Or.inl rfl⟩,⟨⟨rfl,rfl,Or.inl rfl⟩,trivial⟩⟩))))),?_⟩
  have lr:=ta.r.1
  have lr2:=tb.r.1
  have n9:=ta.n9
  have n9b:=tb.n9
  have m9:=tb.m9
  obtain ⟨a0,xs,f,ha,hf,hx,al,lx⟩:=ta.fst
  refine ⟨_,rfl,a,_,0,_,rfl,rfl,SqL.of ta.l,ref_at (i:=0) ha,a0,_,rfl,.inl (SqL.of hx),_,rfl,b,_,rfl,.inl (SqL.of tb.l),rfl,_,rfl,?_⟩
  rw [List.length_map,lx,lr2]
  refine if_neI (fun z => absurd rfl z) (fun _ => ?_)
  refine ⟨_,rfl,κ,b,rs2,R2,m,rfl,tb,fun H1 cb cs S1 hcb rcb => ?_⟩
  refine ⟨_,rfl,a,rfl,⟨_,SqL.of (S1 _ _ ta.l)⟩,?_⟩
  refine comp_list (K:=K) (a:=a) (xs:=rs.map V.ref) (fun i ys H2 => Same H1 H2 ∧ ∃ ds:List Addr,ys = ds.map V.ref ∧ RowsX κ H2 ds ((R.take i).map fun r => (turnF R2 m).map fun c => dotF c r)) (by rw [List.length_map]; omega) ⟨Same.refl _,[],rfl,.nil⟩ (fun i ys H2 _ q => SqL.of ((S1.trans q.1) _ _ ta.l)) ?_ ?_
  · rintro i x ys H2 hx hl ⟨S2,ds,rfl,rx⟩
    obtain ⟨r1,hr1,rfl⟩:=map_ref_get hx
    obtain ⟨g,hg⟩:=get_of_lt hr1 lr
    obtain ⟨zs,hz,al2⟩:=ta.r.2 i r1 g hr1 hg
    have mg':=List.mem_of_getElem? hg
    have lg:=ta.w g mg'
    have S12:=S1.trans S2
    refine ⟨_,rfl,_,rfl,_,rfl,κ,sk,cb,r1,cs,turnF R2 m,zs,g,E',D,N,M,rfl,hk.same S12,S2 _ _ hcb,rcb.same S2,(by rw [lg]; exact turnF_wid R2 m),by rw [turnF_len]; omega,by omega,S12 _ _ hz,al2.mono (fun _ _ n => n.same S12),?_,qR g mg',e0,e1,d0,d1,n1,m1,fun H3 Dd ws S3 hD e3 => ⟨S2.trans S3,ds ++ [Dd],by simp,?_⟩⟩
    · intro q hq x hx
      unfold turnF at hq
      obtain ⟨j,hj,rfl⟩:=List.mem_map.mp hq
      exact mem_colF tb.w (List.mem_range.mp hj) qR2 x hx
    · rw [List.take_succ,hg,List.map_append]
      exact (rx.same S3).snoc hD e3
  · rintro ys H2 hl ⟨S2,ds,rfl,rx⟩ Dd nD
    rw [List.length_map,lr,List.take_length] at rx
    have SD:=same_new nD (.lst (ds.map V.ref))
    exact k _ Dd ds (S1.trans (S2.trans SD)) ⟨upd_same,rx.same SD,mulT_wid R R2 m,by rw [mulT_len]; exact ta.n1,by rw [mulT_len]; exact n9,m9⟩
theorem sc_evenly_freed:FnScope ["kind", "table", "numbers", "row", "bottom"] ["kind", "table"] (defScope s_evenly_freed):=⟨rfl,rfl,rfl,by decide +kernel,rfl,by decide +kernel,by decide +kernel⟩
theorem ok_evenly_freedX (h:Here K mg "evenly_freed" s_evenly_freed) (mn:MethNum P w K mg base CF CR) (mb:MethBot P w K mg base CF CR) (h_scaled:Has P w K mg base "scaled" 4 ["kind", "number", "table"] (sp_scaledX CF CR)):Has P w K mg base "evenly_freed" 5 ["kind", "table"] (sp_evenly_freedX CF CR):=by
  refine h.has (fun f fd F => F.binds fun _ _ _ _ _ _ us hl => by obtain ⟨_,_,rfl⟩:=len2 hl; exact rfl) fun f fd F => F.ok sc_evenly_freed (fun vs H Q E h => ?_) (fun cdv A outer s H vs Q E hr h => ?_)
  · obtain ⟨_,_,_,_,_,_,_,_,rfl,_⟩:=h
    rfl
  obtain ⟨κ,sk,a,rs,R,m,D,M,rfl,hk,ta,qR,d0,d1,m1,k⟩:=h
  have d2:D ≤ 10 ^ 200:=Nat.le_trans d1 (by decide)
  have nd:=sc_evenly_freed.nd
  refine ⟨_,(pss_cons (ps_set (i:=2) nd rfl (Or.inl rfl) (pe_lst pa_nil))
    (pss_cons (ps_for PassesOwn.never rfl (pi_list (pv 1)) (pg_name (i:=3) nd rfl (Or.inl rfl)) (pss_one (ps_expr (pe_bm PySem.F.plainAttrs_list PySem.F.slot_list_extend PySem.F.type_list_extend mt_extend (pv 2) (pa_cons (pv 3) pa_nil)))))
    (pss_cons (ps_set (i:=4) nd rfl (Or.inl rfl) (pe_methA (pv 0) hr (pa_cons (pv 2) pa_nil)))
    (pss_one (ps_ret (pe_tup (pa_cons (pe_has h_scaled hr (by rfl) (pa_cons (pv 0) (pa_cons (pe_methX (pv 0) passN hr (pa_cons (pv 4) pa_nil)) (pa_cons (pv 1) pa_nil)))) (pa_cons (pv 4) pa_nil)))))))),?_⟩
  have lr:=ta.r.1
  have n9:=ta.n9
  have m9:=ta.m9
  refine ⟨(by show 0 ≤ sizeLine; decide),fun nb nnb => ?_⟩
  have Sn:=same_new nnb (.lst [])
  have qn:=upd_same (H:=H) (a:=nb) (o:=.lst [])
  generalize upd H nb (.lst []) = H1 at *
  refine ⟨_,rfl,a,rfl,⟨_,SqL.of (Sn _ _ ta.l)⟩,?_⟩
  refine for_list (xs:=rs.map V.ref) (fun i σ H2 => ∃ (z3 z4:Option V) (ns:List V),σ = [some (.ref sk),some (.ref a),some (.ref nb),z3,z4] ∧ Same H H2 ∧ H2 nb = some (.lst ns) ∧ AllG (NR κ H2) ns (R.take i).flatten ∧ ns.length ≤ i * m) ⟨_,_,[],rfl,Sn,qn,by rw [List.take_zero]; exact .nil,Nat.zero_le _⟩ ?_ ?_ ?_
  · rintro i σ H2 - ⟨z3,z4,ns,rfl,S2,-⟩
    exact SqL.of (S2 _ _ ta.l)
  · rintro i v σ H2 hv ⟨z3,z4,ns,rfl,S2,hn,an,ln⟩
    obtain ⟨b,hb,rfl⟩:=map_ref_get hv
    obtain ⟨f,hf⟩:=get_of_lt hb lr
    obtain ⟨zs,hz,al⟩:=ta.r.2 i b f hb hf
    have mf:=List.mem_of_getElem? hf
    have hi:i < rs.length:=(List.getElem?_eq_some_iff.mp hb).1
    have lz:zs.length = m:=by rw [al.1]; exact ta.w f mf
    have nm:i * m ≤ 100 * 100:=Nat.mul_le_mul (by omega) m9
    refine ⟨_,rfl,.inl ⟨rfl,_,SqL.of hn⟩,_,rfl,nb,b,ns,zs,rfl,rfl,hn,S2 _ _ hz,Nat.le_trans (show ns.length + zs.length ≤ 20000 by omega) (by decide),?_⟩
    have O:Off [nb] H2 (upd H2 nb (.lst (ns ++ zs))):=off_upd' (Same.refl H2)
    refine ⟨_,_,ns ++ zs,rfl,Off.same O S2 (fun z hz => by rw [List.mem_singleton.mp hz]; exact nnb),upd_same,?_,by rw [List.length_append,Nat.succ_mul]; omega⟩
    rw [List.take_succ,hf,List.flatten_append]
    show AllG _ _ ((R.take i).flatten ++ [f].flatten)
    rw [show [f].flatten = f by simp]
    exact (an.mono fun _ _ n => n.off hn O).append (al.mono fun _ _ n => (n.same S2).off hn O)
  · rintro σ H2 ⟨z3,z4,ns,rfl,S2,hn,an,ln⟩
    rw [List.length_map,lr,List.take_length] at an
    have qF:∀ x ∈ R.flatten,QN κ (D:Int) M x:=fun x hx => by
      obtain ⟨f,hf,hx⟩:=List.mem_flatten.mp hx
      exact qR f hf x hx
    obtain ⟨Cb,dxb,fsb,psb,dvb,spb,b1,b2,b3,b4,rfl,b5⟩:=mb κ H2 sk (hk.same S2)
    have bD:Bits 4000 (D:Int):=Bits.of (by rw [Int.natAbs_natCast]; exact Nat.lt_of_le_of_lt d2 (Nat.lt_of_lt_of_le (show 10 ^ 200 < 2 ^ 1000 by decide) (Nat.pow_le_pow_right (by decide) (by decide))))
    refine ⟨_,rfl,sk,Cb,dxb,fsb,psb,_,spb,rfl,b1,b2,b3.mono (by decide),b4,_,rfl,b5 nb ns _ (D:Int) _ hn an (by omega) bD (fun x hx => qn_dv d0 (qF x hx)) fun A bA => ?_⟩
    obtain ⟨A0,Al⟩:=bot_le d0 qF bA
    have A140:A.natAbs ≤ 10 ^ 140:=Nat.le_trans (Nat.le_trans Al d1) (by decide)
    obtain ⟨x,nx⟩:=numv_ex (κ:=κ) A140
    obtain ⟨Cn,dxn,fsn,psn,dvn,spn,k1,k2,k3,k4,rfl,k5⟩:=mn κ H2 sk (hk.same S2)
    refine ⟨_,rfl,_,rfl,sk,Cn,dxn,fsn,psn,_,spn,rfl,k1,k2,k3.mono (by decide),k4,_,rfl,k5 H2 A x _ _ (Same.refl _) nx fun v H3 S3 nv => ?_⟩
    have bx:B1 κ x:=qn_b60 (D:=1) (by decide) (by decide) (Nat.le_trans Al (Nat.le_trans d2 (by decide))) (numv_qn nx)
    refine ⟨_,rfl,κ,sk,a,v,x,rs,R,m,rfl,hk.same (S2.trans S3),nv,bx,ta.same (S2.trans S3),(fun f hf y hy => qn_b60 d0 d2 m1 (qR f hf y hy)),fun H4 D' rs' S4 t4 _ _ => ?_⟩
    refine ⟨_,rfl,(by show 2 ≤ sizeLine; decide),fun tp ntp => ?_⟩
    have St:=same_new ntp (.tup [.ref D',.int A])
    exact k _ tp D' rs' A x (S2.trans (S3.trans (S4.trans St))) upd_same bA nx (t4.same St)
end
end My
set_option maxHeartbeats 1000000
namespace My
open PySem L2 PyProof.Rows
section
variable {κ:KX}
theorem QN.neg {D:Int} {M:Nat} {x:κ.F} (h:QN κ D M x):QN κ D M (0 - x):=by
  cases κ with
  | r p hp => exact trivial
  | q =>
    obtain ⟨X,rfl,hX⟩:=h
    refine ⟨-X,?_,by omega⟩
    have:(0 - Rat.divInt X D:Rat) = -Rat.divInt X D:=by grind
    show (0 - Rat.divInt X D:Rat) = _
    rw [this,Rat.neg_divInt]
theorem QN.sub {D:Int} (hD:0 < D) {M N:Nat} {x y:κ.F} (h:QN κ D M x) (g:QN κ D N y):QN κ D (M + N) (x - y):=by
  have e:x - y = x + (0 - y):=by grind
  rw [e]
  exact QN.add hD h g.neg
theorem qn_inv {E N:Nat} (hE:0 < E) (hN:0 < N) {c:κ.F} (h:QN κ (E:Int) N c) (hc:c ≠ 0):∃ a:Nat,0 < a ∧ a ≤ N ∧ QN κ (a:Int) E (Fd.inv c):=by
  cases κ with
  | r p hp => exact ⟨1,by decide,hN,trivial⟩
  | q =>
    obtain ⟨X,e,hX⟩:=h
    have X0:X ≠ 0:=fun z => hc (by rw [e,z]; exact Rat.zero_divInt _)
    have m:Rat.divInt X E * Rat.divInt E X = (1:Rat):=by
      rw [Rat.divInt_mul_divInt]
      have:X * (E:Int) ≠ 0:=Int.mul_ne_zero X0 (by omega)
      have e2:(1:Rat) = Rat.divInt 1 1:=rfl
      have e3:(E:Int) * X ≠ 0:=Int.mul_ne_zero (by omega) X0
      rw [e2,Rat.divInt_eq_divInt_iff e3 (by decide)]
      rw [Int.mul_one,Int.one_mul,Int.mul_comm]
    have ei:Fd.inv c = Rat.divInt E X:=by
      have h1:(c:Rat) * Rat.divInt E X = 1:=by rw [e]; exact m
      exact (inv_uniq (α:=Rat) h1).symm
    refine ⟨X.natAbs,by omega,hX,?_⟩
    show ∃ Y:Int,(Fd.inv c:Rat) = Rat.divInt Y (X.natAbs:Int) ∧ Y.natAbs ≤ E
    rcases Int.lt_or_gt_of_ne X0 with s | s
    · refine ⟨-(E:Int),?_,by omega⟩
      have:((X.natAbs:Nat):Int) = -X:=by omega
      rw [ei,this,Rat.divInt_eq_divInt_iff X0 (by omega),Int.mul_neg,Int.neg_mul]
    · refine ⟨(E:Int),?_,by omega⟩
      have:((X.natAbs:Nat):Int) = X:=by omega
      rw [ei,this]
noncomputable def gs (G:List κ.F) (p k:Nat):κ.F:=if p ≤ k then G.getD (k - p) 0 else 0
theorem pI_eq {F G:List κ.F} {i k:Nat}:∀ j:Nat,pI F G i j k = if i ≤ k ∧ k < i + j then F.getD i 0 * G.getD (k - i) 0 else 0
  | 0 => by rw [if_neg (by omega)]; rfl
  | j + 1 => by
    show pI F G i j k + (if i + j = k then F.getD i 0 * G.getD j 0 else 0) = _
    rw [pI_eq j]
    by_cases a:i + j = k
    · subst a
      rw [if_neg (by omega),if_pos rfl,if_pos (by omega),Nat.add_sub_cancel_left]; grind
    · rw [if_neg a]
      by_cases b:i ≤ k ∧ k < i + j
      · rw [if_pos b,if_pos (by omega)]; grind
      · rw [if_neg b,if_neg (by omega)]; exact add00
def Trm (F:List κ.F):Prop:=F.length = 0 ∨ F.getD (F.length - 1) 0 ≠ 0
noncomputable def dI (G:List κ.F) (x:κ.F) (p a:Nat) (R:List κ.F):List κ.F:=(List.range R.length).map fun k => if p ≤ k ∧ k < p + a then R.getD k 0 - x * G.getD (k - p) 0 else R.getD k 0
structure Dv (F G:List κ.F) (t:Nat) (qs R:List κ.F):Prop where
  lq:qs.length = t
  lr:R.length = F.length
  eq:∀ k,F.getD k 0 = pO (List.replicate (F.length + 1 - G.length - t) 0 ++ qs.reverse) G (F.length + 1 - G.length) k + (if k < F.length - t then R.getD k 0 else 0)
  top:∀ x,qs[0]? = some x → x = F.getD (F.length - 1) 0 * Fd.inv (G.getD (G.length - 1) 0)
  fst:t = 0 → R = F
end
end My
set_option maxHeartbeats 1000000
namespace My
open PySem L2 PyProof.Rows
structure DvIn {κ:KX} (F G:List κ.F) (D E M N:Nat):Prop where
  lF:F.length ≤ 100
  lG:G.length ≤ 100
  tG:Trm G
  qF:∀ x ∈ F,QN κ (D:Int) M x
  qG:∀ x ∈ G,QN κ (E:Int) N x
  d0:0 < D
  e0:0 < E
  m0:0 < M
  n0:0 < N
  eN:E ≤ N
  bD:D * (N * E) ^ (F.length + 1 - G.length) < 2 ^ 3000
  bM:M * (2 * (E * N)) ^ (F.length + 1 - G.length) < 2 ^ 3000
  bE:E < 2 ^ 3000
  bN:N < 2 ^ 3000
structure DvOut {κ:KX} (F G:List κ.F) (D E M N a:Nat) (qs R:List κ.F) (r:Nat):Prop where
  dv:Dv F G (F.length + 1 - G.length) qs R
  lr:r ≤ (R.take (G.length - 1)).length
  r0:∀ j,r ≤ j → (R.take (G.length - 1)).getD j 0 = 0
  r1:r = 0 ∨ (R.take (G.length - 1)).getD (r - 1) 0 ≠ 0
  a0:0 < a
  aN:a ≤ N
  qq:∀ x ∈ qs,QN κ ((D * (a * E) ^ (F.length + 1 - G.length):Nat):Int) (M * (2 * (E * N)) ^ (F.length + 1 - G.length)) x
  qR:∀ x ∈ R,QN κ ((D * (a * E) ^ (F.length + 1 - G.length):Nat):Int) (M * (2 * (E * N)) ^ (F.length + 1 - G.length)) x
section
variable {κ:KX}
theorem QN.mulN {D E M N:Nat} {x y:κ.F} (h:QN κ (D:Int) M x) (g:QN κ (E:Int) N y):QN κ ((D * E:Nat):Int) (M * N) (x * y):=by
  rw [Int.natCast_mul]
  exact QN.mul h g
end
end My
set_option maxHeartbeats 1000000
namespace L2
open PySem PySem.Spec PyProof.Rows
section
variable {X:Cx}
def ipM:TIp:=fun x y H Q => ∃ i j,x = .int i ∧ y = .int j ∧ IntMulOk i j ∧ Q (.int (i * j)) H
theorem ip_mulO:PIp X .Mult ipM:=by
  intro pins s σ H x y v u Q I r1 r2 h
  obtain ⟨i,j,e1,e2,hm,q⟩:=h
  subst e1; subst e2
  obtain ⟨t,rfl⟩:=r1
  obtain ⟨t',rfl⟩:=r2
  exact PyProof.Rows.imul_int ⟨.int _,H,I.tok _,⟨_,rfl⟩,q⟩ hm
end
end L2
namespace My
open PySem L2 PyProof.Rows
section
variable {κ:KX}
noncomputable def hv (F:List κ.F) (x:κ.F):Nat → κ.F
  | 0 => 0
  | i + 1 => hv F x i * x + F.reverse.getD i 0
noncomputable def tot (F:List κ.F) (R P:List (List κ.F)) (u x:κ.F):Nat → List (List κ.F)
  | 0 => sclT 0 (unitT κ R.length)
  | i + 1 => addT (mulT (tot F R P u x i) P R.length) (sclT (F.reverse.getD i 0 * (u * x ^ i)) (unitT κ R.length))
theorem sclT_qn {D E M N:Nat} {c:κ.F} {A:List (List κ.F)} (hc:QN κ (D:Int) M c) (hA:AllR (QN κ (E:Int) N) A):AllR (QN κ ((D * E:Nat):Int) (M * N)) (sclT c A):=fun f hf x hx => by
  unfold sclT at hf
  obtain ⟨r,hr,rfl⟩:=List.mem_map.mp hf
  obtain ⟨y,hy,rfl⟩:=List.mem_map.mp hx
  exact QN.mulN hc (hA r hr y hy)
theorem mulT_qn {D E M N L m:Nat} (hD:0 < D) (hE:0 < E) {A B:List (List κ.F)} (wA:Wid B.length A) (wB:Wid m B) (hA:AllR (QN κ (D:Int) M) A) (hB:AllR (QN κ (E:Int) N) B) (hL:B.length ≤ L):AllR (QN κ ((D * E:Nat):Int) (L * (M * N))) (mulT A B m):=fun f hf x hx => by
  unfold mulT at hf
  obtain ⟨r,hr,rfl⟩:=List.mem_map.mp hf
  obtain ⟨c,hc,rfl⟩:=List.mem_map.mp hx
  unfold turnF at hc
  obtain ⟨j,hj,rfl⟩:=List.mem_map.mp hc
  have q:=dotK_qn (D:=(E:Int)) (E:=(D:Int)) (M:=N) (N:=M) (f:=colF B j) (g:=r) (Int.mul_pos (by omega) (by omega)) (mem_colF wB (List.mem_range.mp hj) hB) (hA r hr) (colF B j).length (Nat.le_refl _) (by rw [colF_len,wA r hr]; exact Nat.le_refl _)
  rw [← Int.natCast_mul,Nat.mul_comm E D,Nat.mul_comm N M,colF_len] at q
  show QN κ _ _ (dotK (colF B j) r (colF B j).length)
  rw [colF_len]
  exact q.mono (Nat.mul_le_mul_right _ hL)
theorem unitT_qn (n:Nat):AllR (QN κ ((1:Nat):Int) 1) (unitT κ n):=fun f hf x hx => by
  unfold unitT at hf
  obtain ⟨i,_,rfl⟩:=List.mem_map.mp hf
  unfold uRow at hx
  obtain ⟨j,_,rfl⟩:=List.mem_map.mp hx
  by_cases e:i = j
  · rw [if_pos e]; exact qn_one
  · rw [if_neg e]; exact QN.zero
theorem powx_qn {x:κ.F} (hx:QN κ ((1:Nat):Int) 12 x):∀ i,QN κ ((1:Nat):Int) (12 ^ i) (x ^ i)
  | 0 => by
    have e:x ^ 0 = (1:κ.F):=by grind
    rw [e]; exact qn_one
  | i + 1 => by
    have e:x ^ (i + 1) = x ^ i * x:=by grind
    rw [e,Nat.pow_succ]
    exact QN.mulN (D:=1) (E:=1) (powx_qn hx i) hx
end
end My
namespace My
open PySem L2 PyProof.Rows
theorem one_mulK {κ:KX}:κ.mulF (K1 κ) (K1 κ) = K1 κ:=by show (1:κ.F) * 1 = 1; grind
structure Wn (κ:KX) (A:Int) (x:κ.F) (B:Nat):Prop where
  n:NumV κ A x
  p:0 < A
  l:A.natAbs ≤ B
  r:κ ≠ .q → A = 1
theorem one_neK {κ:KX}:(1:κ.F) ≠ 0:=fun z => Fd.zne z.symm
theorem Wn.ne {κ:KX} {A:Int} {x:κ.F} {B:Nat} (h:Wn κ A x B):x ≠ 0:=fun z => by
  have h0:=h.p
  by_cases hq:κ = .q
  · subst hq
    have e1:Rat.num x = A:=h.n.1
    have z:x = (0:Rat):=z
    rw [z] at e1
    have:(0:Int) = A:=e1
    omega
  · have a:=h.r hq
    have n:=h.n
    rw [a] at n
    have e:=n.uniq numV1
    rw [z] at e
    exact one_neK e.symm
theorem Wn.mul {κ:KX} {A C:Int} {x y:κ.F} {B E:Nat} (h:Wn κ A x B) (g:Wn κ C y E):Wn κ (A * C) (x * y) (B * E):=by
  refine ⟨?_,Int.mul_pos h.p g.p,by rw [Int.natAbs_mul]; exact Nat.mul_le_mul h.l g.l,fun z => by rw [h.r z,g.r z]; rfl⟩
  cases κ with
  | q =>
    have e1:Rat.num x = A:=h.n.1
    have e2:Rat.den x = 1:=h.n.2
    have e3:Rat.num y = C:=g.n.1
    have e4:Rat.den y = 1:=g.n.2
    have m:=rat_mul (x:=x) (y:=y) (n:=A * C) (d:=1) ⟨by decide,by rw [Int.gcd_one]⟩ (by rw [e1,e2,e3,e4]; simp)
    exact ⟨m.1,by have:=m.2; omega⟩
  | r p hp =>
    have a:=h.r (fun z => nomatch z)
    have b:=g.r (fun z => nomatch z)
    subst a b
    rw [h.n.uniq numV1,g.n.uniq numV1]
    show NumV _ (1 * 1) ((KX.r p hp).mulF (K1 _) (K1 _))
    rw [one_mulK]
    exact numV1
theorem wn1 {κ:KX}:Wn κ 1 1 1:=⟨numV1,by decide,by decide,fun _ => rfl⟩
theorem Wn.qn {κ:KX} {A:Int} {x:κ.F} {B:Nat} (h:Wn κ A x B):QN κ ((1:Nat):Int) B x:=(numv_qn h.n).mono h.l
theorem wn_bot {κ:KX} {D M:Nat} (hD:0 < D) (lD:D ≤ 10 ^ 60) {f:List κ.F} {A:Int} (h:∀ x ∈ f,QN κ (D:Int) M x) (b:BotV κ f A) {x:κ.F} (n:NumV κ A x):Wn κ A x D:=by
  obtain ⟨b0,b1⟩:=bot_le hD h b
  refine ⟨n,b0,b1,fun z => ?_⟩
  cases κ with
  | q => exact absurd rfl z
  | r p hp => exact b
theorem powS {κ:KX} (x:κ.F) (i:Nat):x ^ (i + 1) = x ^ i * x:=by grind
theorem pow0 {κ:KX} (x:κ.F):x ^ 0 = 1:=by grind
end My
set_option maxHeartbeats 1000000
namespace My
open PySem L2 PyProof.Rows
section
variable {κ:KX}
noncomputable def Sg (h:Nat → κ.F):Nat → κ.F
  | 0 => 0
  | n + 1 => Sg h n + h n
theorem Sg_congr {h g:Nat → κ.F}:∀ {n:Nat},(∀ i,i < n → h i = g i) → Sg h n = Sg g n
  | 0,_ => rfl
  | n + 1,e => by
    show Sg h n + h n = Sg g n + g n
    rw [Sg_congr (n:=n) fun i hi => e i (by omega),e n (by omega)]
theorem Sg_mul (c:κ.F) (h:Nat → κ.F):∀ n,c * Sg h n = Sg (fun i => c * h i) n
  | 0 => by show c * 0 = 0; grind
  | n + 1 => by
    show c * (Sg h n + h n) = Sg (fun i => c * h i) n + c * h n
    rw [← Sg_mul c h n]; grind
theorem Sg_add (h g:Nat → κ.F):∀ n,Sg h n + Sg g n = Sg (fun i => h i + g i) n
  | 0 => add00
  | n + 1 => by
    show (Sg h n + h n) + (Sg g n + g n) = Sg (fun i => h i + g i) n + (h n + g n)
    rw [← Sg_add h g n]; grind
theorem Sg_zero:∀ n,Sg (fun _ => (0:κ.F)) n = 0
  | 0 => rfl
  | n + 1 => by show Sg _ n + 0 = 0; rw [Sg_zero n]; exact add00
theorem Sg_comm (h:Nat → Nat → κ.F) (m:Nat):∀ n,Sg (fun i => Sg (fun j => h i j) m) n = Sg (fun j => Sg (fun i => h i j) n) m
  | 0 => (Sg_zero m).symm
  | n + 1 => by
    show Sg _ n + Sg (fun j => h n j) m = Sg (fun j => Sg (fun i => h i j) n + h n j) m
    rw [Sg_comm h m n,Sg_add]
theorem Sg_shift (h:Nat → κ.F):∀ n,Sg h (n + 1) = h 0 + Sg (fun i => h (i + 1)) n
  | 0 => by show 0 + h 0 = h 0 + 0; grind
  | n + 1 => by
    show Sg h (n + 1) + h (n + 1) = h 0 + (Sg (fun i => h (i + 1)) n + h (n + 1))
    rw [Sg_shift h n]; grind
theorem Sg_one (h:Nat → κ.F) (i:Nat):∀ n,Sg (fun l => h l * (if i = l then 1 else 0)) n = if i < n then h i else 0
  | 0 => by rw [if_neg (by omega)]; rfl
  | n + 1 => by
    show Sg _ n + h n * (if i = n then 1 else 0) = _
    rw [Sg_one h i n]
    by_cases e:i = n
    · subst e; rw [if_neg (by omega),if_pos rfl,if_pos (by omega)]; grind
    · rw [if_neg e]
      by_cases l:i < n
      · rw [if_pos l,if_pos (by omega)]; grind
      · rw [if_neg l,if_neg (by omega)]; grind
theorem dotK_Sg (f g:List κ.F):∀ k,dotK f g k = Sg (fun i => f.getD i 0 * g.getD i 0) k
  | 0 => rfl
  | k + 1 => by show dotK f g k + _ = Sg _ k + _; rw [dotK_Sg f g k]
noncomputable def pw (a:Nat → Nat → κ.F) (n:Nat):Nat → Nat → Nat → κ.F
  | 0,i,j => if i = j then 1 else 0
  | k + 1,i,j => Sg (fun l => a i l * pw a n k l j) n
theorem pw_comm (a:Nat → Nat → κ.F) (n:Nat):∀ k i j,i < n → j < n → Sg (fun l => a l j * pw a n k i l) n = pw a n (k + 1) i j
  | 0,i,j,hi,hj => by
    have e1:Sg (fun l => a l j * pw a n 0 i l) n = a i j:=by
      have:=Sg_one (fun l => a l j) i n
      rw [if_pos hi] at this; exact this
    have e2:pw a n 1 i j = a i j:=by
      show Sg (fun l => a i l * (if l = j then 1 else 0)) n = _
      have:=Sg_one (fun l => a i l) j n
      rw [if_pos hj] at this
      rw [← this]
      refine Sg_congr fun l _ => ?_
      by_cases e:l = j
      · rw [if_pos e,if_pos e.symm]
      · rw [if_neg e,if_neg (Ne.symm e)]
    rw [e1,e2]
  | k + 1,i,j,hi,hj => by
    show Sg (fun l => a l j * Sg (fun m => a i m * pw a n k m l) n) n = Sg (fun m => a i m * pw a n (k + 1) m j) n
    have e1:Sg (fun l => a l j * Sg (fun m => a i m * pw a n k m l) n) n = Sg (fun l => Sg (fun m => a l j * (a i m * pw a n k m l)) n) n:=Sg_congr fun l _ => Sg_mul _ _ n
    rw [e1,Sg_comm]
    refine Sg_congr fun m hm => ?_
    rw [← pw_comm a n k m j hm hj,Sg_mul]
    refine Sg_congr fun l _ => ?_
    grind
noncomputable def imgF (R:List (List κ.F)) (c:List κ.F):List κ.F:=R.map fun r => dotK r c c.length
noncomputable def lastC (R:List (List κ.F)) (c:List κ.F):Nat → List κ.F
  | 0 => c
  | k + 1 => imgF R (lastC R c k)
noncomputable def soF (F:List κ.F) (R:List (List κ.F)) (c:List κ.F) (k i:Nat):κ.F:=Sg (fun k => F.getD k 0 * (lastC R c k).getD i 0) k
noncomputable def cS (r p:Nat → κ.F) (t:Nat):κ.F:=Sg (fun k => r (t - 1 - k) * p k) t
theorem ent_scl {A:List (List κ.F)} {n i j:Nat} (c:κ.F) (w:Wid n A) (hi:i < A.length) (hj:j < n):ent (sclT c A) i j = c * ent A i j:=by
  unfold ent sclT
  have hw:=w A[i] (List.getElem_mem hi)
  rw [List.getD_eq_getElem?_getD (l:=List.map _ A),List.getElem?_map,List.getElem?_eq_getElem hi,List.getD_eq_getElem?_getD (l:=A),List.getElem?_eq_getElem hi]
  show (A[i].map (c * ·)).getD j 0 = c * A[i].getD j 0
  rw [List.getD_eq_getElem?_getD,List.getElem?_map,List.getD_eq_getElem?_getD,List.getElem?_eq_getElem (by omega)]; rfl
theorem ent_unit {n i j:Nat} (hi:i < n) (hj:j < n):ent (unitT κ n) i j = if i = j then 1 else 0:=by
  unfold ent unitT
  rw [List.getD_eq_getElem?_getD (l:=List.map _ _),List.getElem?_map,List.getElem?_range hi]
  show (uRow κ n i).getD j 0 = _
  unfold uRow
  rw [List.getD_eq_getElem?_getD,List.getElem?_map,List.getElem?_range hj]; rfl
theorem ent_mul {A B:List (List κ.F)} {m i j:Nat} (hi:i < A.length) (hj:j < m):ent (mulT A B m) i j = Sg (fun l => ent B l j * ent A i l) B.length:=by
  unfold mulT turnF
  have e:ent (List.map (fun r => List.map (fun c => dotF c r) (List.map (colF B) (List.range m))) A) i j = dotF (colF B j) (A.getD i []):=by
    unfold ent
    rw [List.getD_eq_getElem?_getD (l:=List.map _ A),List.getElem?_map,List.getElem?_eq_getElem hi,List.getD_eq_getElem?_getD (l:=A),List.getElem?_eq_getElem hi]
    show ((List.map (colF B) (List.range m)).map fun c => dotF c A[i]).getD j 0 = dotF (colF B j) A[i]
    rw [List.getD_eq_getElem?_getD,List.getElem?_map,List.getElem?_map,List.getElem?_range hj]; rfl
  rw [e]
  unfold dotF
  rw [dotK_Sg,colF_len]
  refine Sg_congr fun l hl => ?_
  congr 1
  unfold colF ent
  rw [List.getD_eq_getElem?_getD,List.getElem?_map,List.getElem?_eq_getElem hl,List.getD_eq_getElem?_getD (l:=B),List.getElem?_eq_getElem hl]; rfl
end
end My
set_option maxHeartbeats 1000000
namespace L2
open PySem PySem.Spec PyProof.Rows
section
variable {X:Cx}
def rBitlen:V → List V → Hp → VK → Prop:=fun x vs H Q => ∃ i:Int,x = .int i ∧ vs = [] ∧ Q (.int ((Builtin.Int.intBits i:Nat):Int)) H
theorem mt_bitlen:MtM X "int.bit_length" rBitlen:=by
  intro pins s σ H x vs v us Q I rx rv h
  obtain ⟨i,rfl,rfl,q⟩:=h
  obtain ⟨t,rfl⟩:=rx
  cases rv
  exact PySem.call_gives F.slot_int_bit_length (typeIs_int s i t) F.entry_int_bit_length (F.args_int_bit_length_1 _) (AutoIntG2.int_bit_length_int_0 i t) ⟨.int _,H,I.tok _,⟨_,rfl⟩,q⟩
end
end L2
namespace My
open PySem L2 PyProof.Rows
section
variable {κ:KX}
theorem Sg_rev (h:Nat → κ.F):∀ n,Sg h n = Sg (fun i => h (n - 1 - i)) n
  | 0 => rfl
  | n + 1 => by
    rw [Sg_shift (fun i => h (n + 1 - 1 - i)) n]
    show Sg h n + h n = h (n + 1 - 1 - 0) + Sg (fun i => h (n + 1 - 1 - (i + 1))) n
    rw [Sg_rev h n]
    have e:Sg (fun i => h (n - 1 - i)) n = Sg (fun i => h (n + 1 - 1 - (i + 1))) n:=Sg_congr fun i hi => by congr 1; omega
    rw [e,show n + 1 - 1 - 0 = n from rfl]
    grind
theorem pw_add (a:Nat → Nat → κ.F) (n:Nat):∀ p q i j,i < n → j < n → pw a n (p + q) i j = Sg (fun l => pw a n p i l * pw a n q l j) n
  | 0,q,i,j,hi,hj => by
    rw [Nat.zero_add]
    have:=Sg_one (fun l => pw a n q l j) i n
    rw [if_pos hi] at this
    rw [← this]
    exact Sg_congr fun l _ => by show _ = (if i = l then 1 else 0) * _; grind
  | p + 1,q,i,j,hi,hj => by
    rw [show p + 1 + q = (p + q) + 1 by omega]
    show Sg (fun l => a i l * pw a n (p + q) l j) n = Sg (fun l => Sg (fun m => a i m * pw a n p m l) n * pw a n q l j) n
    have e1:Sg (fun l => Sg (fun m => a i m * pw a n p m l) n * pw a n q l j) n = Sg (fun l => Sg (fun m => pw a n q l j * (a i m * pw a n p m l)) n) n:=Sg_congr fun l _ => by
      rw [← Sg_mul]; grind
    rw [e1,Sg_comm]
    refine Sg_congr fun m hm => ?_
    rw [pw_add a n p q m j hm hj,Sg_mul]
    exact Sg_congr fun l _ => by grind
structure PwT (κ:KX) (s:Nat) (A:List (List κ.F)) (x:κ.F) (m:Nat) (T:List (List κ.F)):Prop where
  l:T.length = s
  w:Wid s T
  e:∀ i j,i < s → j < s → ent T i j = x ^ m * pw (ent A) s m i j
theorem PwT.one {s:Nat} {A:List (List κ.F)} {x:κ.F}:PwT κ s A x 0 (unitT κ s):=⟨unitT_len s,unitT_wid s,fun i j hi hj => by
  rw [ent_unit hi hj,pow0]
  show _ = 1 * (if i = j then 1 else 0)
  grind⟩
theorem powA (x:κ.F) (m:Nat):∀ k,x ^ (m + k) = x ^ m * x ^ k
  | 0 => by rw [Nat.add_zero,pow0]; grind
  | k + 1 => by rw [← Nat.add_assoc,powS,powA x m k,powS]; grind
theorem PwT.sq {s m:Nat} {A T:List (List κ.F)} {x:κ.F} (h:PwT κ s A x m T):PwT κ s A x (m + m) (mulT T T s):=by
  refine ⟨by rw [mulT_len]; exact h.l,mulT_wid _ _ _,fun i j hi hj => ?_⟩
  rw [ent_mul (by rw [h.l]; exact hi) hj,h.l,pw_add _ _ _ _ _ _ hi hj,Sg_mul,powA]
  exact Sg_congr fun l hl => by rw [h.e l j hl hj,h.e i l hi hl]; grind
theorem PwT.tm {s m:Nat} {A T:List (List κ.F)} {x:κ.F} (h:PwT κ s A x m T) (lA:A.length = s) (wA:Wid s A):PwT κ s A x (m + 1) (mulT T (sclT x A) s):=by
  refine ⟨by rw [mulT_len]; exact h.l,mulT_wid _ _ _,fun i j hi hj => ?_⟩
  rw [ent_mul (by rw [h.l]; exact hi) hj,sclT_len,lA,← pw_comm _ _ _ _ _ hi hj,Sg_mul,powS]
  exact Sg_congr fun l hl => by rw [ent_scl x wA (by omega) hj,h.e i l hi hl]; grind
def Cs (s:Nat):Nat:=s ^ 3 * 216
def SzP (κ:KX) (s m:Nat) (R:List (List κ.F)):Prop:=match κ with
  | .q => ∃ B:Nat,AllR (κ:=.q) (QN .q ((6 ^ m:Nat):Int) B) R ∧ s * B ≤ Cs s ^ m * (if m = 0 then s else 1)
  | .r _ _ => True
def PrS (κ:KX) (s n:Nat):Prop:=match κ with
  | .q => Cs s ^ n ≤ 10 ^ 480 ∧ 6 ^ n ≤ 10 ^ 190
  | .r _ _ => True
theorem SzP.get {s m n:Nat} {R:List (List κ.F)} (h:SzP κ s m R) (hm:m ≤ n) (p:PrS κ s n) (s1:1 ≤ s) (s7:s ≤ 7):∃ D M:Nat,AllR (QN κ (D:Int) M) R ∧ 0 < D ∧ D ≤ 10 ^ 200 ∧ M ≤ 10 ^ 500:=by
  cases κ with
  | r p hp => exact ⟨1,0,fun _ _ _ _ => trivial,by decide,by decide,by decide⟩
  | q =>
    obtain ⟨B,q,l⟩:=h
    have hC:1 ≤ Cs s:=by unfold Cs; have:1 ≤ s ^ 3:=Nat.one_le_pow _ _ s1; omega
    have a:Cs s ^ m ≤ Cs s ^ n:=Nat.pow_le_pow_right hC hm
    have b:6 ^ m ≤ 6 ^ n:=Nat.pow_le_pow_right (by decide) hm
    have c:=p.1
    have d:=p.2
    refine ⟨6 ^ m,B,q,Nat.pow_pos (by decide),Nat.le_trans (Nat.le_trans b d) (by decide),?_⟩
    have e:(if m = 0 then s else 1) ≤ 7:=by split <;> omega
    have f:Cs s ^ m * (if m = 0 then s else 1) ≤ 10 ^ 480 * 7:=Nat.mul_le_mul (Nat.le_trans a c) e
    have g:1 * B ≤ s * B:=Nat.mul_le_mul_right _ s1
    have h:10 ^ 480 * 7 ≤ 10 ^ 500:=by decide
    omega
theorem SzP.one (s:Nat):SzP κ s 0 (unitT κ s):=by
  cases κ with
  | r p hp => trivial
  | q => exact ⟨1,unitT_qn s,by rw [if_pos rfl,Nat.pow_zero]; omega⟩
theorem SzP.sq {s m:Nat} {T:List (List κ.F)} (h:SzP κ s m T) (hm:1 ≤ m) (l:T.length = s) (w:Wid s T):SzP κ s (m + m) (mulT T T s):=by
  cases κ with
  | r p hp => trivial
  | q =>
    obtain ⟨B,q,hB⟩:=h
    rw [if_neg (by omega),Nat.mul_one] at hB
    have a:=mulT_qn (κ:=.q) (L:=s) (Nat.pow_pos (by decide)) (Nat.pow_pos (by decide)) (by rw [l]; exact w) w q q (by omega)
    rw [← Nat.pow_add] at a
    refine ⟨_,a,?_⟩
    rw [if_neg (by omega),Nat.mul_one,Nat.pow_add]
    have:=Nat.mul_le_mul hB hB
    have e:s * (s * (B * B)) = s * B * (s * B):=by grind
    omega
theorem SzP.tm {s m:Nat} {T P:List (List κ.F)} (h:SzP κ s m T) (hm:1 ≤ m) (s1:1 ≤ s) (w:Wid s T) (lP:P.length = s) (wP:Wid s P) (hP:AllR (QN κ ((6:Nat):Int) 216) P):SzP κ s (m + 1) (mulT T P s):=by
  cases κ with
  | r p hp => trivial
  | q =>
    obtain ⟨B,q,hB⟩:=h
    rw [if_neg (by omega),Nat.mul_one] at hB
    have a:=mulT_qn (κ:=.q) (L:=s) (Nat.pow_pos (by decide)) (by decide) (by rw [lP]; exact w) wP q hP (by omega)
    rw [← Nat.pow_succ] at a
    refine ⟨_,a,?_⟩
    rw [if_neg (by omega),Nat.mul_one,Nat.pow_succ]
    have e:s * (s * (B * 216)) = s * B * (s * 216):=by grind
    rw [e]
    refine Nat.mul_le_mul hB ?_
    unfold Cs
    refine Nat.mul_le_mul_right _ ?_
    have:s ^ 1 ≤ s ^ 3:=Nat.pow_le_pow_right s1 (by decide)
    rwa [Nat.pow_one] at this
theorem SzP.first {s:Nat} {P:List (List κ.F)} (lP:P.length = s) (wP:Wid s P) (hP:AllR (QN κ ((6:Nat):Int) 216) P):SzP κ s 1 (mulT (mulT (unitT κ s) (unitT κ s) s) P s):=by
  cases κ with
  | r p hp => trivial
  | q =>
    have a:=mulT_qn (κ:=.q) (L:=s) (m:=s) (by decide) (by decide) (by rw [unitT_len]; exact unitT_wid s) (unitT_wid s) (unitT_qn s) (unitT_qn s) (by rw [unitT_len]; exact Nat.le_refl _)
    have b:=mulT_qn (κ:=.q) (L:=s) (by decide) (by decide) (by rw [lP]; exact mulT_wid _ _ _) wP a hP (by omega)
    refine ⟨_,b,?_⟩
    rw [if_neg (by decide),Nat.mul_one,Nat.pow_one]
    unfold Cs
    exact Nat.le_of_eq (by grind)
noncomputable def movT (F:List κ.F):List (List κ.F):=(List.range (F.length - 1)).map (fun i => uRow κ F.length (i + 1)) ++ [F.reverse]
noncomputable def zS (F G:List κ.F) (m:Nat):κ.F:=(lastC (movT F) G m).getD 0 0
noncomputable def nxt (F row:List κ.F) (k:Nat):κ.F:=Sg (fun k => F.getD k 0 * row.getD (row.length - 1 - k) 0) k
end
def MethNumC (P:Program) (w:World) (K:PySem.W.Frag) (mg:Str → Option Value) (base:Heap) (CF CR:Addr):Prop :=
  ∀ (κ:KX) (H:Hp) (s:Addr),KdX CF CR κ H s → ∃ C dx fs ps dvs sp,H s = some (.ins C dx fs) ∧ Cls K C ∧ HasMX P w K mg base C "number" 3 ps dvs sp ∧ fs.lookup ("number" : Str) = none ∧ dvs = [] ∧
    ∀ (H':Hp) (b:Int) (y:κ.F) (Q:VK) (E:XK),Same H H' → NumV κ b y → 0 < b → b.natAbs ≤ 10 ^ 1000 → (κ ≠ .q → b = 1) → (∀ v H'',Same H' H'' → NR κ H'' v (Fd.inv y) → Q v H'') → sp [.ref s,.int 1,.int b] H' Q E
def sp_power_parts (CF CR:Addr):Sp:=fun vs H Q _ => ∃ (κ:KX) (s a:Addr) (rs:List Addr) (A:List (List κ.F)) (n:Nat),vs = [.ref s,.ref a,.int (n:Int)] ∧ KdX CF CR κ H s ∧ TabL κ H a rs A A.length ∧ A.length ≤ 7 ∧ AllR (QN κ ((6:Nat):Int) 36) A ∧ n ≤ 10 ^ 60 ∧ PrS κ A.length n ∧ ∀ (H':Hp) (tp D:Addr) (rs':List Addr) (T:List (List κ.F)) (b:Int) (x:κ.F),Same H H' → H' tp = some (.tup [.ref D,.int b]) → TabL κ H' D rs' T A.length → PwT κ A.length A x n T → SzP κ A.length n T → x ≠ 0 → Wn κ b (x ^ n) (10 ^ 190) → Q (.ref tp) H'
end My
namespace My
open PySem L2 PyProof.Rows
section
variable {P:Program} {w:World} {K:PySem.W.Frag} {mg:Str → Option Value} {base:Heap} {CF CR cF cN:Addr}
theorem meth_numC (kd:Kd K mg CF CR) (hR:HasMX P w K mg base CR "number" 3 ["self", "top", "bottom"] [] (sp_Rnumber CR cN)):MethNumC P w K mg base CF CR:=by
  intro κ H s hk
  cases κ with
  | q => exact hk.elim
  | r p hp =>
    obtain ⟨dx,h⟩:=hk
    have h2:=hp.pr.1
    refine ⟨CR,dx,_,_,_,_,h,kd.clR,hR,fsR_no p (by decide),rfl,fun H' b y Q E S hy b0 bl b1 k => ?_⟩
    have b1:=b1 (fun z => nomatch z)
    subst b1
    refine ⟨s,p,1,1,rfl,⟨dx,S _ _ h⟩,hp.pr,by have:=hp.lt; omega,by decide,by decide,fun z => ?_,fun _ H'' r S' r0 r1 rd => ?_⟩
    · have:=Int.le_of_dvd (by decide) z
      omega
    · refine k _ H'' S' ?_
      have ey:y = K1 (.r p hp):=hy.uniq numV1
      subst ey
      have ei:(KX.r p hp).invF (K1 (.r p hp)) = K1 (.r p hp):=by
        have:(KX.r p hp).mulF (K1 (.r p hp)) (K1 (.r p hp)) = K1 (.r p hp):=one_mulK
        exact (inv_uniqK this).symm
      show V.int r = V.int ((Fin.val ((KX.r p hp).invF (K1 (.r p hp))):Nat):Int)
      rw [ei,one_val]
      congr 1
      rw [Int.mul_one] at rd
      have e3:r % p = 1 % p:=Int.emod_eq_emod_iff_emod_sub_eq_zero.mpr (Int.emod_eq_zero_of_dvd rd)
      rw [Int.emod_eq_of_lt r0 r1,Int.emod_eq_of_lt (by decide) (by omega)] at e3
      exact e3
theorem sc_power_parts:FnScope ["kind", "A", "n", "part", "total", "bottom", "place"] ["kind", "A", "n"] (defScope s_power_parts):=⟨rfl,rfl,rfl,by decide +kernel,rfl,by decide +kernel,by decide +kernel⟩
theorem ok_power_parts (h:Here K mg "power_parts" s_power_parts) (T:Nm mg) (h_evenly_freed:Has P w K mg base "evenly_freed" 6 ["kind", "table"] (sp_evenly_freedX CF CR)) (h_unit:Has P w K mg base "unit" 6 ["kind", "size"] (sp_unitX CF CR)) (h_times_table:HasX P w K mg base "times_table" 6 ["kind", "A", "B"] (sp_times_tableX CF CR)):Has P w K mg base "power_parts" 7 ["kind", "A", "n"] (sp_power_parts CF CR):=by
  refine h.has (fun f fd F => F.binds fun _ _ _ _ _ _ us hl => by obtain ⟨_,_,_,rfl⟩:=len3 hl; exact rfl) fun f fd F => F.ok sc_power_parts (fun vs H Q E h => ?_) (fun cdv A outer s H vs Q E hr h => ?_)
  · obtain ⟨_,_,_,_,_,_,rfl,_⟩:=h
    rfl
  obtain ⟨κ,sk,a,rs,A,n,rfl,hk,ta,l7,qA,n60,pr,k⟩:=h
  have nd:=sc_power_parts.nd
  refine ⟨_,(pss_cons (ps_set (i:=3) nd rfl (Or.inl rfl) (pe_has h_evenly_freed hr (by rfl) (pa_cons (pv 0) (pa_cons (pv 1) pa_nil))))
    (pss_cons (ps_set (i:=4) nd rfl (Or.inl rfl) (pe_has h_unit hr (by rfl) (pa_cons (pv 0) (pa_cons (pe_callB call_len_seq (by rfl) T.len boot_len (pa_cons (pv 1) pa_nil)) pa_nil))))
    (pss_cons (ps_set (i:=5) nd rfl (Or.inl rfl) pe_int)
    (pss_cons (ps_for PassesOwn.never rfl (pi_rangeD (by rfl) T.range (pa_cons (pe_op op_sub (pe_bm0 PySem.F.plainAttrs_int PySem.F.slot_int_bit_length PySem.F.type_int_bit_length mt_bitlen (pv 2)) pe_int) (pa_cons (pe_un un_neg pe_int) (pa_cons (pe_un un_neg pe_int) pa_nil)))) (pg_name (i:=6) nd rfl (Or.inl rfl)) (pss_cons (ps_set (i:=4) nd rfl (Or.inl rfl) (pe_hasX h_times_table passN hr (by rfl) (pa_cons (pv 0) (pa_cons (pv 4) (pa_cons (pv 4) pa_nil)))))
      (pss_cons (ps_aug (i:=5) nd rfl (Or.inl rfl) (pv 5) ip_mulO)
      (pss_one (ps_if (pt_cmpR op_eq (pe_op op_mod (pe_op op_shr (pv 2) (pv 6)) pe_int) pe_int (nomark _)) (pss_cons (ps_set (i:=4) nd rfl (Or.inl rfl) (pe_hasX h_times_table passN hr (by rfl) (pa_cons (pv 0) (pa_cons (pv 4) (pa_cons (pe_ix ix_tup (pv 3) pe_int (fun _ _ => rfl)) pa_nil)))))
        (pss_one (ps_aug (i:=5) nd rfl (Or.inl rfl) (pe_ix ix_tup (pv 3) pe_int (fun _ _ => rfl)) ip_mulO))) pss_nil)))))
    (pss_one (ps_ret (pe_tup (pa_cons (pv 4) (pa_cons (pv 5) pa_nil))))))))),?_⟩
  have lr:=ta.r.1
  have s1:=ta.n1
  obtain ⟨sz,hsz⟩:∃ sz,A.length = sz:=⟨_,rfl⟩
  refine ⟨_,rfl,_,rfl,κ,sk,a,rs,A,A.length,6,36,rfl,hk,ta,qA,by decide,by decide,by decide,fun H1 tp pa ps bA x S1 htp bt nx tp1 => ?_⟩
  refine ⟨_,rfl,_,rfl,a,_,rfl,.inl (SqL.of (S1 _ _ ta.l)),?_⟩
  rw [List.length_map,lr]
  refine ⟨κ,sk,A.length,rfl,hk.same S1,by omega,fun H2 ua us S2 nua hua rxu => ?_⟩
  have S02:=S1.trans S2
  have qFl:∀ y ∈ A.flatten,QN κ ((6:Nat):Int) 36 y:=fun y hy => by
    obtain ⟨f,hf,hy⟩:=List.mem_flatten.mp hy
    exact qA f hf y hy
  have wx:Wn κ bA x 6:=wn_bot (by decide) (by decide) qFl bt nx
  have xne:=wx.ne
  have qP:AllR (QN κ ((6:Nat):Int) 216) (sclT x A):=fun f hf y hy => (sclT_qn (D:=1) (E:=6) wx.qn qA f hf y hy).mono (by decide)
  have lP:(sclT x A).length = A.length:=sclT_len x A
  have wP:Wid A.length (sclT x A):=sclT_wid ta.w x
  have tp2:=tp1.same S2
  have htp2:=S2 _ _ htp
  have tu:TabL κ H2 ua us (unitT κ A.length) A.length:=⟨hua,rxu,unitT_wid _,by rw [unitT_len]; exact s1,by rw [unitT_len]; omega,by omega⟩
  obtain ⟨bl,hbl⟩:∃ bl,Builtin.Int.intBits (n:Int) = bl:=⟨_,rfl⟩
  have n2:n < 2 ^ bl:=by
    have:Bits bl (n:Int):=Nat.le_of_eq hbl
    have:=this.lt
    rwa [Int.natAbs_natCast] at this
  have n3:∀ i,i < bl → 2 ^ i ≤ n:=fun i hi => by
    rcases Nat.lt_or_ge n (2 ^ i) with c | c
    · have:Bits i (n:Int):=Bits.of (by rw [Int.natAbs_natCast]; exact c)
      have:Builtin.Int.intBits (n:Int) ≤ i:=this
      omega
    · exact c
  have bl200:bl ≤ 200:=by
    rcases Nat.lt_or_ge 200 bl with c | c
    · have:=n3 200 c
      have:(2:Nat) ^ 200 ≤ 10 ^ 60:=Nat.le_trans this n60
      exact absurd this (by decide)
    · exact c
  refine ⟨_,rfl,rfl,(n:Int),rfl,rfl,_,_,rfl,rfl,_,rfl,_,rfl,(bl:Int) - 1,-1,(by rw [hbl]),⟨by omega,by omega,by omega,by omega⟩,?_⟩
  rw [show ((bl:Int) - 1 - -1).toNat = bl by omega]
  refine for_down (hi:=(bl:Int) - 1) (n:=bl) (fun i σ H3 => ∃ (z6:Option V) (da:Addr) (ds:List Addr) (Tt:List (List κ.F)) (b:Int),σ = [some (.ref sk),some (.ref a),some (.int (n:Int)),some (.ref tp),some (.ref da),some (.int b),z6] ∧ i ≤ bl ∧ Same H2 H3 ∧ TabL κ H3 da ds Tt A.length ∧ PwT κ A.length A x (n / 2 ^ (bl - i)) Tt ∧ SzP κ A.length (n / 2 ^ (bl - i)) Tt ∧ (i = 0 → Tt = unitT κ A.length) ∧ Wn κ b (x ^ (n / 2 ^ (bl - i))) (6 ^ (n / 2 ^ (bl - i)))) ?_ ?_ ?_
  · have z:n / 2 ^ (bl - 0) = 0:=Nat.div_eq_of_lt n2
    rw [z]
    exact ⟨_,ua,us,_,1,rfl,by omega,Same.refl _,tu,PwT.one,SzP.one _,fun _ => rfl,by rw [pow0]; exact wn1⟩
  · rintro i σ H3 hi ⟨z6,da,ds,Tt,b,rfl,_,S3,td,pt,sz3,t0,wb⟩
    have S03:=S02.trans S3
    obtain ⟨m,hm⟩:∃ m,n / 2 ^ (bl - i) = m:=⟨_,rfl⟩
    obtain ⟨m',hm'⟩:∃ m',n / 2 ^ (bl - 1 - i) = m':=⟨_,rfl⟩
    have mm:m' / 2 = m:=by
      rw [← hm,← hm',Nat.div_div_eq_div_mul,← Nat.pow_succ,show (bl - 1 - i).succ = bl - i by omega]
    have mn:m' ≤ n:=by rw [← hm']; exact Nat.div_le_self _ _
    rw [hm] at pt sz3 wb
    have i0:m = 0 ↔ i = 0:=by
      constructor
      · intro z
        rcases Nat.eq_zero_or_pos i with c | c
        · exact c
        · have:=n3 (bl - i) (by omega)
          have:1 ≤ n / 2 ^ (bl - i):=(Nat.one_le_div_iff (Nat.pow_pos (by decide))).mpr this
          omega
      · intro z
        subst z
        rw [← hm]; exact Nat.div_eq_of_lt n2
    have f1:i = 0 → m' = 1:=fun z => by
      subst z
      rw [← hm']
      have a1:=n3 (bl - 1) (by omega)
      have a2:n < 2 * 2 ^ (bl - 1):=by rw [Nat.mul_comm,← Nat.pow_succ,show (bl - 1).succ = bl by omega]; exact n2
      show n / 2 ^ (bl - 1 - 0) = 1
      rw [Nat.sub_zero]
      have:1 ≤ n / 2 ^ (bl - 1):=(Nat.one_le_div_iff (Nat.pow_pos (by decide))).mpr a1
      have:n / 2 ^ (bl - 1) < 2:=Nat.div_lt_of_lt_mul (by omega)
      omega
    have lT:=pt.l
    have wT:=pt.w
    obtain ⟨D,M,qT,d0,d1,m1⟩:=sz3.get (show m ≤ n by omega) pr s1 l7
    refine ⟨_,rfl,_,rfl,_,rfl,κ,sk,da,da,ds,ds,Tt,Tt,A.length,D,D,M,M,rfl,hk.same S03,(by rw [lT]; exact td),td,qT,qT,d0,d1,d0,d1,m1,m1,fun H4 ea es S4 te => ?_⟩
    have S34:=S3.trans S4
    have S04:=S02.trans S34
    have pt2:=pt.sq
    have sq:∃ D M:Nat,AllR (QN κ (D:Int) M) (mulT Tt Tt A.length) ∧ 0 < D ∧ D ≤ 10 ^ 200 ∧ M ≤ 10 ^ 500:=by
      rcases Nat.eq_zero_or_pos m with c | c
      · rw [t0 (i0.mp c)]
        have:=mulT_qn (κ:=κ) (L:=A.length) (m:=A.length) (D:=1) (E:=1) (M:=1) (N:=1) (by decide) (by decide) (by rw [unitT_len]; exact unitT_wid _) (unitT_wid _) (unitT_qn _) (unitT_qn _) (by rw [unitT_len]; exact Nat.le_refl _)
        exact ⟨_,_,this,by decide,by decide,Nat.le_trans (show A.length * (1 * 1) ≤ 7 by omega) (by decide)⟩
      · exact (sz3.sq c lT wT).get (show m + m ≤ n by omega) pr s1 l7
    obtain ⟨D2,M2,q2,d20,d21,m21⟩:=sq
    have lb:b.natAbs ≤ 10 ^ 1000:=by
      cases κ with
      | r p hp => rw [wb.r (fun z => nomatch z)]; decide
      | q =>
        have:6 ^ m ≤ 6 ^ n:=Nat.pow_le_pow_right (by decide) (by omega)
        exact Nat.le_trans wb.l (Nat.le_trans this (Nat.le_trans pr.2 (by decide)))
    have w2:=wb.mul wb
    rw [← powA,← Nat.pow_add] at w2
    refine ⟨_,rfl,_,rfl,b,b,rfl,rfl,mulL lb lb,?_⟩
    refine ⟨_,rfl,_,rfl,_,_,rfl,rfl,(show (0:Int) ≤ (bl:Int) - 1 - i by omega),_,_,rfl,rfl,(by show (0:Int) < 2; decide),rfl,_,rfl,?_⟩
    have ev:(n:Int) / 2 ^ ((bl:Int) - 1 - i).toNat % 2 = ((m' % 2:Nat):Int):=by
      rw [show ((bl:Int) - 1 - i).toNat = bl - 1 - i by omega,← hm',Int.natCast_emod,Int.natCast_ediv,Int.natCast_pow]; rfl
    have em':n / 2 ^ (bl - (i + 1)) = m':=by rw [← hm']; congr 2; omega
    refine if_eqI (fun z => ?_) (fun z => ?_)
    · have z:(n:Int) / 2 ^ ((bl:Int) - 1 - i).toNat % 2 = 1:=z
      rw [ev] at z
      have e2:m' = m + m + 1:=by omega
      refine ⟨_,rfl,_,rfl,_,rfl,tp,_,0,_,rfl,rfl,SqT.of (S34 _ _ htp2),rfl,κ,sk,ea,pa,es,ps,mulT Tt Tt A.length,sclT x A,A.length,D2,6,M2,216,rfl,hk.same S04,(by rw [lP]; exact te),tp2.same S34,q2,qP,d20,d21,by decide,by decide,m21,by decide,fun H5 ga gs S5 tg => ?_⟩
      have lb2:(b * b).natAbs ≤ 10 ^ 1000:=by
        cases κ with
        | r p hp => rw [w2.r (fun z => nomatch z)]; decide
        | q =>
          have:6 ^ (m + m) ≤ 6 ^ n:=Nat.pow_le_pow_right (by decide) (by omega)
          exact Nat.le_trans w2.l (Nat.le_trans this (Nat.le_trans pr.2 (by decide)))
      have w3:=w2.mul wx
      rw [← powS,← Nat.pow_succ] at w3
      refine ⟨_,rfl,_,rfl,tp,_,1,_,rfl,rfl,SqT.of ((S34.trans S5) _ _ htp2),rfl,b * b,bA,rfl,rfl,mulL lb2 (Nat.le_trans wx.l (by decide)),?_⟩
      refine ⟨_,ga,gs,_,b * b * bA,rfl,by omega,S34.trans S5,tg,?_,?_,fun q => absurd q (by omega),?_⟩
      · rw [em',e2]; exact pt2.tm rfl ta.w
      · rw [em',e2]
        rcases Nat.eq_zero_or_pos m with c | c
        · rw [c,t0 (i0.mp c)]; exact SzP.first lP wP qP
        · exact (sz3.sq c lT wT).tm (by omega) s1 (mulT_wid _ _ _) lP wP qP
      · rw [em',e2]; exact w3
    · have z:¬ ((n:Int) / 2 ^ ((bl:Int) - 1 - i).toNat % 2 = 1):=z
      rw [ev] at z
      have e2:m' = m + m:=by omega
      have m1':1 ≤ m:=by
        rcases Nat.eq_zero_or_pos m with c | c
        · have:=f1 (i0.mp c); omega
        · exact c
      refine ⟨_,ea,es,_,b * b,rfl,by omega,S34,te,?_,?_,fun q => absurd q (by omega),?_⟩
      · rw [em',e2]; exact pt2
      · rw [em',e2]; exact sz3.sq m1' lT wT
      · rw [em',e2]; exact w2
  · rintro σ H3 ⟨z6,da,ds,Tt,b,rfl,_,S3,td,pt,sz3,t0,wb⟩
    have z:n / 2 ^ (bl - bl) = n:=by rw [Nat.sub_self,Nat.pow_zero,Nat.div_one]
    rw [z] at pt sz3 wb
    refine ⟨_,rfl,_,rfl,(by show 2 ≤ sizeLine; decide),fun tq ntq => ?_⟩
    have St:=same_new ntq (.tup [.ref da,.int b])
    refine k _ tq da ds Tt b x (S02.trans (S3.trans St)) upd_same (td.same St) pt sz3 xne ⟨wb.n,wb.p,?_,wb.r⟩
    cases κ with
    | r p hp => rw [wb.r (fun z => nomatch z)]; decide
    | q => exact Nat.le_trans wb.l pr.2
end
end My
set_option maxHeartbeats 1000000
namespace My
open PySem L2 PyProof.Rows
section
variable {κ:KX}
theorem pw_one (a:Nat → Nat → κ.F) (n:Nat) {i j:Nat} (hj:j < n):pw a n 1 i j = a i j:=by
  show Sg (fun l => a i l * (if l = j then 1 else 0)) n = _
  have:=Sg_one (fun l => a i l) j n
  rw [if_pos hj] at this
  rw [← this]
  exact Sg_congr fun l _ => by
    by_cases e:l = j
    · rw [if_pos e,if_pos e.symm]
    · rw [if_neg e,if_neg (Ne.symm e)]
theorem pw_congr {a b:Nat → Nat → κ.F} {n:Nat} (h:∀ i j,i < n → j < n → a i j = b i j):∀ k i j,i < n → j < n → pw a n k i j = pw b n k i j
  | 0,i,j,_,_ => rfl
  | k + 1,i,j,hi,hj => by
    show Sg _ n = Sg _ n
    exact Sg_congr fun l hl => by rw [h i l hi hl,pw_congr h k l j hl hj]
theorem Sg_mulR (c:κ.F) (h:Nat → κ.F) (n:Nat):Sg h n * c = Sg (fun i => h i * c) n:=by
  have e:Sg h n * c = c * Sg h n:=by grind
  rw [e,Sg_mul]
  exact Sg_congr fun i _ => by grind
theorem pw_inv {a b:Nat → Nat → κ.F} {n:Nat} (h:∀ i j,i < n → j < n → Sg (fun l => a i l * b l j) n = if i = j then 1 else 0):∀ k i j,i < n → j < n → Sg (fun l => pw a n k i l * pw b n k l j) n = if i = j then 1 else 0
  | 0,i,j,hi,hj => by
    show Sg (fun l => (if i = l then 1 else 0) * (if l = j then 1 else 0)) n = _
    have:=Sg_one (fun l => if l = j then (1:κ.F) else 0) i n
    rw [if_pos hi] at this
    rw [← this]
    exact Sg_congr fun l _ => by grind
  | k + 1,i,j,hi,hj => by
    have e:∀ l,l < n → pw a n (k + 1) i l * pw b n (k + 1) l j = Sg (fun p => Sg (fun q => pw a n k i p * (a p l * b l q) * pw b n k q j) n) n:=fun l hl => by
      rw [pw_add a n k 1 i l hi hl,show k + 1 = 1 + k by omega,pw_add b n 1 k l j hl hj,Sg_mulR]
      refine Sg_congr fun p hp => ?_
      rw [Sg_mul]
      refine Sg_congr fun q hq => ?_
      rw [pw_one a n hl,pw_one b n hq]
      grind
    rw [Sg_congr e,Sg_comm]
    have e2:∀ p,p < n → Sg (fun l => Sg (fun q => pw a n k i p * (a p l * b l q) * pw b n k q j) n) n = pw a n k i p * pw b n k p j:=fun p hp => by
      rw [Sg_comm]
      have e3:∀ q,q < n → Sg (fun l => pw a n k i p * (a p l * b l q) * pw b n k q j) n = pw a n k i p * ((if p = q then 1 else 0) * pw b n k q j):=fun q hq => by
        rw [← h p q hp hq,Sg_mulR,Sg_mul]
        exact Sg_congr fun l _ => by grind
      rw [Sg_congr e3,← Sg_mul]
      congr 1
      have:=Sg_one (fun q => pw b n k q j) p n
      rw [if_pos hp] at this
      rw [← this]
      exact Sg_congr fun q _ => by grind
    rw [Sg_congr e2]
    exact pw_inv h k i j hi hj
theorem sumP_Sg (f v:Nat → κ.F):∀ n,sumP f v n = Sg (fun i => f i * v i) n
  | 0 => rfl
  | n + 1 => by
    show sumP f v n + _ = Sg _ n + _
    rw [sumP_Sg f v n]
end
def sp_scaledN (CF CR:Addr):Sp:=fun vs H Q _ => ∃ (κ:KX) (s a:Addr) (cv:V) (c:κ.F) (rs:List Addr) (R:List (List κ.F)) (m:Nat),vs = [.ref s,cv,.ref a] ∧ KdX CF CR κ H s ∧ NR κ H cv c ∧ B1 κ c ∧ TabL κ H a rs R m ∧ AllR (B1 κ) R ∧ ∀ (H':Hp) (D:Addr) (rs':List Addr),Same H H' → TabL κ H' D rs' (sclT c R) m → (∀ a ∈ rs',H a = none) → H D = none → rs'.Nodup → D ∉ rs' → Q (.ref D) H'
def spPower (CF CR cF cI:Addr) (sp0:Sp):Sp:=fun vs H Q E => ∃ (κ:KX) (s a:Addr) (rs:List Addr) (A:List (List κ.F)) (m:Nat) (n:Int),vs = [.ref s,.ref a,.int n] ∧ KdX CF CR κ H s ∧ TabR κ H a rs A m ∧ (A.length ≠ m → E (.ref cF) none H) ∧ (A.length = m → m ≤ 7 ∧
  (0 ≤ n → AllR (QN κ ((6:Nat):Int) 36) A ∧ n ≤ 10 ^ 60 ∧ PrS κ m n.toNat ∧ ∀ (H':Hp) (D:Addr) (as:List Addr) (T:List (List κ.F)),Same H H' → H' D = some (.lst (as.map V.ref)) → RowsX κ H' as T → T.length = m → Wid m T → (∀ i j,i < m → j < m → ent T i j = pw (ent A) m n.toNat i j) → as.Nodup → D ∉ as → (∀ b ∈ as,H b = none) → H D = none → Q (.ref D) H') ∧
  (n < 0 → ∃ (R:List (List κ.F)) (ts0:List (Tn κ)) (ls:List Nat),A = runT ts0 R ∧ R.length = m ∧ Wid m R ∧ (∀ t ∈ ts0,t.ok m) ∧ Ech R m m ls 1 ∧ QT κ m (wideR A (([]:List κ.F).map (1 * ·))) ∧
    (ls.length < m → ∀ (H':Hp) (d:Addr),Same H H' → H' d = some (.xd [("rank", .int (ls.length:Int))]) → E (.ref cI) (some d) H') ∧
    (ls.length = m → ∀ (H':Hp) (D:Addr) (as:List Addr) (ts:List (Tn κ)),Same H H' → H D = none → H' D = some (.lst (as.map V.ref)) → RowsX κ H' as (runT ts (unitT κ m)) → (∀ t ∈ ts,t.ok m) → runT ts (runT ts0 R) = R → sp0 [.ref s,.ref D,.int (-n)] H' Q E)))
end My
namespace My
open PySem L2 PyProof.Rows
section
variable {P:Program} {w:World} {K:PySem.W.Frag} {mg:Str → Option Value} {base:Heap} {CF CR cF cI:Addr}
theorem ok_scaledN (h:Here K mg "scaled" s_scaled) (h_scaled_row:Has P w K mg base "scaled_row" 3 ["kind", "number", "row"] (sp_scaled_rowX CF CR)):Has P w K mg base "scaled" 4 ["kind", "number", "table"] (sp_scaledN CF CR):=by
  refine h.has (fun f fd F => F.binds fun _ _ _ _ _ _ us hl => by obtain ⟨_,_,_,rfl⟩:=len3 hl; exact rfl) fun f fd F => F.ok sc_scaled (fun vs H Q E h => ?_) (fun cdv A outer s H vs Q E hr h => ?_)
  · obtain ⟨_,_,_,_,_,_,_,_,rfl,_⟩:=h
    rfl
  obtain ⟨κ,sk,a,cv,c,rs,R,m,rfl,hk,nc,bc,tb,bR,k⟩:=h
  refine ⟨_,(pss_one (ps_ret (pe_comp ["row"] [(0, "kind"),(1, "number")] rfl (pi_list (pv 2)) (by exact fun _ _ _ _ => (pg_name (i:=0) (show (["row", "kind", "number"]:List Str).Nodup by decide +kernel) rfl (Or.inl rfl))) (by exact fun _ _ _ _ => (pe_has h_scaled_row hr (by rfl) (pa_cons (pv 1) (pa_cons (pv 2) (pa_cons (pv 0) pa_nil))))) ⟨⟨rfl,rfl,Or.inl rfl⟩,⟨⟨rfl,rfl,Or.inl rfl⟩,trivial⟩⟩))),?_⟩
  have lr:=tb.r.1
  have n9:=tb.n9
  have m9:=tb.m9
  refine ⟨_,rfl,a,rfl,⟨_,SqL.of tb.l⟩,?_⟩
  refine comp_list (K:=K) (a:=a) (xs:=rs.map V.ref) (fun i ys H2 => Same H H2 ∧ ∃ ds:List Addr,ys = ds.map V.ref ∧ RowsX κ H2 ds ((R.take i).map fun r => r.map (c * ·)) ∧ (∀ d ∈ ds,H d = none) ∧ ds.Nodup) (by rw [List.length_map]; omega) ⟨Same.refl _,[],rfl,.nil,(fun d h => nomatch h),List.nodup_nil⟩ (fun i ys H2 _ q => SqL.of (q.1 _ _ tb.l)) ?_ ?_
  · rintro i x ys H2 hx hl ⟨S2,ds,rfl,rx,fr,nd⟩
    obtain ⟨b,hb,rfl⟩:=map_ref_get hx
    obtain ⟨f,hf⟩:=get_of_lt hb lr
    obtain ⟨zs,hz,al⟩:=tb.r.2 i b f hb hf
    have mf:=List.mem_of_getElem? hf
    refine ⟨_,rfl,_,rfl,_,rfl,κ,sk,b,cv,c,zs,f,rfl,hk.same S2,nc.same S2,S2 _ _ hz,al.mono (fun _ _ n => n.same S2),bc,bR f mf,by rw [tb.w f mf]; omega,fun H3 D ws S3 nD hD e3 => ⟨S2.trans S3,ds ++ [D],by simp,?_,(fun d hd => ?_),?_⟩⟩
    · rw [List.take_succ,hf,List.map_append]
      exact (rx.same S3).snoc hD e3
    · rcases List.mem_append.mp hd with q | q
      · exact fr d q
      · rw [List.mem_singleton.mp q]; exact S2.free nD
    · rw [List.nodup_append]
      refine ⟨nd,by simp,fun x hx y hy e => ?_⟩
      rw [List.mem_singleton.mp hy] at e
      rw [e] at hx
      exact rx.notin nD hx
  · rintro ys H2 hl ⟨S2,ds,rfl,rx,fr,nd⟩ D nD
    have nin:=rx.notin nD
    rw [List.length_map,lr,List.take_length] at rx
    have SD:=same_new nD (.lst (ds.map V.ref))
    exact k _ D ds (S2.trans SD) ⟨upd_same,rx.same SD,sclT_wid tb.w c,by rw [sclT_len]; exact tb.n1,by rw [sclT_len]; exact tb.n9,tb.m9⟩ fr (S2.free nD) nd nin
theorem sc_power:FnScope ["kind", "A", "n", "found"] ["kind", "A", "n"] (defScope s_power):=⟨rfl,rfl,rfl,by decide +kernel,rfl,by decide +kernel,by decide +kernel⟩
theorem power0 (h:Here K mg "power" s_power):HasX P w K mg base "power" 9 ["kind", "A", "n"] spF :=
  h.hasX (fun f fd F => F.binds fun _ _ _ _ _ _ us hl => by obtain ⟨_,_,_,rfl⟩:=len3 hl; exact rfl) fun f fd F => ⟨fun _ _ _ _ z => z.elim,fun _ _ _ _ _ _ _ _ _ _ _ _ _ z => z.elim⟩
theorem ok_power {j:Nat} {sp0:Sp} (hj:9 ≤ j) (h:Here K mg "power" s_power) (mnC:MethNumC P w K mg base CF CR) (h_need_square:HasX P w K mg base "need_square" j ["table"] (sp_need_squareR cF)) (h_inverse:HasX P w K mg base "inverse" j ["kind", "table"] (sp_inverse CF CR cF cI)) (h_power_parts:Has P w K mg base "power_parts" j ["kind", "A", "n"] (sp_power_parts CF CR)) (h_scaled:Has P w K mg base "scaled" j ["kind", "number", "table"] (sp_scaledN CF CR)) (h_power:HasX P w K mg base "power" j ["kind", "A", "n"] sp0):HasX P w K mg base "power" (j + 1) ["kind", "A", "n"] (spPower CF CR cF cI sp0):=by
  refine h.hasX (fun f fd F => F.binds fun _ _ _ _ _ _ us hl => by obtain ⟨_,_,_,rfl⟩:=len3 hl; exact rfl) fun f fd F => F.okx sc_power (fun vs H Q E h => ?_) (fun cdv A outer s H vs Q E hr h => ?_)
  · obtain ⟨_,_,_,_,_,_,_,rfl,_⟩:=h
    rfl
  obtain ⟨κ,sk,a,rs,A,m,n,rfl,hk,ta,kF,kS⟩:=h
  have nd:=sc_power.nd
  refine ⟨_,(pss_cons (ps_expr (pe_hasX h_need_square passE hr (by rfl) (pa_cons (pv 1) pa_nil)))
    (pss_cons (ps_if (pt_cmpR op_lt (pv 2) pe_int (nomark _)) (pss_one (ps_ret (pe_hasX h_power passE hr (by rfl) (pa_cons (pv 0) (pa_cons (pe_hasX h_inverse passE hr (by rfl) (pa_cons (pv 0) (pa_cons (pv 1) pa_nil))) (pa_cons (pe_un un_neg (pv 2)) pa_nil)))))) pss_nil)
    (pss_cons (ps_set (i:=3) nd rfl (Or.inl rfl) (pe_has h_power_parts hr (by rfl) (pa_cons (pv 0) (pa_cons (pv 1) (pa_cons (pv 2) pa_nil)))))
    (pss_one (ps_ret (pe_has h_scaled hr (by rfl) (pa_cons (pv 0) (pa_cons (pe_methX (pv 0) passE hr (pa_cons pe_int (pa_cons (pe_ix ix_tup (pv 3) pe_int (fun _ _ => rfl)) pa_nil))) (pa_cons (pe_ix ix_tup (pv 3) pe_int (fun _ _ => rfl)) pa_nil))))))))),?_⟩
  refine ⟨_,rfl,κ,a,rs,A,m,rfl,ta,(fun sq => ?_),kF⟩
  obtain ⟨m7,kP,kN⟩:=kS sq
  refine ⟨_,rfl,_,_,rfl,rfl,_,rfl,?_⟩
  refine if_dec (fun z => ?_) (fun z => ?_)
  · have z:n < 0:=z
    obtain ⟨R,ts0,ls,eA,lR,wR,ok0,ech,qt,kI,kQ⟩:=kN z
    refine ⟨_,rfl,_,rfl,_,rfl,κ,sk,a,rs,A,m,rfl,hk,ta,(fun q => absurd sq q),(fun _ => ⟨m7,R,ts0,ls,eA,lR,wR,ok0,ech,qt,(fun l H' d S hd => kI l H' d S hd),(fun l H' D as ts S nD hD rx _ _ _ ok e => ?_)⟩)⟩
    exact ⟨_,rfl,_,rfl,kQ l H' D as ts S nD hD rx ok e⟩
  · have z:¬ n < 0:=z
    obtain ⟨qA,n60,pr,k⟩:=kP (by omega)
    have en:((n.toNat:Nat):Int) = n:=by omega
    have tl:TabL κ H a rs A A.length:=⟨ta.l,ta.r,by rw [sq]; exact ta.w,ta.n1,ta.n9,ta.n9⟩
    have n1:=ta.n1
    refine ⟨_,rfl,_,rfl,_,rfl,κ,sk,a,rs,A,n.toNat,(by rw [en]; rfl),hk,tl,by omega,qA,by omega,(by rw [sq]; exact pr),fun H1 tp D rs1 T b x S1 htp td pt szt xne wb => ?_⟩
    obtain ⟨D',M',qT,d0,d1,m1⟩:=szt.get (Nat.le_refl _) (by rw [sq]; exact pr) n1 (by omega)
    have bT:AllR (B1 κ) T:=fun f hf y hy => (qT f hf y hy).b1 (by omega) (by rw [Int.natAbs_natCast]; exact Nat.lt_of_le_of_lt d1 (Nat.lt_of_lt_of_le (show 10 ^ 200 < 2 ^ 1000 by decide) (Nat.pow_le_pow_right (by decide) (by decide)))) (Nat.lt_of_le_of_lt m1 (Nat.lt_of_lt_of_le (show 10 ^ 500 < 2 ^ 2000 by decide) (Nat.pow_le_pow_right (by decide) (by decide))))
    obtain ⟨Cn,dxn,fsn,psn,dvn,spn,e1,e2,e3,e4,rfl,e5⟩:=mnC κ H1 sk (hk.same S1)
    refine ⟨_,rfl,_,rfl,sk,Cn,dxn,fsn,psn,_,spn,rfl,e1,e2,e3.mono (by omega),e4,_,rfl,tp,_,1,_,rfl,rfl,SqT.of htp,rfl,e5 H1 b (x ^ n.toNat) _ _ (Same.refl _) wb.n wb.p (Nat.le_trans wb.l (by decide)) wb.r fun v4 H4 S4 n4 => ?_⟩
    have hqy:QN κ ((1:Nat):Int) (10 ^ 190) (x ^ n.toNat):=(numv_qn wb.n).mono wb.l
    obtain ⟨y,y0,yN,qy⟩:=qn_inv (E:=1) (N:=10 ^ 190) (by decide) (by decide) hqy wb.ne
    have bi:B1 κ (Fd.inv (x ^ n.toNat)):=qn_b60 y0 (Nat.le_trans yN (by decide)) (by decide) qy
    refine ⟨_,rfl,tp,_,0,_,rfl,rfl,SqT.of (S4 _ _ htp),rfl,κ,sk,D,v4,_,rs1,T,A.length,rfl,(hk.same S1).same S4,n4,bi,td.same S4,bT,fun H5 D5 rs5 S5 t5 fr nD5 nd5 nin5 => ?_⟩
    have S05:=S1.trans (S4.trans S5)
    refine k H5 D5 rs5 _ S05 t5.l t5.r (by rw [sclT_len,pt.l,sq]) (by rw [← sq]; exact t5.w) (fun i j hi hj => ?_) nd5 nin5 (fun b hb => S1.free (S4.free (fr b hb))) (S1.free (S4.free nD5))
    rw [← sq] at hi hj ⊢
    rw [ent_scl _ pt.w (by rw [pt.l]; exact hi) hj,pt.e i j hi hj]
    have:=Fd.mul_inv (x ^ n.toNat) wb.ne
    generalize pw (ent A) A.length n.toNat i j = q at *
    generalize x ^ n.toNat = u at *
    grind
end
end My
set_option maxHeartbeats 1000000
namespace My
open PySem L2 PyProof.Rows
section
variable {κ:KX}
structure Wek (R:List (List κ.F)) (n j:Nat) (ls:List Nat):Prop where
  le:ls.length ≤ n
  lt:∀ k < ls.length,ls.getD k 0 < j
  inc:∀ k k',k < k' → k' < ls.length → ls.getD k 0 < ls.getD k' 0
  piv:∀ k < ls.length,ent R k (ls.getD k 0) ≠ 0
  pre:∀ k < ls.length,∀ c < ls.getD k 0,ent R k c = 0
  out:∀ i,ls.length ≤ i → i < n → ∀ c < j,ent R i c = 0
theorem wek_nil {R:List (List κ.F)} {n:Nat}:Wek R n 0 []:=⟨Nat.zero_le _,fun k h => by simp at h,fun k k' _ h => by simp at h,fun k h => by simp at h,fun k h => by simp at h,fun i _ _ c hc => by omega⟩
theorem Wek.low {R:List (List κ.F)} {n j:Nat} {ls:List Nat} (h:Wek R n j ls) {k i:Nat} (hk:k < ls.length) (ki:k < i) (hi:i < n):ent R i (ls.getD k 0) = 0:=by
  by_cases q:i < ls.length
  · exact h.pre i q _ (h.inc k i ki q)
  · exact h.out i (by omega) hi _ (h.lt k hk)
theorem Wek.skip {R:List (List κ.F)} {n j:Nat} {ls:List Nat} (h:Wek R n j ls) (z:∀ i,ls.length ≤ i → i < n → ent R i j = 0):Wek R n (j + 1) ls :=
  ⟨h.le,fun k hk => Nat.lt_succ_of_lt (h.lt k hk),h.inc,h.piv,h.pre,fun i a b c hc => by
    by_cases e:c = j
    · rw [e]; exact z i a b
    · exact h.out i a b c (by omega)⟩
def mvT {α:Type} (R:List α) (q at_:Nat):List α:=match R[at_]? with
  | some f => (R.eraseIdx at_).take q ++ f :: (R.eraseIdx at_).drop q
  | none => R
theorem mvT_len {α:Type} {R:List α} {q a:Nat} (h:q ≤ a) (ha:a < R.length):(mvT R q a).length = R.length:=by
  unfold mvT
  rw [List.getElem?_eq_getElem ha]
  simp only [List.length_append,List.length_cons,List.length_take,List.length_drop,List.length_eraseIdx,if_pos ha]
  omega
theorem mvT_get {α:Type} {R:List α} {q a:Nat} (h:q ≤ a) (ha:a < R.length) (i:Nat):(mvT R q a)[i]? = if i < q then R[i]? else if i = q then R[a]? else if i ≤ a then R[i - 1]? else R[i]?:=by
  unfold mvT
  rw [List.getElem?_eq_getElem ha]
  show ((R.eraseIdx a).take q ++ R[a] :: (R.eraseIdx a).drop q)[i]? = _
  have le:((R.eraseIdx a).take q).length = q:=by
    rw [List.length_take,List.length_eraseIdx,if_pos ha]; omega
  by_cases i1:i < q
  · rw [List.getElem?_append_left (by omega),List.getElem?_take,if_pos i1,List.getElem?_eraseIdx,if_pos (by omega),if_pos i1]
  · rw [List.getElem?_append_right (by omega),le,if_neg i1]
    by_cases i2:i = q
    · rw [i2,Nat.sub_self,if_pos rfl]
      rfl
    · rw [if_neg i2,show i - q = (i - q - 1) + 1 by omega,List.getElem?_cons_succ,List.getElem?_drop,List.getElem?_eraseIdx]
      by_cases i3:i ≤ a
      · rw [if_pos (by omega),if_pos i3]
        congr 1; omega
      · rw [if_neg (by omega),if_neg i3]
        congr 1; omega
theorem mvT_run {q:Nat}:∀ {d:Nat} {R:List (List κ.F)},q + d < R.length → ∃ ts:List (Tn κ),(∀ t ∈ ts,t.ok R.length) ∧ runT ts R = mvT R q (q + d)
  | 0,R,h => by
    refine ⟨[],fun t ht => (nomatch ht),?_⟩
    apply List.ext_getElem?
    intro i
    rw [mvT_get (q:=q) (a:=q + 0) (by omega) h]
    show R[i]? = _
    split
    · rfl
    · split
      · rename_i e; rw [e]; rfl
      · rw [if_neg (by omega)]
  | d + 1,R,h => by
    have hs:∀ i,(doT (.swap ((q + d:Nat):Int) ((q + (d + 1):Nat):Int):Tn κ) R)[i]? = if i = q + (d + 1) then R[q + d]? else if i = q + d then R[q + (d + 1)]? else R[i]?:=fun i => by
      show ((R.set ((q + d:Nat):Int).toNat (R.getD ((q + (d + 1):Nat):Int).toNat [])).set ((q + (d + 1):Nat):Int).toNat (R.getD ((q + d:Nat):Int).toNat []))[i]? = _
      rw [Int.toNat_natCast,Int.toNat_natCast,List.getElem?_set,List.length_set]
      by_cases e:i = q + (d + 1)
      · rw [if_pos e.symm,if_pos h,if_pos e,List.getD_eq_getElem?_getD,List.getElem?_eq_getElem (by omega)]; rfl
      · rw [if_neg (Ne.symm e),if_neg e,List.getElem?_set]
        by_cases e2:i = q + d
        · rw [if_pos e2.symm,if_pos (by omega),if_pos e2,List.getD_eq_getElem?_getD,List.getElem?_eq_getElem h]; rfl
        · rw [if_neg (Ne.symm e2),if_neg e2]
    have l1:=doT_len (.swap ((q + d:Nat):Int) ((q + (d + 1):Nat):Int):Tn κ) R
    generalize hR1:doT (.swap ((q + d:Nat):Int) ((q + (d + 1):Nat):Int):Tn κ) R = R1 at *
    obtain ⟨ts,ok,e⟩:=mvT_run (q:=q) (d:=d) (R:=R1) (by omega)
    refine ⟨.swap ((q + d:Nat):Int) ((q + (d + 1):Nat):Int) :: ts,fun t ht => ?_,?_⟩
    · rcases List.mem_cons.mp ht with z | z
      · rw [z]; exact ⟨⟨by omega,by omega⟩,⟨by omega,by omega⟩,by omega⟩
      · rw [← l1]; exact ok t z
    · show runT ts (doT _ R) = _
      rw [hR1,e]
      apply List.ext_getElem?
      intro i
      rw [mvT_get (by omega) (by omega),mvT_get (by omega) h]
      by_cases i1:i < q
      · rw [if_pos i1,if_pos i1,hs,if_neg (by omega),if_neg (by omega)]
      · rw [if_neg i1,if_neg i1]
        by_cases i2:i = q
        · rw [if_pos i2,if_pos i2,hs,if_neg (by omega),if_pos rfl]
        · rw [if_neg i2,if_neg i2]
          by_cases i3:i ≤ q + d
          · rw [if_pos i3,if_pos (by omega),hs,if_neg (by omega),if_neg (by omega)]
          · rw [if_neg i3,hs]
            by_cases i4:i = q + (d + 1)
            · rw [if_pos i4,if_pos (by omega)]
              congr 1; omega
            · rw [if_neg i4,if_neg (by omega),if_neg (by omega)]
theorem mvT_wid {m:Nat} {R:List (List κ.F)} {q a:Nat} (h:q ≤ a) (ha:a < R.length) (wd:Wid m R):Wid m (mvT R q a):=by
  obtain ⟨ts,ok,e⟩:=mvT_run (q:=q) (d:=a - q) (R:=R) (by omega)
  rw [show q + (a - q) = a by omega] at e
  rw [← e]
  exact runT_wid wd ok
noncomputable def elR (R:List (List κ.F)) (q j i:Nat):List κ.F:=List.zipWith (fun x y => x * ent R q j - ent R i j * y) (R.getD i []) (R.getD q [])
theorem elR_run {m:Nat} {R:List (List κ.F)} {q j i:Nat} (wd:Wid m R) (hq:q < R.length) (hi:i < R.length) (ne:i ≠ q) (p:ent R q j ≠ 0):∃ ts:List (Tn κ),(∀ t ∈ ts,t.ok R.length) ∧ runT ts R = R.set i (elR R q j i):=by
  refine ⟨[.scale (i:Int) (ent R q j),.add (i:Int) (q:Int) (0 - ent R i j)],fun t ht => ?_,?_⟩
  · rcases List.mem_cons.mp ht with z | z
    · rw [z]; exact ⟨⟨by omega,by omega⟩,p⟩
    · rw [List.mem_singleton.mp z]; exact ⟨⟨by omega,by omega⟩,⟨by omega,by omega⟩,by omega⟩
  · show doT (.add (i:Int) (q:Int) (0 - ent R i j)) (doT (.scale (i:Int) (ent R q j)) R) = _
    show (R.set (i:Int).toNat ((R.getD (i:Int).toNat []).map (ent R q j * ·))).set (i:Int).toNat (List.zipWith (· + ·) ((R.set (i:Int).toNat ((R.getD (i:Int).toNat []).map (ent R q j * ·))).getD (i:Int).toNat []) (((R.set (i:Int).toNat ((R.getD (i:Int).toNat []).map (ent R q j * ·))).getD (q:Int).toNat []).map ((0 - ent R i j) * ·))) = _
    rw [Int.toNat_natCast,Int.toNat_natCast,List.set_set,getD_set_self hi,getD_set_ne ne]
    congr 1
    unfold elR
    generalize ent R q j = a
    generalize ent R i j = b
    rw [List.zipWith_map_left,List.zipWith_map_right]
    congr 1
    funext x y
    show a * x + (0 - b) * y = x * a - b * y
    grind
theorem elR_len {m:Nat} {R:List (List κ.F)} {q j i:Nat} (wd:Wid m R) (hq:q < R.length) (hi:i < R.length):(elR R q j i).length = m:=by
  unfold elR
  rw [List.length_zipWith,wd.get hi,wd.get hq,Nat.min_self]
theorem elR_ent {m:Nat} {R:List (List κ.F)} {q j i c:Nat} (wd:Wid m R) (hq:q < R.length) (hi:i < R.length) (hc:c < m):(elR R q j i).getD c 0 = ent R i c * ent R q j - ent R i j * ent R q c:=by
  unfold elR
  have l1:=wd.get hi
  have l2:=wd.get hq
  rw [List.getD_eq_getElem?_getD,List.getElem?_zipWith,List.getElem?_eq_getElem (show c < (R.getD i []).length by omega),List.getElem?_eq_getElem (show c < (R.getD q []).length by omega)]
  show (R.getD i [])[c] * ent R q j - ent R i j * (R.getD q [])[c] = _
  have e1:ent R i c = (R.getD i [])[c]:=by unfold ent; rw [List.getD_eq_getElem?_getD (l:=R.getD i []),List.getElem?_eq_getElem (by omega)]; rfl
  have e2:ent R q c = (R.getD q [])[c]:=by unfold ent; rw [List.getD_eq_getElem?_getD (l:=R.getD q []),List.getElem?_eq_getElem (by omega)]; rfl
  rw [e1,e2]
theorem Wek.step {m:Nat} {R R2:List (List κ.F)} {n j a:Nat} {ls:List Nat} (h:Wek R n j ls) (hn:R.length = n) (jm:j < m) (qa:ls.length ≤ a) (ha:a < n) (p:ent R a j ≠ 0)
    (e1:∀ i ≤ ls.length,∀ c < m,ent R2 i c = ent (mvT R ls.length a) i c)
    (e2:∀ i,ls.length < i → i < n → ∀ c < m,ent R2 i c = ent (mvT R ls.length a) i c * ent R a j - ent (mvT R ls.length a) i j * ent R a c):Wek R2 n (j + 1) (ls ++ [j]):=by
  have g:∀ i c,ent (mvT R ls.length a) i c = if i < ls.length then ent R i c else if i = ls.length then ent R a c else if i ≤ a then ent R (i - 1) c else ent R i c:=fun i c => by
    unfold ent
    rw [show (mvT R ls.length a).getD i [] = ((mvT R ls.length a)[i]?).getD [] from List.getD_eq_getElem?_getD,mvT_get qa (by omega)]
    split
    · rw [List.getD_eq_getElem?_getD (l:=R) (a:=[])]
    · split
      · rw [List.getD_eq_getElem?_getD (l:=R) (a:=[])]
      · split
        · rw [List.getD_eq_getElem?_getD (l:=R) (a:=[])]
        · rw [List.getD_eq_getElem?_getD (l:=R) (a:=[])]
  have gl:∀ k,k < ls.length → (ls ++ [j]).getD k 0 = ls.getD k 0:=fun k hk => by
    rw [List.getD_eq_getElem?_getD,List.getElem?_append_left hk,← List.getD_eq_getElem?_getD]
  have gq:(ls ++ [j]).getD ls.length 0 = j:=by
    rw [List.getD_eq_getElem?_getD,List.getElem?_append_right (Nat.le_refl _),Nat.sub_self]; rfl
  have ll:(ls ++ [j]).length = ls.length + 1:=by rw [List.length_append]; rfl
  refine ⟨by omega,fun k hk => ?_,fun k k' kk hk => ?_,fun k hk => ?_,fun k hk c hc => ?_,fun i hi hin c hc => ?_⟩
  · by_cases e:k = ls.length
    · rw [e,gq]; omega
    · rw [gl k (by omega)]; have:=h.lt k (by omega); omega
  · by_cases e:k' = ls.length
    · rw [e,gq,gl k (by omega)]; exact h.lt k (by omega)
    · rw [gl k (by omega),gl k' (by omega)]; exact h.inc k k' kk (by omega)
  · by_cases e:k = ls.length
    · rw [e,gq,e1 _ (Nat.le_refl _) j jm,g,if_neg (by omega),if_pos rfl]; exact p
    · have:=h.lt k (by omega)
      rw [gl k (by omega),e1 k (by omega) _ (by omega),g,if_pos (by omega)]; exact h.piv k (by omega)
  · by_cases e:k = ls.length
    · rw [e,gq] at hc
      rw [e,e1 _ (Nat.le_refl _) c (by omega),g,if_neg (by omega),if_pos rfl]
      exact h.out a qa ha c hc
    · rw [gl k (by omega)] at hc
      have:=h.lt k (by omega)
      rw [e1 k (by omega) c (by omega),g,if_pos (by omega)]; exact h.pre k (by omega) c hc
  · rw [ll] at hi
    rw [e2 i (by omega) hin c (by omega)]
    by_cases e:c = j
    · rw [e]; grind
    · have z1:ent (mvT R ls.length a) i c = 0:=by
        rw [g,if_neg (by omega),if_neg (by omega)]
        split
        · exact h.out _ (by omega) (by omega) c (by omega)
        · exact h.out _ (by omega) (by omega) c (by omega)
      have z2:ent R a c = 0:=h.out a qa ha c (by omega)
      rw [z1,z2]; grind
theorem wek_ech {n m:Nat} {ls:List Nat}:∀ p,p ≤ ls.length → ∀ {R:List (List κ.F)},R.length = n → Wid m R → Wek R n m ls → ∃ ts:List (Tn κ),(∀ t ∈ ts,t.ok n) ∧ Wek (runT ts R) n m ls ∧ ∀ k < p,∀ i < n,ent (runT ts R) i (ls.getD k 0) = if i = k then 1 else 0
  | 0,_,R,_,_,h => ⟨[],fun t ht => (nomatch ht),h,fun k hk => by omega⟩
  | p + 1,hp,R,hn,wd,h => by
    obtain ⟨ts,ok,hw,hc⟩:=wek_ech p (by omega) hn wd h
    have l1:(runT ts R).length = n:=by rw [runT_len,hn]
    have w1:Wid m (runT ts R):=runT_wid wd (by rw [hn]; exact ok)
    generalize hR1:runT ts R = R1 at *
    have pn:p < n:=by have:=h.le; omega
    have p0:=hw.piv p (by omega)
    have lp:=hw.lt p (by omega)
    have okS:(.scale (p:Int) (Fd.inv (ent R1 p (ls.getD p 0))):Tn κ).ok n:=⟨⟨by omega,by omega⟩,inv_ne p0⟩
    have eS:∀ i c,ent (doT (.scale (p:Int) (Fd.inv (ent R1 p (ls.getD p 0)))) R1) i c = if i = p then Fd.inv (ent R1 p (ls.getD p 0)) * ent R1 i c else ent R1 i c:=fun i c => by
      have:=ent_scale (R:=R1) (a:=(p:Int)) (c:=Fd.inv (ent R1 p (ls.getD p 0))) (by rw [Int.toNat_natCast]; omega) i c
      rw [Int.toNat_natCast] at this
      exact this
    have l2:=doT_len (.scale (p:Int) (Fd.inv (ent R1 p (ls.getD p 0))):Tn κ) R1
    have w2:Wid m (doT (.scale (p:Int) (Fd.inv (ent R1 p (ls.getD p 0)))) R1):=doT_wid w1 (by rw [l1]; exact okS)
    have hm:=Fd.mul_inv _ p0
    have i0:=inv_ne p0
    generalize hg:Fd.inv (ent R1 p (ls.getD p 0)) = g at *
    generalize hR2:doT (.scale (p:Int) g) R1 = R2 at *
    have W2:Wek R2 n m ls:=⟨hw.le,hw.lt,hw.inc,fun k hk => by
        rw [eS]
        split
        · rename_i e; rw [e]; intro z
          have:ent R1 p (ls.getD p 0) * g = 1:=hm
          have e1:(1:κ.F) = 0:=by rw [← this]; grind
          exact Fd.zne e1.symm
        · exact hw.piv k hk,fun k hk c hcc => by
        rw [eS,hw.pre k hk c hcc]
        split
        · grind
        · rfl,fun i a b c hcc => by
        rw [eS,hw.out i a b c hcc]
        split
        · grind
        · rfl⟩
    have C2:∀ k < p,∀ i < n,ent R2 i (ls.getD k 0) = if i = k then 1 else 0:=fun k hk i hi => by
      rw [eS,hc k hk i hi]
      split
      · rename_i e; rw [if_neg (by omega)]; grind
      · rfl
    have P2:ent R2 p (ls.getD p 0) = 1:=by
      rw [eS,if_pos rfl]
      have:ent R1 p (ls.getD p 0) * g = 1:=hm
      rw [← this]; grind
    have inner:∀ r,r ≤ p → ∃ us:List (Tn κ),(∀ t ∈ us,t.ok n) ∧ Wek (runT us R2) n m ls ∧ (∀ k < p,∀ i < n,ent (runT us R2) i (ls.getD k 0) = if i = k then 1 else 0) ∧ ent (runT us R2) p (ls.getD p 0) = 1 ∧ ∀ i < r,ent (runT us R2) i (ls.getD p 0) = 0:=by
      intro r
      induction r with
      | zero => intro _; exact ⟨[],fun t ht => (nomatch ht),W2,C2,P2,fun i hi => by omega⟩
      | succ r ih =>
        intro hr
        obtain ⟨us,oku,Wu,Cu,Pu,Zu⟩:=ih (by omega)
        have l3:(runT us R2).length = n:=by rw [runT_len]; omega
        have w3:Wid m (runT us R2):=runT_wid w2 (by rw [l2,l1]; exact oku)
        generalize hR3:runT us R2 = R3 at *
        have okA:(.add (r:Int) (p:Int) (0 - ent R3 r (ls.getD p 0)):Tn κ).ok n:=⟨⟨by omega,by omega⟩,⟨by omega,by omega⟩,by omega⟩
        have eA:∀ i c,ent (doT (.add (r:Int) (p:Int) (0 - ent R3 r (ls.getD p 0))) R3) i c = if i = r then ent R3 i c + (0 - ent R3 r (ls.getD p 0)) * ent R3 p c else ent R3 i c:=fun i c => by
          have:=ent_add (R:=R3) (a:=(r:Int)) (b:=(p:Int)) (c:=0 - ent R3 r (ls.getD p 0)) w3 (by rw [Int.toNat_natCast]; omega) (by rw [Int.toNat_natCast]; omega) i c
          rw [Int.toNat_natCast,Int.toNat_natCast] at this
          exact this
        refine ⟨us ++ [.add (r:Int) (p:Int) (0 - ent R3 r (ls.getD p 0))],fun t ht => ?_,?_⟩
        · rcases List.mem_append.mp ht with z | z
          · exact oku t z
          · rw [List.mem_singleton.mp z]; exact okA
        rw [runT_snoc,hR3]
        generalize hb:ent R3 r (ls.getD p 0) = b at *
        generalize hR4:doT (.add (r:Int) (p:Int) (0 - b)) R3 = R4 at *
        have rl:r < ls.length:=by omega
        have pr:∀ c,c < ls.getD r 0 → ent R3 p c = 0:=fun c hcc => Wu.pre p (by omega) c (by have:=Wu.inc r p (by omega) (by omega); omega)
        refine ⟨⟨Wu.le,Wu.lt,Wu.inc,fun k hk => ?_,fun k hk c hcc => ?_,fun i a b' c hcc => ?_⟩,fun k hk i hi => ?_,?_,fun i hi => ?_⟩
        · rw [eA]
          split
          · rename_i e
            rw [e,Cu r (by omega) r (by omega),if_pos rfl,Cu r (by omega) p (by omega),if_neg (by omega)]
            intro z
            have:(1:κ.F) = 0:=by rw [← z]; grind
            exact Fd.zne this.symm
          · exact Wu.piv k hk
        · rw [eA,Wu.pre k hk c hcc]
          split
          · rename_i e; rw [e] at hcc; rw [pr c hcc]; grind
          · rfl
        · rw [eA,if_neg (by omega)]; exact Wu.out i a b' c hcc
        · rw [eA,Cu k hk i hi]
          split
          · rw [Cu k hk p (by omega),if_neg (show ¬ p = k by omega)]; grind
          · rfl
        · rw [eA,if_neg (by omega)]; exact Pu
        · rw [eA]
          split
          · rename_i e; rw [e,hb,Pu]; grind
          · exact Zu i (by omega)
    obtain ⟨us,oku,Wu,Cu,Pu,Zu⟩:=inner p (Nat.le_refl _)
    refine ⟨ts ++ .scale (p:Int) g :: us,fun t ht => ?_,?_⟩
    · rcases List.mem_append.mp ht with z | z
      · exact ok t z
      · rcases List.mem_cons.mp z with z | z
        · rw [z]; exact okS
        · exact oku t z
    rw [runT_append,hR1]
    show Wek (runT us (doT _ R1)) n m ls ∧ _
    rw [show runT (.scale (p:Int) g :: us) R1 = runT us (doT (.scale (p:Int) g) R1) from rfl,hR2]
    refine ⟨Wu,fun k hk i hi => ?_⟩
    by_cases e:k = p
    · rw [e]
      by_cases e2:i = p
      · rw [if_pos e2,e2]; exact Pu
      · rw [if_neg e2]
        rcases Nat.lt_or_gt_of_ne e2 with q | q
        · exact Zu i q
        · exact Wu.low (by omega) q hi
    · exact Cu k (by omega) i hi
theorem wek_red {n m:Nat} {ls:List Nat} {R:List (List κ.F)} (hn:R.length = n) (wd:Wid m R) (h:Wek R n m ls):∃ (ts:List (Tn κ)) (R':List (List κ.F)),(∀ t ∈ ts,t.ok n) ∧ R = runT ts R' ∧ R'.length = n ∧ Wid m R' ∧ Ech R' n m ls 1:=by
  obtain ⟨ts,ok,hw,hc⟩:=wek_ech ls.length (Nat.le_refl _) hn wd h
  have okR:∀ t ∈ ts,t.ok R.length:=by rw [hn]; exact ok
  refine ⟨ts.reverse.map invT,runT ts R,fun t ht => ?_,(runT_back wd okR).symm,by rw [runT_len,hn],runT_wid wd okR,⟨hw.le,hw.lt,hw.inc,fun z => Fd.zne z.symm,hc,hw.out,hw.pre⟩⟩
  obtain ⟨u,hu,rfl⟩:=List.mem_map.mp ht
  exact invT_ok (ok u (List.mem_reverse.mp hu))
end
end My
set_option maxHeartbeats 1000000
namespace My
open PySem L2 PyProof.Rows
section
variable {p:Nat} {hp:PrN p}
def RX (p:Nat) (hp:PrN p):KX:=.r p hp
noncomputable abbrev R0 (p:Nat) (hp:PrN p):(RX p hp).F:=0
noncomputable abbrev R1 (p:Nat) (hp:PrN p):(RX p hp).F:=1
def Md (p:Nat) (hp:PrN p) (e:Int) (x:(RX p hp).F):Prop:=e % (p:Int) = ((Fin.val (x:Fin p):Nat):Int)
theorem md_val (x:(RX p hp).F):Md p hp ((Fin.val (x:Fin p):Nat):Int) x:=by
  have:=(x:Fin p).isLt
  exact Int.emod_eq_of_lt (by omega) (by omega)
theorem vl_add (x y:(RX p hp).F):((Fin.val (x + y:(RX p hp).F):Nat):Int) = (((Fin.val (x:Fin p):Nat):Int) + ((Fin.val (y:Fin p):Nat):Int)) % p:=by
  have e:∀ a b:Fin p,((Fin.val (a + b):Nat):Int) = ((a.val:Int) + b.val) % p:=fun a b => by rw [Fin.val_add,Int.natCast_emod,Int.natCast_add]
  exact e x y
theorem vl_mul (x y:(RX p hp).F):((Fin.val (x * y:(RX p hp).F):Nat):Int) = (((Fin.val (x:Fin p):Nat):Int) * ((Fin.val (y:Fin p):Nat):Int)) % p:=by
  have e:∀ a b:Fin p,((Fin.val (a * b):Nat):Int) = ((a.val:Int) * b.val) % p:=fun a b => by rw [Fin.val_mul,Int.natCast_emod,Int.natCast_mul]
  exact e x y
theorem vl_sub (x y:(RX p hp).F):((Fin.val (x - y:(RX p hp).F):Nat):Int) = (((Fin.val (x:Fin p):Nat):Int) - ((Fin.val (y:Fin p):Nat):Int)) % p:=by
  have e:∀ a b:Fin p,((Fin.val (a - b):Nat):Int) = ((a.val:Int) - b.val) % p:=fun a b => by
    have e:Fin.val (a - b) = (p - b.val + a.val) % p:=rfl
    have lb:=b.isLt
    have e2:(((p - b.val + a.val:Nat)):Int) = ((a.val:Int) - b.val) + p:=by omega
    rw [e,Int.natCast_emod,e2,Int.add_emod_right]
  exact e x y
theorem md_add {a b:Int} {x y:(RX p hp).F} (h:Md p hp a x) (g:Md p hp b y):Md p hp (a + b) (x + y):=by
  unfold Md at *
  rw [vl_add,← h,← g,← Int.add_emod]
theorem md_mul {a b:Int} {x y:(RX p hp).F} (h:Md p hp a x) (g:Md p hp b y):Md p hp (a * b) (x * y):=by
  unfold Md at *
  rw [vl_mul,← h,← g,← Int.mul_emod]
theorem md_sub {a b:Int} {x y:(RX p hp).F} (h:Md p hp a x) (g:Md p hp b y):Md p hp (a - b) (x - y):=by
  unfold Md at *
  rw [vl_sub,← h,← g,← Int.sub_emod]
theorem md_nr {e:Int} {x:(RX p hp).F} {H:Hp} (h:Md p hp e x):NR (RX p hp) H (.int (e.fmod (p:Int))) x:=by
  show V.int (e.fmod (p:Int)) = V.int ((Fin.val (x:Fin p):Nat):Int)
  rw [Int.fmod_eq_emod_of_nonneg _ (by omega)]
  exact congrArg V.int h
theorem md_ex (hp:PrN p) (e:Int):∃ x:(RX p hp).F,Md p hp e x:=by
  have h2:=hp.two
  have e0:=Int.emod_nonneg e (show (p:Int) ≠ 0 by omega)
  have e1:=Int.emod_lt_of_pos e (show 0 < (p:Int) by omega)
  exact ⟨(⟨(e % p).toNat,by omega⟩:Fin p),by show e % p = (((e % p).toNat:Nat):Int); omega⟩
theorem md_zero:Md p hp 0 (R0 p hp):=by
  show (0:Int) % p = ((Fin.val (K0 (.r p hp)):Nat):Int)
  rw [zero_val]; simp
theorem md_one:Md p hp 1 (R1 p hp):=by
  show (1:Int) % p = ((Fin.val (K1 (.r p hp)):Nat):Int)
  rw [one_val]
  have:=hp.two
  exact Int.emod_eq_of_lt (by decide) (by omega)
theorem nr_int {x:(RX p hp).F} {v:V} {H:Hp} (h:NR (RX p hp) H v x):v = .int ((Fin.val (x:Fin p):Nat):Int):=h
theorem nr_zero {x:(RX p hp).F}:((Fin.val (x:Fin p):Nat):Int) = 0 ↔ x = 0:=by
  have z:Fin.val (K0 (.r p hp)) = 0:=zero_val hp
  constructor
  · intro h
    exact Fin.ext (by rw [show Fin.val (R0 p hp:Fin p) = 0 from z]; omega)
  · intro h
    rw [h,show Fin.val (R0 p hp:Fin p) = 0 from z]; rfl
end
theorem nr_one {p:Nat} {hp:PrN p} {H:Hp}:NR (RX p hp) H (.int 1) (R1 p hp):=by
  have h:(1:Int) % p = ((Fin.val (R1 p hp:Fin p):Nat):Int):=md_one (hp:=hp)
  have:=hp.two
  rw [Int.emod_eq_of_lt (by decide) (by omega)] at h
  exact congrArg V.int h
theorem nr_no {p:Nat} {hp:PrN p} {H:Hp}:NR (RX p hp) H (.int 0) (R0 p hp):=by
  have h:(0:Int) % p = ((Fin.val (R0 p hp:Fin p):Nat):Int):=md_zero (hp:=hp)
  rw [Int.zero_emod] at h
  exact congrArg V.int h
theorem md_sum {p:Nat} {hp:PrN p} {ms:List Int} {e:Int} {x y:(RX p hp).F} (h:Md p hp ms.sum x) (g:Md p hp e y):Md p hp (ms ++ [e]).sum (x + y):=by
  rw [List.sum_append]
  simp only [List.sum_cons,List.sum_nil,Int.add_zero]
  exact md_add h g
structure TabP (p:Nat) (hp:PrN p) (H:Hp) (a:Addr) (rs:List Addr) (A:List (List (RX p hp).F)) (n:Nat):Prop where
  l:H a = some (.lst (rs.map V.ref))
  r:RowsX (RX p hp) H rs A
  w:Wid n A
  e:A.length = n
  n1:1 ≤ n
  n7:n ≤ 7
theorem TabP.same {p:Nat} {hp:PrN p} {H H':Hp} {a:Addr} {rs:List Addr} {A:List (List (RX p hp).F)} {n:Nat} (h:TabP p hp H a rs A n) (S:Same H H'):TabP p hp H' a rs A n:=⟨S _ _ h.l,h.r.same S,h.w,h.e,h.n1,h.n7⟩
theorem TabP.tabR {p:Nat} {hp:PrN p} {H:Hp} {a:Addr} {rs:List Addr} {A:List (List (RX p hp).F)} {n:Nat} (h:TabP p hp H a rs A n):TabR (RX p hp) H a rs A n:=⟨h.l,h.r,h.w,by have:=h.n1; have:=h.e; omega,by have:=h.n7; have:=h.e; omega⟩
def sp_l_prime72:Sp:=fun vs H Q _ => ∃ c:Int,vs = [.int c] ∧ ∀ (H':Hp) (p:Nat),Same H H' → PrN p → Q (.int (p:Int)) H'
def sp_l_table72:Sp:=fun vs H Q _ => ∃ (p:Nat) (hp:PrN p) (c:Addr) (cs:List Int),vs = [.int (p:Int),.ref c] ∧ Ce H c cs ∧ ∀ (H':Hp) (a:Addr) (rs:List Addr) (A:List (List (RX p hp).F)) (n:Nat),Same H H' → TabP p hp H' a rs A n → n ≤ 5 → Q (.ref a) H'
def sp_l_product72:Sp:=fun vs H Q _ => ∃ (p:Nat) (hp:PrN p) (a b:Addr) (rs ss:List Addr) (A B:List (List (RX p hp).F)) (n:Nat),vs = [.int (p:Int),.ref a,.ref b] ∧ TabP p hp H a rs A n ∧ TabP p hp H b ss B n ∧ ∀ (H':Hp) (D:Addr) (ds:List Addr) (T:List (List (RX p hp).F)),Same H H' → TabP p hp H' D ds T n → (∀ i j,i < n → j < n → ent T i j = Sg (fun l => ent A i l * ent B l j) n) → Q (.ref D) H'
def sp_l_unit72:Sp:=fun vs H Q _ => ∃ (p:Nat) (hp:PrN p) (n:Nat),vs = [.int (p:Int),.int (n:Int)] ∧ 1 ≤ n ∧ n ≤ 7 ∧ ∀ (H':Hp) (D:Addr) (ds:List Addr),Same H H' → TabP p hp H' D ds (unitT (RX p hp) n) n → Q (.ref D) H'
def sp_l_power72:Sp:=fun vs H Q _ => ∃ (p:Nat) (hp:PrN p) (a:Addr) (rs:List Addr) (A:List (List (RX p hp).F)) (s n:Nat),vs = [.int (p:Int),.ref a,.int (n:Int)] ∧ TabP p hp H a rs A s ∧ ∀ (H':Hp) (D:Addr) (ds:List Addr) (T:List (List (RX p hp).F)),Same H H' → TabP p hp H' D ds T s → (∀ i j,i < s → j < s → ent T i j = pw (ent A) s n i j) → Q (.ref D) H'
def sp_l_rank72:Sp:=fun vs H Q _ => ∃ (p:Nat) (hp:PrN p) (a:Addr) (rs:List Addr) (A:List (List (RX p hp).F)) (n:Nat),vs = [.int (p:Int),.ref a] ∧ TabP p hp H a rs A n ∧ ∀ (H':Hp) (R:List (List (RX p hp).F)) (ts:List (Tn (RX p hp))) (ls:List Nat),Same H H' → A = runT ts R → (∀ t ∈ ts,t.ok n) → R.length = n → Wid n R → Ech R n n ls 1 → Q (.int (ls.length:Int)) H'
def sp_l_is_table72:Sp:=fun vs H Q _ => ∃ (p:Nat) (hp:PrN p) (a:Addr) (rs:List Addr) (A:List (List (RX p hp).F)) (n:Nat),vs = [.int (p:Int),.ref a,.int (n:Int)] ∧ TabP p hp H a rs A n ∧ Q (.bl true) H
def sp_l_refused72 (CF CR:Addr):Sp:=fun vs H Q _ => ∃ (p:Nat) (hp:PrN p) (s a:Addr) (rs:List Addr) (A:List (List (RX p hp).F)) (m:Nat) (n:Int) (R:List (List (RX p hp).F)) (ts:List (Tn (RX p hp))) (ls:List Nat),vs = [.ref s,.ref a,.int n,.int (ls.length:Int)] ∧ KdX CF CR (RX p hp) H s ∧ TabP p hp H a rs A m ∧ n < 0 ∧ A = runT ts R ∧ (∀ t ∈ ts,t.ok m) ∧ R.length = m ∧ Wid m R ∧ Ech R m m ls 1 ∧ ls.length < m ∧ ∀ H',Same H H' → Q (.bl true) H'
def sp_l_below72 (CF CR:Addr):Sp:=fun vs H Q _ => ∃ (p:Nat) (hp:PrN p) (s a:Addr) (rs:List Addr) (A:List (List (RX p hp).F)) (m n:Nat),vs = [.ref s,.int (p:Int),.ref a,.int (n:Int)] ∧ KdX CF CR (RX p hp) H s ∧ TabP p hp H a rs A m ∧ 0 < n ∧ n ≤ 10 ^ 60 ∧ ∀ H',Q (.bl true) H'
theorem joinU2 {C C' G X:Addr → Hp → Prop} (h:(∀ U H,C' U H → G U H) → ∀ U H,C U H → X U H) (hG:∀ U H,C' U H → G U H):∀ U H,C U H → X U H:=h hG
end My
namespace My
open PySem L2 PyProof.Rows
section
variable {P:Program} {w:World} {K:PySem.W.Frag} {mg:Str → Option Value} {base:Heap}
theorem sc_l_prime:FnScope ["_law_cell", "_law_number"] ["_law_cell"] (defScope s_l_prime):=⟨rfl,rfl,rfl,by decide +kernel,rfl,by decide +kernel,by decide +kernel⟩
theorem ok_l_prime72 (h:Here K mg "_law_prime" s_l_prime) (h_l_is_prime:Has P w K mg base "_law_is_prime" 1 ["_law_number"] sp_prime):Has P w K mg base "_law_prime" 2 ["_law_cell"] sp_l_prime72:=by
  refine h.has (fun f fd F => F.binds fun _ _ _ _ _ _ us hl => by obtain ⟨_,rfl⟩:=len1 hl; exact rfl) fun f fd F => F.ok sc_l_prime (fun vs H Q E h => ?_) (fun cdv A outer s H vs Q E hr h => ?_)
  · obtain ⟨_,rfl,_⟩:=h
    rfl
  obtain ⟨c,rfl,k⟩:=h
  have nd:=sc_l_prime.nd
  refine ⟨_,(pss_cons (ps_set (i:=1) nd rfl (Or.inl rfl) (pe_op op_add pe_int (pe_op op_modN (pe_op op_fdiv (pv 0) pe_int) (pe_ix ix_list (pe_lst (pa_cons pe_int (pa_cons pe_int pa_nil))) (pe_op op_mod (pv 0) pe_int) (fun _ _ => rfl)))))
    (pss_cons (ps_while PassesOwn.never (pt_not (pt_val (pe_has h_l_is_prime hr (by rfl) (pa_cons (pv 1) pa_nil)))) (pss_one (ps_set (i:=1) nd rfl (Or.inl rfl) (pe_op op_add (pv 1) pe_int))))
    (pss_one (ps_ret (pv 1))))),?_⟩
  obtain ⟨m,am,m1,m2⟩:∃ m:Int,atI [V.int 11,V.int 999982] (c % 2) = some (.int m) ∧ 1 ≤ m ∧ m ≤ 999982:=by
    rcases (by omega:c % 2 = 0 ∨ c % 2 = 1) with e | e <;> rw [e]
    · exact ⟨11,rfl,by decide,by decide⟩
    · exact ⟨999982,rfl,by decide,by decide⟩
  refine ⟨_,rfl,_,_,rfl,rfl,⟨by decide,by decide⟩,(by show 2 ≤ sizeLine; decide),fun q hq => ?_⟩
  refine ⟨_,rfl,_,_,rfl,rfl,(by show (0:Int) < _; decide),_,_,_,_,rfl,rfl,SqL.of upd_same,am,_,_,rfl,rfl,(show m ≠ 0 by omega),_,_,rfl,rfl,?_⟩
  have S:=same_new hq (.lst [.int 11,.int 999982])
  generalize upd H q _ = H1 at *
  have fm:(c / 2).fmod m = c / 2 % m:=Int.fmod_eq_emod_of_nonneg _ (by omega)
  have f1:=Int.emod_nonneg (c / 2) (show m ≠ 0 by omega)
  have f2:=Int.emod_lt_of_pos (c / 2) (show 0 < m by omega)
  refine ⟨fun mm σ H' => ∃ t:Int,mm = (999983 - t).toNat ∧ σ = [some (.int c),some (.int t)] ∧ H' = H1 ∧ 2 ≤ t ∧ t ≤ 999983,⟨_,2 + (c / 2).fmod m,rfl,rfl,rfl,by omega,by omega⟩,?_⟩
  rintro mm σ H' ⟨t,rfl,rfl,rfl,h2,ht⟩
  refine ⟨_,rfl,t,rfl,by omega,fun hp => ⟨_,rfl,?_⟩,fun hp => ⟨_,rfl,?_⟩⟩
  · refine iteF ?_
    have e:((t.toNat:Nat):Int) = t:=by omega
    have k1:=k _ t.toNat S ⟨by rw [e]; exact hp,by omega⟩
    rw [e] at k1
    exact ⟨_,rfl,k1⟩
  · refine iteT ?_
    refine ⟨_,fun _ _ h => h,?_⟩
    have hne:t ≠ 999983:=fun z => hp (by rw [z]; exact M2.prm_big)
    refine ⟨_,rfl,_,_,rfl,rfl,?_⟩
    exact ⟨_,by omega,t + 1,rfl,rfl,rfl,by omega,by omega⟩
theorem sc_l_is_table:FnScope ["_law_prime_here", "_law_found", "_law_rows", "_law_row", "_law_number"] ["_law_prime_here", "_law_found", "_law_rows"] (defScope s_l_is_table):=⟨rfl,rfl,rfl,by decide +kernel,rfl,by decide +kernel,by decide +kernel⟩
theorem ok_l_is_table72 (h:Here K mg "_law_is_table" s_l_is_table) (T:Nm mg) (h_l_whole:Has P w K mg base "_law_whole" 2 ["_law_found"] sp_whole):Has P w K mg base "_law_is_table" 3 ["_law_prime_here", "_law_found", "_law_rows"] sp_l_is_table72:=by
  refine h.has (fun f fd F => F.binds fun _ _ _ _ _ _ us hl => by obtain ⟨_,_,_,rfl⟩:=len3 hl; exact rfl) fun f fd F => F.ok sc_l_is_table (fun vs H Q E h => ?_) (fun cdv A outer s H vs Q E hr h => ?_)
  · obtain ⟨_,_,_,_,_,_,rfl,_⟩:=h
    rfl
  obtain ⟨p,hp,a,rs,R,n,rfl,ta,k⟩:=h
  have nd:=sc_l_is_table.nd
  have ha:=ta.l
  have rx:=ta.r
  have wd:=ta.w
  refine ⟨_,(pss_cons (ps_if (pw_or (pt_not (pt_val (pe_callB call_isinstX (by rfl) T.isinstance boot_isinstance (pa_cons (pv 1) (pa_cons (pe_ty (by rfl) T.list boot_list) pa_nil))))) (pw_or1 (pt_cmpR op_ne (pe_callB call_len_seq (by rfl) T.len boot_len (pa_cons (pv 1) pa_nil)) (pv 2) (nomark _)))).pt (pss_one (ps_ret pe_bl)) pss_nil)
    (pss_cons (ps_for PassesOwn.never rfl (pi_list (pv 1)) (pg_name (i:=3) nd rfl (Or.inl rfl)) (pss_cons (ps_if (pw_or (pt_not (pt_val (pe_callB call_isinstX (by rfl) T.isinstance boot_isinstance (pa_cons (pv 3) (pa_cons (pe_ty (by rfl) T.list boot_list) pa_nil))))) (pw_or1 (pt_cmpR op_ne (pe_callB call_len_seq (by rfl) T.len boot_len (pa_cons (pv 3) pa_nil)) (pv 2) (nomark _)))).pt (pss_one (ps_ret pe_bl)) pss_nil)
      (pss_one (ps_for PassesOwn.never rfl (pi_list (pv 3)) (pg_name (i:=4) nd rfl (Or.inl rfl)) (pss_one (ps_if (pw_or (pt_not (pt_val (pe_has h_l_whole hr (by rfl) (pa_cons (pv 4) pa_nil)))) (pw_or (pt_cmpR op_lt (pv 4) pe_int (nomark _)) (pw_or1 (pt_cmpR op_ge (pv 4) (pv 0) (nomark _))))).pt (pss_one (ps_ret pe_bl)) pss_nil))))))
    (pss_one (ps_ret pe_bl)))),?_⟩
  refine ⟨_,rfl,_,_,_,_,rfl,.of (.lst ha),.ty (kit_same K _),_,rfl,iteF ?_⟩
  refine ⟨_,rfl,a,_,rfl,.inl (SqL.of ha),_,rfl,rfl,_,rfl,?_⟩
  rw [List.length_map,rx.1,ta.e]
  refine if_neI (fun z => absurd rfl z) (fun _ => ?_)
  refine ⟨_,rfl,a,rfl,⟨_,SqL.of ha⟩,?_⟩
  refine for_list (xs:=rs.map V.ref) (fun j σ H4 => ∃ z3 z4:Option V,σ = [some (.int (p:Int)),some (.ref a),some (.int (n:Int)),z3,z4] ∧ H4 = H) ⟨_,_,rfl,rfl⟩ ?_ ?_ ?_
  · rintro j σ H4 - ⟨z3,z4,rfl,rfl⟩
    exact SqL.of ha
  · rintro j u σ H4 hu ⟨z3,z4,rfl,rfl⟩
    obtain ⟨b,hb,rfl⟩:=map_ref_get hu
    obtain ⟨f,hf⟩:=get_of_lt hb rx.1
    obtain ⟨xs,hxs,al⟩:=rx.2 j b f hb hf
    have lx:xs.length = n:=by rw [al.1]; exact wd f (List.mem_of_getElem? hf)
    refine ⟨_,rfl,_,_,_,_,rfl,.of (.lst hxs),.ty (kit_same K _),_,rfl,iteF ?_⟩
    refine ⟨_,rfl,b,_,rfl,.inl (SqL.of hxs),_,rfl,rfl,_,rfl,?_⟩
    rw [lx]
    refine if_neI (fun z => absurd rfl z) (fun _ => ?_)
    refine ⟨_,rfl,b,rfl,⟨_,SqL.of hxs⟩,?_⟩
    refine for_list (xs:=xs) (fun j σ H5 => ∃ z4:Option V,σ = [some (.int (p:Int)),some (.ref a),some (.int (n:Int)),some (.ref b),z4] ∧ H5 = H4) ⟨_,rfl,rfl⟩ ?_ ?_ ?_
    · rintro i σ H5 - ⟨z4,rfl,rfl⟩
      exact SqL.of hxs
    · rintro i u σ H5 hu ⟨z4,rfl,rfl⟩
      obtain ⟨x,hx',nx⟩:=al.get hu
      have ex:=nr_int nx
      subst ex
      have lt:=(x:Fin p).isLt
      refine ⟨_,rfl,_,rfl,_,rfl,iteF ?_⟩
      refine ⟨_,rfl,_,_,rfl,rfl,_,rfl,ite_no (show ¬ ((Fin.val (x:Fin p):Nat):Int) < 0 by omega) ?_⟩
      exact ⟨_,rfl,_,rfl,_,_,rfl,rfl,_,rfl,ite_no (show ¬ ((p:Nat):Int) ≤ ((Fin.val (x:Fin p):Nat):Int) by omega) ⟨_,rfl,rfl⟩⟩
    · rintro σ H5 ⟨z4,rfl,rfl⟩
      exact ⟨_,_,rfl,rfl⟩
  · rintro σ H4 ⟨z3,z4,rfl,rfl⟩
    exact k
theorem sc_l_unit:FnScope ["_law_prime_here", "_law_size"] ["_law_prime_here", "_law_size"] (defScope s_l_unit):=⟨rfl,rfl,rfl,by decide +kernel,rfl,by decide +kernel,by decide +kernel⟩
theorem ok_l_unit72 (h:Here K mg "_law_unit" s_l_unit) (T:Nm mg):Has P w K mg base "_law_unit" 1 ["_law_prime_here", "_law_size"] sp_l_unit72:=by
  refine h.has (fun f fd F => F.binds fun _ _ _ _ _ _ us hl => by obtain ⟨_,_,rfl⟩:=len2 hl; exact rfl) fun f fd F => F.ok sc_l_unit (fun vs H Q E h => ?_) (fun cdv A outer s H vs Q E hr h => ?_)
  · obtain ⟨_,_,_,rfl,_⟩:=h
    rfl
  obtain ⟨p,hp,n,rfl,n1,n7,k⟩:=h
  refine ⟨_,(pss_one (ps_ret (pe_compC "_law_i" ["_law_i"] [(1, "_law_size")] rfl (pi_range1 (by rfl) T.range (pa_cons (pv 1) pa_nil)) (by exact fun _ _ _ _ => (pg_name (i:=0) (show (["_law_i", "_law_size"]:List Str).Nodup by decide +kernel) rfl (by first | exact Or.inl rfl | exact Or.inr rfl))) (by exact fun _ _ _ _ => (pe_comp ["_law_j"] [(0, "_law_i")] rfl (pi_range1 (by rfl) T.range (pa_cons (pv 1) pa_nil)) (by exact fun _ _ _ _ => (pg_name (i:=0) (show (["_law_j", "_law_i"]:List Str).Nodup by decide +kernel) rfl (Or.inl rfl))) (by exact fun _ _ _ _ => (pe_callTy call_int1 (by rfl) T.int boot_int (pa_cons (pe_cmpR op_eq (pv 1) (pv 0) (nomark _)) pa_nil))) ⟨⟨rfl,rfl,(by first | exact Or.inl rfl | exact Or.inr rfl)⟩,trivial⟩)) ⟨⟨rfl,rfl,Or.inl rfl⟩,trivial⟩ ⟨by decide +kernel,rfl,fun _ _ => rfl,fun _ => rfl⟩))),?_⟩
  refine ⟨_,rfl,(n:Int),rfl,by omega,by omega,?_⟩
  rw [Int.toNat_natCast]
  refine comp_range (lo:=0) (n:=n) (fun q ys H4 => Same H H4 ∧ ∃ rs:List Addr,ys = rs.map V.ref ∧ RowsX (RX p hp) H4 rs ((List.range q).map fun i => uRow (RX p hp) n i)) (by omega) ⟨Same.refl _,[],rfl,.nil⟩ ?_ ?_
  · rintro q ys H4 _ _ ⟨S4,rs,rfl,rx⟩
    refine ⟨_,rfl,(n:Int),rfl,by omega,by omega,?_⟩
    rw [Int.toNat_natCast]
    refine comp_range (lo:=0) (n:=n) (fun j zs H5 => H5 = H4 ∧ AllG (NR (RX p hp) H4) zs ((List.range j).map fun j => if q = j then (1:(RX p hp).F) else 0)) (by omega) ⟨rfl,.nil⟩ ?_ ?_
    · rintro j zs H5 _ _ ⟨rfl,e5⟩
      refine ⟨_,rfl,_,rfl,rfl,.inr ⟨_,rfl,rfl,?_⟩⟩
      rw [List.range_succ,List.map_append]
      refine e5.append (.one ?_)
      show NR (RX p hp) H5 (V.int (if decide (V.int (0 + (q:Int)) = V.int (0 + (j:Int))) = true then 1 else 0)) (if q = j then (1:(RX p hp).F) else 0)
      by_cases c:q = j
      · rw [if_pos c,if_pos (by rw [decide_eq_true_eq]; congr 1; omega)]; exact nr_one
      · rw [if_neg c,if_neg (by rw [decide_eq_true_eq]; intro z; have:=V.int.inj z; omega)]; exact nr_no
    · rintro zs H5 _ ⟨rfl,e5⟩ D nD
      have SD:=same_new nD (.lst zs)
      refine ⟨S4.trans SD,rs ++ [D],by simp,?_⟩
      rw [List.range_succ,List.map_append]
      exact (rx.same SD).snoc upd_same (e5.mono fun _ _ n => n.same SD)
  rintro ys H1 _ ⟨S1,ss,rfl,rxs⟩ sa nsa
  have Ssa:=same_new nsa (.lst (ss.map V.ref))
  exact k _ sa ss (S1.trans Ssa) ⟨upd_same,rxs.same Ssa,unitT_wid n,unitT_len n,n1,n7⟩
end
end My
namespace My
open PySem L2 PyProof.Rows
section
variable {P:Program} {w:World} {K:PySem.W.Frag} {mg:Str → Option Value} {base:Heap}
theorem sc_l_product:FnScope ["_law_prime_here", "_law_one", "_law_other", "_law_found", "_law_row", "_law_line", "_law_j"] ["_law_prime_here", "_law_one", "_law_other"] (defScope s_l_product):=⟨rfl,rfl,rfl,by decide +kernel,rfl,by decide +kernel,by decide +kernel⟩
theorem ok_l_product72 (h:Here K mg "_law_product" s_l_product) (T:Nm mg) (Ts:mg "sum" = none):Has P w K mg base "_law_product" 1 ["_law_prime_here", "_law_one", "_law_other"] sp_l_product72:=by
  refine h.has (fun f fd F => F.binds fun _ _ _ _ _ _ us hl => by obtain ⟨_,_,_,rfl⟩:=len3 hl; exact rfl) fun f fd F => F.ok sc_l_product (fun vs H Q E h => ?_) (fun cdv A outer s H vs Q E hr h => ?_)
  · obtain ⟨_,_,_,_,_,_,_,_,_,rfl,_⟩:=h
    rfl
  obtain ⟨p,hp,a,b,rs,ss,A,B,n,rfl,ta,tb,k⟩:=h
  have nd:=sc_l_product.nd
  refine ⟨_,(pss_cons (ps_set (i:=3) nd rfl (Or.inl rfl) (pe_lst pa_nil))
    (pss_cons (ps_for PassesOwn.never rfl (pi_list (pv 1)) (pg_name (i:=4) nd rfl (Or.inr rfl)) (pss_cons (ps_set (i:=5) nd rfl (Or.inl rfl) (pe_lst pa_nil))
      (pss_cons (ps_for PassesOwn.never rfl (pi_range1 (by rfl) T.range (pa_cons (pe_callB call_len_seq (by rfl) T.len boot_len (pa_cons (pv 2) pa_nil)) pa_nil)) (pg_name (i:=6) nd rfl (Or.inr rfl)) (pss_one (ps_expr (pe_bm PySem.F.plainAttrs_list PySem.F.slot_list_append PySem.F.type_list_append mt_append (pv 5) (pa_cons (pe_op op_modN (pe_callB (call_sum rfl) (by rfl) Ts boot_sum (pa_cons (pe_comp ["_law_k"] [(4, "_law_row"),(2, "_law_other"),(6, "_law_j")] rfl (pi_range1 (by rfl) T.range (pa_cons (pe_callB call_len_seq (by rfl) T.len boot_len (pa_cons (pv 2) pa_nil)) pa_nil)) (by exact fun _ _ _ _ => (pg_name (i:=0) (show (["_law_k", "_law_row", "_law_other", "_law_j"]:List Str).Nodup by decide +kernel) rfl (Or.inl rfl))) (by exact fun _ _ _ _ => (pe_op op_mulO (pe_ix (ix_listK K rfl) (pv 1) (pv 0) (fun _ _ => rfl)) (pe_ix (ix_listK K rfl) (pe_ix (ix_listK K rfl) (pv 2) (pv 0) (fun _ _ => rfl)) (pv 3) (fun _ _ => rfl)))) ⟨⟨rfl,rfl,(by first | exact Or.inl rfl | exact Or.inr rfl)⟩,⟨⟨rfl,rfl,(by first | exact Or.inl rfl | exact Or.inr rfl)⟩,⟨⟨rfl,rfl,(by first | exact Or.inl rfl | exact Or.inr rfl)⟩,trivial⟩⟩⟩) pa_nil)) (pv 0)) pa_nil)))))
      (pss_one (ps_expr (pe_bm PySem.F.plainAttrs_list PySem.F.slot_list_append PySem.F.type_list_append mt_append (pv 3) (pa_cons (pv 5) pa_nil)))))))
    (pss_one (ps_ret (pv 3))))),?_⟩
  have h2:=hp.two
  have n1:=ta.n1
  have n7:=ta.n7
  have lA:=ta.e
  have lB:=tb.e
  have la:=ta.r.1
  have lb:=tb.r.1
  refine ⟨(by show 0 ≤ sizeLine; decide),fun D nD => ?_⟩
  have SD:=same_new nD (.lst [])
  have qD:=upd_same (H:=H) (a:=D) (o:=.lst [])
  generalize upd H D (.lst []) = H1 at *
  refine ⟨_,rfl,a,rfl,⟨_,SqL.of (SD _ _ ta.l)⟩,?_⟩
  refine for_list (xs:=rs.map V.ref) (fun i σ H2 => ∃ (z4 z5 z6:Option V) (ds:List Addr) (T:List (List (RX p hp).F)),σ = [some (.int (p:Int)),some (.ref a),some (.ref b),some (.ref D),z4,z5,z6] ∧ Same H H2 ∧ H2 D = some (.lst (ds.map V.ref)) ∧ D ∉ ds ∧ RowsX (RX p hp) H2 ds T ∧ Wid n T ∧ T.length = i ∧ ∀ i' j,i' < i → j < n → ent T i' j = Sg (fun l => ent A i' l * ent B l j) n) ⟨_,_,_,[],[],rfl,SD,qD,(fun z => nomatch z),.nil,(fun f hf => nomatch hf),rfl,fun i' j hi => by omega⟩ ?_ ?_ ?_
  · rintro i σ H2 - ⟨z4,z5,z6,ds,T,rfl,S2,-⟩
    exact SqL.of (S2 _ _ ta.l)
  · rintro i x σ H2 hx ⟨z4,z5,z6,ds,T,rfl,S2,hD,nin,rx,wT,lT,eT⟩
    obtain ⟨ra,hra,rfl⟩:=map_ref_get hx
    obtain ⟨f,hf⟩:=get_of_lt hra la
    obtain ⟨xs,hxs,al⟩:=ta.r.2 i ra f hra hf
    have hi:i < n:=by have:=(List.getElem?_eq_some_iff.mp hf).1; omega
    refine ⟨(by show 0 ≤ sizeLine; decide),fun ln nln => ?_⟩
    have Sl:=same_new nln (.lst [])
    have ql:=upd_same (H:=H2) (a:=ln) (o:=.lst [])
    have nlD:ln ≠ D:=fun z => by rw [z,hD] at nln; cases nln
    generalize upd H2 ln (.lst []) = H3 at *
    refine ⟨_,rfl,b,_,rfl,.inl (SqL.of (Sl _ _ (S2 _ _ tb.l))),_,rfl,?_⟩
    rw [List.length_map,lb,lB]
    refine ⟨by omega,by omega,?_⟩
    rw [Int.toNat_natCast]
    refine for_range (lo:=0) (n:=n) (fun j σ H4 => ∃ (z6:Option V) (ws:List V) (g:List (RX p hp).F),σ = [some (.int (p:Int)),some (.ref a),some (.ref b),some (.ref D),some (.ref ra),some (.ref ln),z6] ∧ Same H2 H4 ∧ H4 ln = some (.lst ws) ∧ AllG (NR (RX p hp) H4) ws g ∧ g.length = j ∧ ∀ j' < j,g.getD j' 0 = Sg (fun l => ent A i l * ent B l j') n) ⟨_,[],[],rfl,Sl,ql,.nil,rfl,fun j' h => by omega⟩ ?_ ?_
    · rintro j σ H4 hj ⟨z6,ws,g,rfl,S4,hln,aw,lg,eg⟩
      have S04:=S2.trans S4
      refine ⟨_,rfl,.inl ⟨rfl,_,SqL.of hln⟩,?_⟩
      refine ⟨_,rfl,b,_,rfl,.inl (SqL.of (S04 _ _ tb.l)),_,rfl,?_⟩
      rw [List.length_map,lb,lB]
      refine ⟨by omega,by omega,?_⟩
      rw [Int.toNat_natCast]
      refine comp_range (lo:=0) (n:=n) (fun q ys H5 => H5 = H4 ∧ ∃ ms:List Int,ys = ms.map V.int ∧ Md p hp ms.sum (Sg (fun l => ent A i l * ent B l j) q)) (by omega) ⟨rfl,[],rfl,md_zero⟩ ?_ ?_
      · rintro q ys H5 hq _ ⟨rfl,ms,rfl,em⟩
        obtain ⟨a1,xs1,x,e1,e2,e3,e4⟩:=ta.r.ent ta.w (i:=i) (j:=q) (by omega) hq
        obtain ⟨b1,ys1,y,g1,g2,g3,g4⟩:=tb.r.ent tb.w (i:=q) (j:=j) (by omega) hj
        rw [hra] at e1
        cases e1
        have ex:=nr_int e4
        have ey:=nr_int g4
        subst ex ey
        refine ⟨_,rfl,_,rfl,ra,_,_,_,rfl,rfl,SqL.of (S04 _ _ e2),(by rw [Int.zero_add]; exact atI_nat e3),_,rfl,_,rfl,b,_,_,_,rfl,rfl,SqL.of (S04 _ _ tb.l),(by rw [Int.zero_add]; exact ref_at g1),_,rfl,b1,_,_,_,rfl,rfl,SqL.of (S04 _ _ g2),(by rw [Int.zero_add]; exact atI_nat g3),_,_,rfl,rfl,mul_fit (rest_small hp _) (rest_small hp _),rfl,ms ++ [((Fin.val (ent A i q:Fin p):Nat):Int) * ((Fin.val (ent B q j:Fin p):Nat):Int)],by rw [List.map_append]; rfl,?_⟩
        exact md_sum em (md_mul (md_val _) (md_val _))
      rintro ys H5 _ ⟨rfl,ms,rfl,em⟩ L nL
      have SL:=same_new nL (.lst (ms.map V.int))
      have qL:=upd_same (H:=H5) (a:=L) (o:=.lst (ms.map V.int))
      generalize upd H5 L (.lst (ms.map V.int)) = H6 at *
      refine ⟨L,ms,rfl,SqL.of qL,_,rfl,_,_,rfl,rfl,(show (p:Int) ≠ 0 by omega),ln,ws,_,rfl,rfl,SL _ _ hln,Nat.lt_of_lt_of_le (show ws.length < 1000 by rw [aw.1]; omega) (by decide),?_⟩
      have O7:Off [ln] H6 (upd H6 ln (.lst (ws ++ [.int (ms.sum.fmod (p:Int))]))):=off_upd' (Same.refl H6)
      refine ⟨_,ws ++ [.int (ms.sum.fmod (p:Int))],g ++ [_],rfl,Off.same O7 (S4.trans SL) (fun z hz => by rw [List.mem_singleton.mp hz]; exact nln),upd_same,(aw.mono fun _ _ n => (n.same SL).off (SL _ _ hln) O7).append (.one (md_nr em)),by rw [List.length_append,lg]; rfl,fun j' hj' => ?_⟩
      by_cases e:j' = j
      · rw [e,List.getD_eq_getElem?_getD,List.getElem?_append_right (by omega),lg,Nat.sub_self]; rfl
      · rw [List.getD_eq_getElem?_getD,List.getElem?_append_left (by omega),← List.getD_eq_getElem?_getD]; exact eg j' (by omega)
    · rintro σ H4 ⟨z6,ws,g,rfl,S4,hln,aw,lg,eg⟩
      have hD4:=S4 _ _ hD
      have S04:=S2.trans S4
      refine ⟨_,rfl,.inl ⟨rfl,_,SqL.of hD4⟩,_,rfl,D,_,_,rfl,rfl,hD4,Nat.lt_of_lt_of_le (show (ds.map V.ref).length < 1000 by rw [List.length_map,rx.1]; omega) (by decide),?_⟩
      have O6:Off [D] H4 (upd H4 D (.lst (ds.map V.ref ++ [.ref ln]))):=off_upd' (Same.refl H4)
      refine ⟨_,_,_,ds ++ [ln],T ++ [g],rfl,Off.same O6 S04 (fun z hz => by rw [List.mem_singleton.mp hz]; exact nD),by rw [upd_same,List.map_append]; rfl,fun z => ?_,((rx.same S4).off nin hD4 O6).snoc (O6 _ _ (fun z => nlD (List.mem_singleton.mp z)) hln) (aw.mono fun _ _ n => n.off hD4 O6),fun f' hf' => ?_,by rw [List.length_append,lT]; rfl,fun i' j' hi' hj' => ?_⟩
      · rcases List.mem_append.mp z with q | q
        · exact nin q
        · exact nlD (List.mem_singleton.mp q).symm
      · rcases List.mem_append.mp hf' with q | q
        · exact wT f' q
        · rw [List.mem_singleton.mp q]; exact lg
      · unfold ent
        by_cases e:i' = i
        · rw [e,show (T ++ [g]).getD i [] = g by rw [List.getD_eq_getElem?_getD,List.getElem?_append_right (by omega),lT,Nat.sub_self]; rfl]
          exact eg j' hj'
        · rw [show (T ++ [g]).getD i' [] = T.getD i' [] by rw [List.getD_eq_getElem?_getD,List.getElem?_append_left (by omega),← List.getD_eq_getElem?_getD]]
          exact eT i' j' (by omega) hj'
  · rintro σ H2 ⟨z4,z5,z6,ds,T,rfl,S2,hD,nin,rx,wT,lT,eT⟩
    rw [List.length_map,la,lA] at lT eT
    exact ⟨_,rfl,k H2 D ds T S2 ⟨hD,rx,wT,lT,n1,n7⟩ eT⟩
theorem sc_l_power:FnScope ["_law_prime_here", "_law_table_here", "_law_n", "_law_found", "_law_square"] ["_law_prime_here", "_law_table_here", "_law_n"] (defScope s_l_power):=⟨rfl,rfl,rfl,by decide +kernel,rfl,by decide +kernel,by decide +kernel⟩
theorem ok_l_power72 (h:Here K mg "_law_power" s_l_power) (T:Nm mg) (h_l_unit:Has P w K mg base "_law_unit" 1 ["_law_prime_here", "_law_size"] sp_l_unit72) (h_l_product:Has P w K mg base "_law_product" 1 ["_law_prime_here", "_law_one", "_law_other"] sp_l_product72):Has P w K mg base "_law_power" 2 ["_law_prime_here", "_law_table_here", "_law_n"] sp_l_power72:=by
  refine h.has (fun f fd F => F.binds fun _ _ _ _ _ _ us hl => by obtain ⟨_,_,_,rfl⟩:=len3 hl; exact rfl) fun f fd F => F.ok sc_l_power (fun vs H Q E h => ?_) (fun cdv A outer s H vs Q E hr h => ?_)
  · obtain ⟨_,_,_,_,_,_,_,rfl,_⟩:=h
    rfl
  obtain ⟨p,hp,a,rs,A,sz,n,rfl,ta,k⟩:=h
  have nd:=sc_l_power.nd
  refine ⟨_,(pss_cons (ps_set (i:=3) nd rfl (Or.inl rfl) (pe_has h_l_unit hr (by rfl) (pa_cons (pv 0) (pa_cons (pe_callB call_len_seq (by rfl) T.len boot_len (pa_cons (pv 1) pa_nil)) pa_nil))))
    (pss_cons (ps_set (i:=4) nd rfl (Or.inl rfl) (pv 1))
    (pss_cons (ps_while PassesOwn.never (pt_cmpR op_gt (pv 2) pe_int (nomark _)) (pss_cons (ps_if (pt_cmpR op_eq (pe_op op_mod (pv 2) pe_int) pe_int (nomark _)) (pss_one (ps_set (i:=3) nd rfl (Or.inl rfl) (pe_has h_l_product hr (by rfl) (pa_cons (pv 0) (pa_cons (pv 3) (pa_cons (pv 4) pa_nil)))))) pss_nil)
      (pss_cons (ps_set (i:=2) nd rfl (Or.inl rfl) (pe_op op_fdiv (pv 2) pe_int))
      (pss_one (ps_if (pt_cmpR op_gt (pv 2) pe_int (nomark _)) (pss_one (ps_set (i:=4) nd rfl (Or.inl rfl) (pe_has h_l_product hr (by rfl) (pa_cons (pv 0) (pa_cons (pv 4) (pa_cons (pv 4) pa_nil)))))) pss_nil)))))
    (pss_one (ps_ret (pv 3)))))),?_⟩
  have n1:=ta.n1
  have n7:=ta.n7
  have lA:=ta.e
  have la:=ta.r.1
  refine ⟨_,rfl,_,rfl,a,_,rfl,.inl (SqL.of ta.l),p,hp,sz,(by rw [List.length_map,la,lA]; rfl),n1,n7,fun H1 F0 f0 S1 tf => ?_⟩
  refine ⟨_,rfl,?_⟩
  refine ⟨fun mm σ H2 => ∃ (r e d:Nat) (Fa Sa:Addr) (fs ss:List Addr) (FT ST:List (List (RX p hp).F)),mm = r ∧ σ = [some (.int (p:Int)),some (.ref a),some (.int (r:Int)),some (.ref Fa),some (.ref Sa)] ∧ Same H H2 ∧ TabP p hp H2 Fa fs FT sz ∧ (∀ i j,i < sz → j < sz → ent FT i j = pw (ent A) sz e i j) ∧ TabP p hp H2 Sa ss ST sz ∧ (0 < r → ∀ i j,i < sz → j < sz → ent ST i j = pw (ent A) sz d i j) ∧ n = e + r * d,⟨n,n,0,1,F0,a,f0,rs,_,A,rfl,rfl,S1,tf,(fun i j hi hj => unitT_ent hi hj),ta.same S1,(fun _ i j hi hj => (pw_one _ _ hj).symm),by omega⟩,?_⟩
  rintro mm σ H2 ⟨r,e,d,Fa,Sa,fs,ss,FT,ST,rfl,rfl,S2,tF,eF,tS,eS,en⟩
  refine ⟨_,rfl,_,_,rfl,rfl,_,rfl,?_⟩
  refine if_dec (fun z => ?_) (fun z => ?_)
  case refine_2 =>
    have z:¬ (0:Int) < (mm:Int):=z
    have r0:mm = 0:=by omega
    rw [r0,Nat.zero_mul,Nat.add_zero] at en
    exact ⟨_,rfl,k H2 Fa fs FT S2 tF (by rw [en]; exact eF)⟩
  have z:(0:Int) < (mm:Int):=z
  have eS:=eS (by omega)
  refine ⟨_,fun _ _ h => h,?_⟩
  have hd2:((mm:Int)) / 2 = ((mm / 2:Nat):Int):=by omega
  obtain ⟨e',he'⟩:∃ e',e' = e + mm % 2 * d:=⟨_,rfl⟩
  have en':n = e' + mm / 2 * (2 * d):=by
    have h1:mm = mm / 2 * 2 + mm % 2:=by omega
    have h2:mm * d = (mm / 2 * 2 + mm % 2) * d:=by rw [← h1]
    rw [Nat.add_mul,Nat.mul_assoc] at h2
    omega
  have d0:Same H H2 ∧ (∃ (ss:List Addr) (ST:List (List (RX p hp).F)),TabP p hp H2 Sa ss ST sz ∧ ∀ i j,i < sz → j < sz → ent ST i j = pw (ent A) sz d i j) ∧ ∃ (fs:List Addr) (FT:List (List (RX p hp).F)),TabP p hp H2 Fa fs FT sz ∧ ∀ i j,i < sz → j < sz → ent FT i j = pw (ent A) sz e i j:=⟨S2,⟨ss,ST,tS,eS⟩,fs,FT,tF,eF⟩
  clear S2 tS tF eF eS
  revert H2
  revert Fa
  refine' joinU2 (C':=fun U Hx => Same H Hx ∧ (∃ (ss:List Addr) (ST:List (List (RX p hp).F)),TabP p hp Hx Sa ss ST sz ∧ ∀ i j,i < sz → j < sz → ent ST i j = pw (ent A) sz d i j) ∧ ∃ (fs:List Addr) (FT:List (List (RX p hp).F)),TabP p hp Hx U fs FT sz ∧ ∀ i j,i < sz → j < sz → ent FT i j = pw (ent A) sz e' i j) (fun kj U Hx c => ?first) ?second
  case first =>
    obtain ⟨S2,⟨ss,ST,tS,eS⟩,fs,FT,tF,eF⟩:=c
    refine ⟨_,rfl,_,_,rfl,rfl,(by show (0:Int) < _; decide),rfl,_,rfl,?_⟩
    refine' if_eqI (fun z => ?yes) (fun z => ?no)
    case no =>
      have z:¬ (mm:Int) % 2 = 1:=z
      have e0:mm % 2 = 0:=by omega
      refine kj U Hx ⟨S2,⟨ss,ST,tS,eS⟩,fs,FT,tF,?_⟩
      rw [he',e0,Nat.zero_mul,Nat.add_zero]
      exact eF
    case yes =>
      have z:(mm:Int) % 2 = 1:=z
      have e1:mm % 2 = 1:=by omega
      refine ⟨_,rfl,_,rfl,_,rfl,p,hp,U,Sa,fs,ss,FT,ST,sz,rfl,tF,tS,fun H3 D ds TT S3 tD eD => ?_⟩
      refine kj D H3 ⟨S2.trans S3,⟨ss,ST,tS.same S3,eS⟩,ds,TT,tD,fun i j hi hj => ?_⟩
      rw [eD i j hi hj,he',e1,Nat.one_mul,pw_add _ _ e d i j hi hj]
      exact Sg_congr fun l hl => by rw [eF i l hi hl,eS l j hl hj]
  case second =>
    rintro U Hx ⟨S2,⟨ss,ST,tS,eS⟩,fs,FT,tF,eF⟩
    refine ⟨_,rfl,_,_,rfl,rfl,⟨by decide,by decide⟩,?_⟩
    show gName 2 (V.int ((mm:Int) / 2)) _ Hx _
    rw [hd2]
    refine ⟨_,rfl,_,_,rfl,rfl,_,rfl,?_⟩
    refine if_dec (fun q => ?_) (fun q => ?_)
    · refine ⟨_,rfl,_,rfl,_,rfl,p,hp,Sa,Sa,ss,ss,ST,ST,sz,rfl,tS,tS,fun H3 D ds TT S3 tD eD => ?_⟩
      refine ⟨_,(by show mm / 2 < mm; omega),mm / 2,e',2 * d,U,D,fs,ds,FT,TT,rfl,rfl,S2.trans S3,tF.same S3,eF,tD,(fun _ i j hi hj => ?_),en'⟩
      rw [eD i j hi hj,show 2 * d = d + d by omega,pw_add _ _ d d i j hi hj]
      exact Sg_congr fun l hl => by rw [eS i l hi hl,eS l j hl hj]
    · have q:¬ (0:Int) < ((mm / 2:Nat):Int):=q
      exact ⟨_,(by show mm / 2 < mm; omega),mm / 2,e',2 * d,U,Sa,fs,ss,FT,ST,rfl,rfl,S2,tF,eF,tS,(fun z => by omega),en'⟩
end
end My
namespace My
open PySem L2 PyProof.Rows
section
variable {P:Program} {w:World} {K:PySem.W.Frag} {mg:Str → Option Value} {base:Heap}
theorem pick8 (c:Int):∃ n:Nat,atI [V.int 1,V.int 2,V.int 2,V.int 3,V.int 3,V.int 4,V.int 5,V.int 2] (c % 8) = some (.int (n:Int)) ∧ 1 ≤ n ∧ n ≤ 5:=by
  rcases (by omega:c % 8 = 0 ∨ c % 8 = 1 ∨ c % 8 = 2 ∨ c % 8 = 3 ∨ c % 8 = 4 ∨ c % 8 = 5 ∨ c % 8 = 6 ∨ c % 8 = 7) with e | e | e | e | e | e | e | e <;> rw [e]
  · exact ⟨1,rfl,by decide,by decide⟩
  · exact ⟨2,rfl,by decide,by decide⟩
  · exact ⟨2,rfl,by decide,by decide⟩
  · exact ⟨3,rfl,by decide,by decide⟩
  · exact ⟨3,rfl,by decide,by decide⟩
  · exact ⟨4,rfl,by decide,by decide⟩
  · exact ⟨5,rfl,by decide,by decide⟩
  · exact ⟨2,rfl,by decide,by decide⟩
theorem sc_l_table:FnScope ["_law_prime_here", "_law_cells", "_law_size", "_law_table_here", "_law_i", "_law_row", "_law_j", "_law_k", "_law_cell", "_law_other", "_law_by"] ["_law_prime_here", "_law_cells"] (defScope s_l_table):=⟨rfl,rfl,rfl,by decide +kernel,rfl,by decide +kernel,by decide +kernel⟩
theorem ok_l_table72 (h:Here K mg "_law_table" s_l_table) (T:Nm mg):Has P w K mg base "_law_table" 1 ["_law_prime_here", "_law_cells"] sp_l_table72:=by
  refine h.has (fun f fd F => F.binds fun _ _ _ _ _ _ us hl => by obtain ⟨_,_,rfl⟩:=len2 hl; exact rfl) fun f fd F => F.ok sc_l_table (fun vs H Q E h => ?_) (fun cdv A outer s H vs Q E hr h => ?_)
  · obtain ⟨_,_,_,_,rfl,_⟩:=h
    rfl
  obtain ⟨p,hp,c,cs,rfl,ce,k⟩:=h
  have nd:=sc_l_table.nd
  refine ⟨_,(pss_cons (ps_set (i:=2) nd rfl (Or.inl rfl) (pe_ix ix_list (pe_lst (pa_cons pe_int (pa_cons pe_int (pa_cons pe_int (pa_cons pe_int (pa_cons pe_int (pa_cons pe_int (pa_cons pe_int (pa_cons pe_int pa_nil))))))))) (pe_op op_mod (pe_op op_mod (pe_op op_mul (pe_ix ix_list (pv 1) pe_int (fun _ _ => rfl)) pe_int) pe_int) pe_int) (fun _ _ => rfl)))
    (pss_cons (ps_set (i:=3) nd rfl (Or.inl rfl) (pe_lst pa_nil))
    (pss_cons (ps_for PassesOwn.never rfl (pi_range1 (by rfl) T.range (pa_cons (pv 2) pa_nil)) (pg_name (i:=4) nd rfl (Or.inl rfl)) (pss_cons (ps_set (i:=5) nd rfl (Or.inl rfl) (pe_lst pa_nil))
      (pss_cons (ps_for PassesOwn.never rfl (pi_range1 (by rfl) T.range (pa_cons (pv 2) pa_nil)) (pg_name (i:=6) nd rfl (Or.inl rfl)) (pss_cons (ps_set (i:=7) nd rfl (Or.inl rfl) (pe_op op_add (pe_op op_add pe_int (pe_op op_mulO (pv 4) (pv 2))) (pv 6)))
        (pss_one (ps_expr (pe_bm PySem.F.plainAttrs_list PySem.F.slot_list_append PySem.F.type_list_append mt_append (pv 5) (pa_cons (pe_op op_modN (pe_op op_add (pe_op op_mul (pe_ix ix_list (pv 1) (pe_op op_modN (pv 7) (pe_callB call_len_seq (by rfl) T.len boot_len (pa_cons (pv 1) pa_nil))) (fun _ _ => rfl)) pe_int) (pe_op op_mulO (pv 7) (pv 7))) (pv 0)) pa_nil))))))
      (pss_one (ps_expr (pe_bm PySem.F.plainAttrs_list PySem.F.slot_list_append PySem.F.type_list_append mt_append (pv 3) (pa_cons (pv 5) pa_nil)))))))
    (pss_cons (ps_set (i:=8) nd rfl (Or.inl rfl) (pe_ix ix_list (pv 1) (pe_op op_fdiv (pe_callB call_len_seq (by rfl) T.len boot_len (pa_cons (pv 1) pa_nil)) pe_int) (fun _ _ => rfl)))
    (pss_cons (ps_if (pt_cmpR op_eq (pe_op op_mod (pe_op op_mod (pe_op op_mul (pv 8) pe_int) pe_int) pe_int) pe_int (nomark _)) (pss_cons (ps_set (i:=9) nd rfl (Or.inl rfl) (pe_ix ix_list (pv 3) (pe_op op_modN (pe_op op_mod (pe_op op_mul (pv 8) pe_int) pe_int) (pv 2)) (fun _ _ => rfl)))
      (pss_cons (ps_set (i:=10) nd rfl (Or.inr rfl) (pe_op op_modN (pe_op op_mod (pe_op op_mul (pv 8) pe_int) pe_int) (pv 0)))
      (pss_one (ps_asg (pe_comp ["_law_x"] [(10, "_law_by"),(0, "_law_prime_here")] rfl (pi_list (pv 9)) (by exact fun _ _ _ _ => (pg_name (i:=0) (show (["_law_x", "_law_by", "_law_prime_here"]:List Str).Nodup by decide +kernel) rfl (Or.inl rfl))) (by exact fun _ _ _ _ => (pe_op op_modN (pe_op op_mulO (pv 1) (pv 0)) (pv 2))) ⟨⟨rfl,rfl,(by first | exact Or.inl rfl | exact Or.inr rfl)⟩,⟨⟨rfl,rfl,(by first | exact Or.inl rfl | exact Or.inr rfl)⟩,trivial⟩⟩) (pg_sub (pv 3) (pe_op op_modN (pe_op op_mod (pe_op op_mul (pv 8) pe_int) pe_int) (pv 2)) set_list))))) pss_nil)
    (pss_one (ps_ret (pv 3)))))))),?_⟩
  have h2:=hp.two
  have ch1:=ce.h1
  have ch2:=ce.h2
  have c0:atI (cs.map V.int) 0 = some (.int cs[0]):=int_at (i:=0) (by omega)
  refine ⟨(by show 8 ≤ sizeLine; decide),fun q8 n8 => ?_⟩
  have S8:=same_new n8 (.lst [.int 1,.int 2,.int 2,.int 3,.int 3,.int 4,.int 5,.int 2])
  have q8':=upd_same (H:=H) (a:=q8) (o:=.lst [.int 1,.int 2,.int 2,.int 3,.int 3,.int 4,.int 5,.int 2])
  generalize upd H q8 (.lst [.int 1,.int 2,.int 2,.int 3,.int 3,.int 4,.int 5,.int 2]) = H1 at *
  obtain ⟨n,en,n1,n5⟩:=pick8 (cs[0] * 48271 % 65537)
  refine ⟨_,rfl,c,_,0,_,rfl,rfl,SqL.of (S8 _ _ ce.l),c0,_,_,rfl,rfl,.inr ⟨by decide,by decide⟩,_,_,rfl,rfl,(by show (0:Int) < _; decide),_,_,rfl,rfl,(by show (0:Int) < _; decide),q8,_,_,_,rfl,rfl,SqL.of q8',en,?_⟩
  refine ⟨(by show 0 ≤ sizeLine; decide),fun tb ntb1 => ?_⟩
  have ntb:H tb = none:=S8.free ntb1
  have Stb:=same_new ntb1 (.lst [])
  have qtb:=upd_same (H:=H1) (a:=tb) (o:=.lst [])
  generalize upd H1 tb (.lst []) = H2 at *
  have S2:=S8.trans Stb
  refine ⟨_,rfl,(n:Int),rfl,by omega,by omega,?_⟩
  rw [Int.toNat_natCast]
  refine for_range (lo:=0) (n:=n) (fun i σ H3 => ∃ (z4 z5 z6 z7 z8 z9 z10:Option V) (rs:List Addr) (R:List (List (RX p hp).F)),σ = [some (.int (p:Int)),some (.ref c),some (.int (n:Int)),some (.ref tb),z4,z5,z6,z7,z8,z9,z10] ∧ Same H H3 ∧ H3 tb = some (.lst (rs.map V.ref)) ∧ RowsX (RX p hp) H3 rs R ∧ R.length = i ∧ Wid n R ∧ tb ∉ rs) ⟨_,_,_,_,_,_,_,[],[],rfl,S2,qtb,.nil,rfl,(fun f hf => nomatch hf),fun z => nomatch z⟩ ?_ ?_
  · rintro i σ H3 hi ⟨z4,z5,z6,z7,z8,z9,z10,rs,R,rfl,S3,hT,rx,lR,wR,nt⟩
    refine ⟨(by show 0 ≤ sizeLine; decide),fun rw_ nrw => ?_⟩
    have nwt:rw_ ≠ tb:=fun z => by rw [z,hT] at nrw; cases nrw
    have Sw:=same_new nrw (.lst [])
    have qw:=upd_same (H:=H3) (a:=rw_) (o:=.lst [])
    generalize upd H3 rw_ (.lst []) = H4 at *
    refine ⟨_,rfl,(n:Int),rfl,by omega,by omega,?_⟩
    rw [Int.toNat_natCast]
    refine for_range (lo:=0) (n:=n) (fun j σ H5 => ∃ (z6 z7 z8 z9 z10:Option V) (ws:List V) (g:List (RX p hp).F),σ = [some (.int (p:Int)),some (.ref c),some (.int (n:Int)),some (.ref tb),some (.int (0 + (i:Int))),some (.ref rw_),z6,z7,z8,z9,z10] ∧ Same H3 H5 ∧ H5 rw_ = some (.lst ws) ∧ AllG (NR (RX p hp) H5) ws g ∧ g.length = j) ⟨_,_,_,_,_,[],[],rfl,Sw,qw,.nil,rfl⟩ ?_ ?_
    · rintro j σ H5 hj ⟨z6,z7,z8,z9,z10,ws,g,rfl,S5,hw,aw,lg⟩
      have ce5:=(ce.same S3).same S5
      have mul5:i * n ≤ 25:=Nat.le_trans (Nat.mul_le_mul (show i ≤ 5 by omega) n5) (by decide)
      refine ⟨_,rfl,_,rfl,_,_,rfl,rfl,.of_right (intBits_le_64 (by omega) (by omega)),_,_,rfl,rfl,_,rfl,_,_,rfl,rfl,?_⟩
      have ek:(1:Int) + (0 + (i:Int)) * (n:Int) + (0 + (j:Int)) = ((1 + i * n + j:Nat):Int):=by
        have e1:((i * n:Nat):Int) = (i:Int) * (n:Int):=Int.natCast_mul i n
        rw [Int.zero_add,← e1]
        omega
      show gName 7 (V.int ((1:Int) + (0 + (i:Int)) * (n:Int) + (0 + (j:Int)))) _ H5 _
      rw [ek]
      generalize hkk:1 + i * n + j = kk
      have k64:kk < 64:=by omega
      obtain ⟨wv,ew,lw⟩:=fmodN (a:=(kk:Int)) (n:=cs.length) ch1
      obtain ⟨x,hx⟩:=md_ex hp (cs[wv] * 16807 + (kk:Int) * (kk:Int))
      refine ⟨_,rfl,.inl ⟨rfl,_,SqL.of hw⟩,?_⟩
      refine ⟨_,rfl,_,rfl,_,rfl,c,_,rfl,.inl (SqL.of ce5.l),_,_,rfl,rfl,(by rw [List.length_map]; show (cs.length:Int) ≠ 0; omega),c,_,_,_,rfl,rfl,SqL.of ce5.l,(by rw [List.length_map,ew]; exact int_at lw),_,_,rfl,rfl,.inr ⟨by decide,by decide⟩,_,rfl,_,rfl,_,_,rfl,rfl,.of_right (intBits_le_64 (by omega) (by omega)),_,_,rfl,rfl,_,rfl,_,_,rfl,rfl,(show (p:Int) ≠ 0 by omega),rw_,ws,_,rfl,rfl,hw,Nat.lt_of_lt_of_le (show ws.length < 1000 by rw [aw.1]; omega) (by decide),?_⟩
      have O6:Off [rw_] H5 (upd H5 rw_ (.lst (ws ++ [.int ((cs[wv] * 16807 + (kk:Int) * (kk:Int)).fmod (p:Int))]))):=off_upd' (Same.refl H5)
      exact ⟨_,_,_,_,_,ws ++ [.int ((cs[wv] * 16807 + (kk:Int) * (kk:Int)).fmod (p:Int))],g ++ [x],rfl,Off.same O6 S5 (fun z hz => by rw [List.mem_singleton.mp hz]; exact nrw),upd_same,(aw.mono fun _ _ n => n.off hw O6).append (.one (md_nr hx)),by rw [List.length_append,lg]; rfl⟩
    · rintro σ H5 ⟨z6,z7,z8,z9,z10,ws,g,rfl,S5,hw,aw,lg⟩
      have hT5:=S5 _ _ hT
      refine ⟨_,rfl,.inl ⟨rfl,_,SqL.of hT5⟩,_,rfl,tb,_,_,rfl,rfl,hT5,Nat.lt_of_lt_of_le (show (rs.map V.ref).length < 1000 by rw [List.length_map,rx.1]; omega) (by decide),?_⟩
      have O6:Off [tb] H5 (upd H5 tb (.lst (rs.map V.ref ++ [.ref rw_]))):=off_upd' (Same.refl H5)
      refine ⟨_,_,_,_,_,_,_,rs ++ [rw_],R ++ [g],rfl,Off.same O6 (S3.trans S5) (fun z hz => by rw [List.mem_singleton.mp hz]; exact ntb),by rw [upd_same,List.map_append]; rfl,((rx.same S5).off nt hT5 O6).snoc (O6 _ _ (fun z => nwt (List.mem_singleton.mp z)) hw) (aw.mono fun _ _ n => n.off hT5 O6),by rw [List.length_append,lR]; rfl,fun f' hf' => ?_,fun z => ?_⟩
      · rcases List.mem_append.mp hf' with q | q
        · exact wR f' q
        · rw [List.mem_singleton.mp q]; exact lg
      · rcases List.mem_append.mp z with q | q
        · exact nt q
        · exact nwt (List.mem_singleton.mp q).symm
  · rintro σ H3 ⟨z4,z5,z6,z7,z8,z9,z10,rs,R,rfl,S3,hT,rx,lR,wR,nt⟩
    have ce3:=ce.same S3
    have lr:=rx.1
    have d3:((cs.length:Int)) / 3 = ((cs.length / 3:Nat):Int):=by omega
    refine ⟨_,rfl,_,rfl,c,_,rfl,.inl (SqL.of ce3.l),_,_,rfl,rfl,⟨by decide,by decide⟩,c,_,_,_,rfl,rfl,SqL.of ce3.l,(by rw [List.length_map,d3]; exact int_at (by omega)),?_⟩
    generalize cs[cs.length / 3] = cl
    refine ⟨_,rfl,_,_,rfl,rfl,.inr ⟨by decide,by decide⟩,_,_,rfl,rfl,(by show (0:Int) < _; decide),_,_,rfl,rfl,(by show (0:Int) < _; decide),rfl,_,rfl,?_⟩
    refine if_eqI (fun _ => ?_) (fun _ => ⟨_,rfl,k H3 tb rs R n S3 ⟨hT,rx,wR,lR,n1,by omega⟩ n5⟩)
    obtain ⟨i1,e1,l1⟩:=fmodN (a:=cl * 30341 % 65587) (n:=n) n1
    obtain ⟨i2,e2,l2⟩:=fmodN (a:=cl * 30323 % 65581) (n:=n) n1
    obtain ⟨oa,f,ho,hf⟩:∃ oa f,rs[i1]? = some oa ∧ R[i1]? = some f:=⟨rs[i1]'(by omega),R[i1]'(by omega),List.getElem?_eq_getElem (by omega),List.getElem?_eq_getElem (by omega)⟩
    obtain ⟨xs,hxs,al⟩:=rx.2 i1 oa f ho hf
    have lf:=wR f (List.mem_of_getElem? hf)
    have lx:=al.1
    refine ⟨_,rfl,_,rfl,_,_,rfl,rfl,.inr ⟨by decide,by decide⟩,_,_,rfl,rfl,(by show (0:Int) < _; decide),_,rfl,_,_,rfl,rfl,(show (n:Int) ≠ 0 by omega),tb,_,_,_,rfl,rfl,SqL.of hT,(by show atI (rs.map V.ref) ((cl * 30341 % 65587).fmod (n:Int)) = _; rw [e1]; exact ref_at ho),?_⟩
    refine ⟨_,rfl,_,_,rfl,rfl,.inr ⟨by decide,by decide⟩,_,_,rfl,rfl,(by show (0:Int) < _; decide),_,rfl,_,_,rfl,rfl,(show (p:Int) ≠ 0 by omega),?_⟩
    obtain ⟨b,hb⟩:=md_ex hp (cl * 30307 % 65579)
    have hb':=nr_int (md_nr (H:=H3) hb)
    have hb':=V.int.inj hb'
    show gName 10 (V.int ((cl * 30307 % 65579).fmod (p:Int))) _ H3 _
    rw [hb']
    refine ⟨_,rfl,oa,rfl,⟨_,SqL.of hxs⟩,?_⟩
    refine comp_list (K:=K) (a:=oa) (xs:=xs) (fun i ys H4 => H4 = H3 ∧ AllG (NR (RX p hp) H3) ys ((f.take i).map (b * ·))) (by omega) ⟨rfl,by rw [List.take_zero]; exact .nil⟩ (fun i ys H4 _ q => by rw [q.1]; exact SqL.of hxs) ?_ ?_
    · rintro i u ys H4 hu _ ⟨rfl,ay⟩
      obtain ⟨x,hx,nx⟩:=al.get hu
      have ex:=nr_int nx
      subst ex
      refine ⟨_,rfl,_,rfl,_,_,rfl,rfl,mul_fit (rest_small hp _) (rest_small hp _),_,rfl,_,_,rfl,rfl,(show (p:Int) ≠ 0 by omega),rfl,?_⟩
      rw [List.take_succ,hx,List.map_append]
      exact ay.append (.one (md_nr (md_mul (md_val _) (md_val _))))
    rintro ys H4 hl ⟨rfl,ay⟩ D nD
    rw [lx,List.take_length] at ay
    have SD:=same_new nD (.lst ys)
    have qD:=upd_same (H:=H4) (a:=D) (o:=.lst ys)
    have nDt:D ≠ tb:=fun z => by rw [z,hT] at nD; cases nD
    have nDr:=rx.notin nD
    generalize upd H4 D (.lst ys) = H5 at *
    have hT5:=SD _ _ hT
    refine ⟨_,rfl,_,rfl,_,_,rfl,rfl,.inr ⟨by decide,by decide⟩,_,_,rfl,rfl,(by show (0:Int) < _; decide),_,rfl,_,_,rfl,rfl,(show (n:Int) ≠ 0 by omega),tb,rs.map V.ref,_,i2,rfl,rfl,hT5,?_,?_⟩
    · show ixN (rs.map V.ref).length ((cl * 30323 % 65581).fmod (n:Int)) = some i2
      rw [e2]
      have:=ixN_int (i:=((i2:Nat):Int)) (n:=(rs.map V.ref).length) (Int.natCast_nonneg _) (by rw [List.length_map]; omega)
      rw [Int.toNat_natCast] at this
      exact this
    have O6:Off [tb] H5 (upd H5 tb (.lst ((rs.map V.ref).set i2 (.ref D)))):=off_upd' (Same.refl H5)
    refine ⟨_,rfl,k _ tb (rs.set i2 D) (R.set i2 (f.map (b * ·))) n (Off.same O6 (S3.trans SD) (fun z hz => by rw [List.mem_singleton.mp hz]; exact ntb)) ⟨?_,?_,?_,by rw [List.length_set]; exact lR,n1,by omega⟩ n5⟩
    · rw [upd_same,List.map_set]
    · exact ((rx.same SD).off nt hT5 O6).set i2 (O6 _ _ (fun z => nDt (List.mem_singleton.mp z)) qD) (ay.mono fun _ _ n => (n.same SD).off hT5 O6)
    · intro f' hf'
      rcases List.mem_or_eq_of_mem_set hf' with q | q
      · exact wR f' q
      · rw [q,List.length_map]; exact lf
end
end My
namespace My
open PySem L2 PyProof.Rows
theorem mvT_map {α β:Type} (f:α → β) {R:List α} {q a:Nat} (ha:a < R.length) {y:α} (hy:R[a]? = some y):(mvT R q a).map f = ((R.map f).eraseIdx a).take q ++ f y :: ((R.map f).eraseIdx a).drop q:=by
  unfold mvT
  have e:(R.eraseIdx a).map f = (R.map f).eraseIdx a:=by
    rw [List.eraseIdx_eq_take_drop_succ,List.eraseIdx_eq_take_drop_succ,List.map_append,List.map_take,List.map_drop]
  rw [hy,← e,← List.map_take,← List.map_drop]
  exact List.map_append.trans rfl
theorem RowsX.mv {κ:KX} {H:Hp} {ds:List Addr} {R:List (List κ.F)} (h:RowsX κ H ds R) {q a:Nat} (qa:q ≤ a) (ha:a < R.length):RowsX κ H (mvT ds q a) (mvT R q a):=by
  have l:=h.1
  refine ⟨by rw [mvT_len qa (by omega),mvT_len qa ha,l],fun i x f hx hf => ?_⟩
  rw [mvT_get qa (by omega)] at hx
  rw [mvT_get qa ha] at hf
  split at hx
  · rename_i c; rw [if_pos c] at hf; exact h.2 i x f hx hf
  · rename_i c; rw [if_neg c] at hf
    split at hx
    · rename_i c2; rw [if_pos c2] at hf; exact h.2 a x f hx hf
    · rename_i c2; rw [if_neg c2] at hf
      split at hx
      · rename_i c3; rw [if_pos c3] at hf; exact h.2 _ x f hx hf
      · rename_i c3; rw [if_neg c3] at hf; exact h.2 i x f hx hf
theorem mvT_mem {α:Type} {R:List α} {q a:Nat} {x:α} (h:x ∈ mvT R q a):x ∈ R:=by
  unfold mvT at h
  split at h
  · rename_i f hf
    rcases List.mem_append.mp h with z | z
    · exact List.mem_of_mem_eraseIdx (List.mem_of_mem_take z)
    · rcases List.mem_cons.mp z with z | z
      · rw [z]; exact List.mem_of_getElem? hf
      · exact List.mem_of_mem_eraseIdx (List.mem_of_mem_drop z)
  · exact h
section
variable {P:Program} {w:World} {K:PySem.W.Frag} {mg:Str → Option Value} {base:Heap}
theorem sc_l_rank:FnScope ["_law_prime_here", "_law_table_here", "_law_rows", "_law_many", "_law_j", "_law_at", "_law_top", "_law_i", "_law_by"] ["_law_prime_here", "_law_table_here"] (defScope s_l_rank):=⟨rfl,rfl,rfl,by decide +kernel,rfl,by decide +kernel,by decide +kernel⟩
theorem ok_l_rank72 (h:Here K mg "_law_rank" s_l_rank) (T:Nm mg) (Tz:mg "zip" = none):Has P w K mg base "_law_rank" 1 ["_law_prime_here", "_law_table_here"] sp_l_rank72:=by
  refine h.has (fun f fd F => F.binds fun _ _ _ _ _ _ us hl => by obtain ⟨_,_,rfl⟩:=len2 hl; exact rfl) fun f fd F => F.ok sc_l_rank (fun vs H Q E h => ?_) (fun cdv A outer s H vs Q E hr h => ?_)
  · obtain ⟨_,_,_,_,_,_,rfl,_⟩:=h
    rfl
  obtain ⟨p,hp,a,rs,A,n,rfl,ta,k⟩:=h
  have nd:=sc_l_rank.nd
  refine ⟨_,(pss_cons (ps_setComp (i:=2) ["_law_row"] [] nd rfl rfl rfl (pi_list (pv 1)) (by exact fun _ _ _ _ => (pg_name (i:=0) (show (["_law_row"]:List Str).Nodup by decide +kernel) rfl (Or.inl rfl))) (by exact fun _ _ _ _ => (pe_callTy (call_list_ofK K rfl) (by rfl) T.list boot_list (pa_cons (pv 0) pa_nil))) trivial)
    (pss_cons (ps_set (i:=3) nd rfl (Or.inl rfl) pe_int)
    (pss_cons (ps_for PassesOwn.never rfl (pi_range1 (by rfl) T.range (pa_cons (pe_callB call_len_seq (by rfl) T.len boot_len (pa_cons (pe_ix ix_list (pv 2) pe_int (fun _ _ => rfl)) pa_nil)) pa_nil)) (pg_name (i:=4) nd rfl (Or.inr rfl)) (pss_cons (ps_set (i:=5) nd rfl (Or.inl rfl) (pv 3))
      (pss_cons (ps_while PassesOwn.never (pw_and (pt_cmpR op_lt (pv 5) (pe_callB call_len_seq (by rfl) T.len boot_len (pa_cons (pv 2) pa_nil)) (nomark _)) (pw_and1 (pt_cmpR op_eq (pe_ix ix_list (pe_ix ix_list (pv 2) (pv 5) (fun _ _ => rfl)) (pv 4) (fun _ _ => rfl)) pe_int (nomark _)))).pt (pss_one (ps_set (i:=5) nd rfl (Or.inl rfl) (pe_op op_add (pv 5) pe_int))))
      (pss_one (ps_if (pt_cmpR op_lt (pv 5) (pe_callB call_len_seq (by rfl) T.len boot_len (pa_cons (pv 2) pa_nil)) (nomark _)) (pss_cons (ps_set (i:=6) nd rfl (Or.inr rfl) (pe_bm PySem.F.plainAttrs_list PySem.F.slot_list_pop PySem.F.type_list_pop mt_popAt (pv 2) (pa_cons (pv 5) pa_nil)))
        (pss_cons (ps_expr (pe_bm PySem.F.plainAttrs_list PySem.F.slot_list_insert PySem.F.type_list_insert mt_insert (pv 2) (pa_cons (pv 3) (pa_cons (pv 6) pa_nil))))
        (pss_cons (ps_for PassesOwn.never rfl (pi_range2 (by rfl) T.range (pa_cons (pe_op op_add (pv 3) pe_int) (pa_cons (pe_callB call_len_seq (by rfl) T.len boot_len (pa_cons (pv 2) pa_nil)) pa_nil))) (pg_name (i:=7) nd rfl (Or.inl rfl)) (pss_cons (ps_set (i:=8) nd rfl (Or.inr rfl) (pe_ix ix_list (pe_ix ix_list (pv 2) (pv 7) (fun _ _ => rfl)) (pv 4) (fun _ _ => rfl)))
          (pss_one (ps_asg (pe_comp ["_law_x", "_law_y"] [(6, "_law_top"),(4, "_law_j"),(8, "_law_by"),(0, "_law_prime_here")] rfl (pi_zip (by rfl) Tz (pa_cons (pe_ix ix_list (pv 2) (pv 7) (fun _ _ => rfl)) (pa_cons (pv 6) pa_nil))) (by exact fun _ _ _ _ => (pg_tupK (n:=2) K rfl rfl (pgs_cons (pg_name (i:=0) (show (["_law_x", "_law_y", "_law_top", "_law_j", "_law_by", "_law_prime_here"]:List Str).Nodup by decide +kernel) rfl (Or.inl rfl)) (pgs_cons (pg_name (i:=1) (show (["_law_x", "_law_y", "_law_top", "_law_j", "_law_by", "_law_prime_here"]:List Str).Nodup by decide +kernel) rfl (Or.inl rfl)) pgs_nil)))) (by exact fun _ _ _ _ => (pe_op op_modN (pe_op op_sub (pe_op op_mulO (pv 0) (pe_ix (ix_listK K rfl) (pv 2) (pv 3) (fun _ _ => rfl))) (pe_op op_mulO (pv 4) (pv 1))) (pv 5))) ⟨⟨rfl,rfl,(by first | exact Or.inl rfl | exact Or.inr rfl)⟩,⟨⟨rfl,rfl,(by first | exact Or.inl rfl | exact Or.inr rfl)⟩,⟨⟨rfl,rfl,(by first | exact Or.inl rfl | exact Or.inr rfl)⟩,⟨⟨rfl,rfl,(by first | exact Or.inl rfl | exact Or.inr rfl)⟩,trivial⟩⟩⟩⟩) (pg_sub (pv 2) (pv 7) set_list)))))
        (pss_one (ps_set (i:=3) nd rfl (Or.inl rfl) (pe_op op_add (pv 3) pe_int)))))) pss_nil)))))
    (pss_one (ps_ret (pv 3)))))),?_⟩
  have h2:=hp.two
  have hT:=ta.l
  have lr:=ta.r.1
  have lA:=ta.e
  have n1:=ta.n1
  have n7:=ta.n7
  refine ⟨_,rfl,a,rfl,⟨_,SqL.of hT⟩,?_⟩
  refine comp_list (K:=K) (a:=a) (xs:=rs.map V.ref) (fun i ys H2 => ∃ cs:List Addr,ys = cs.map V.ref ∧ Same H H2 ∧ RowsX (RX p hp) H2 cs (A.take i)) (by rw [List.length_map]; omega) ⟨[],rfl,Same.refl H,by rw [List.take_zero]; exact .nil⟩ (fun i ys H2 _ ⟨as,_,S,_⟩ => SqL.of (S _ _ hT)) ?_ ?_
  · rintro i x ys H2 hx hl ⟨cs,rfl,S,ra⟩
    obtain ⟨b,hb,rfl⟩:=map_ref_get hx
    obtain ⟨f,hf⟩:=get_of_lt hb lr
    obtain ⟨xs,hxs,fl⟩:=ta.r.2 i b f hb hf
    refine ⟨_,rfl,b,xs,rfl,.inl (SqL.of (S _ _ hxs)),fun l nl => ?_⟩
    have Sl:=same_new nl (.lst xs)
    refine ⟨cs ++ [l],by rw [List.map_append]; rfl,S.trans Sl,?_⟩
    rw [List.take_succ,hf]
    exact (ra.same Sl).snoc upd_same (fl.mono fun _ _ n => n.same (S.trans Sl))
  rintro ys H1 hl ⟨cs,rfl,S1,rc⟩ rl nrl1
  have nrl:H rl = none:=S1.free nrl1
  have nin:=rc.notin nrl1
  rw [List.length_map,lr,List.take_length] at rc
  have Srl:=same_new nrl1 (.lst (cs.map V.ref))
  have qrl:=upd_same (H:=H1) (a:=rl) (o:=.lst (cs.map V.ref))
  generalize upd H1 rl (.lst (cs.map V.ref)) = H2 at *
  have S2:=S1.trans Srl
  have rc2:=rc.same Srl
  clear S1 Srl nrl1 rc hl
  obtain ⟨a0,x0,g0,hx0,al0⟩:=rc2.get (i:=0) (by omega)
  have lx0:x0.length = n:=by rw [al0.1]; exact ta.w _ (List.getElem_mem _)
  refine ⟨_,rfl,rl,_,0,_,rfl,rfl,SqL.of qrl,ref_at (i:=0) g0,a0,_,rfl,.inl (SqL.of hx0),_,rfl,?_⟩
  rw [lx0]
  refine ⟨by omega,by omega,?_⟩
  rw [Int.toNat_natCast]
  refine for_range (lo:=0) (n:=n) (fun j σ H3 => ∃ (z4 z5 z6 z7 z8:Option V) (ds:List Addr) (R:List (List (RX p hp).F)) (ls:List Nat) (ts:List (Tn (RX p hp))),σ = [some (.int (p:Int)),some (.ref a),some (.ref rl),some (.int (ls.length:Int)),z4,z5,z6,z7,z8] ∧ Same H H3 ∧ H3 rl = some (.lst (ds.map V.ref)) ∧ rl ∉ ds ∧ RowsX (RX p hp) H3 ds R ∧ R.length = n ∧ Wid n R ∧ Wek R n j ls ∧ (∀ t ∈ ts,t.ok n) ∧ runT ts A = R) ⟨_,_,_,_,_,cs,A,[],[],rfl,S2,qrl,nin,rc2,lA,ta.w,wek_nil,(fun t ht => nomatch ht),rfl⟩ ?_ ?_
  · rintro j σ H3 hj ⟨z4,z5,z6,z7,z8,ds,R,ls,ts,rfl,S3,hR,nid,rx,lR,wR,wk,okT,eT⟩
    have ld:=rx.1
    have lq:=wk.le
    refine ⟨_,rfl,?_⟩
    refine ⟨fun mm σ H4 => ∃ t:Nat,mm = n - t ∧ σ = [some (.int (p:Int)),some (.ref a),some (.ref rl),some (.int (ls.length:Int)),some (.int (0 + (j:Int))),some (.int (t:Int)),z6,z7,z8] ∧ H4 = H3 ∧ ls.length ≤ t ∧ t ≤ n ∧ ∀ i,ls.length ≤ i → i < t → ent R i j = 0,⟨_,ls.length,rfl,rfl,rfl,Nat.le_refl _,lq,fun i a b => by omega⟩,?_⟩
    rintro mm σ H4 ⟨t,rfl,rfl,rfl,qt,tn,zs⟩
    refine ⟨_,rfl,_,rfl,rl,_,rfl,.inl (SqL.of hR),_,_,rfl,rfl,_,rfl,?_⟩
    rw [List.length_map,ld,lR]
    refine if_dec (fun z => ?_) (fun z => ?_)
    case refine_2 =>
      have et:t = n:=by have:¬ (t:Int) < (n:Int):=z; omega
      refine iteF ?_
      refine ⟨_,rfl,_,rfl,rl,_,rfl,.inl (SqL.of hR),_,_,rfl,rfl,_,rfl,?_⟩
      rw [List.length_map,ld,lR]
      refine ite_no (show ¬ (t:Int) < (n:Int) by omega) ?_
      exact ⟨_,_,_,_,_,ds,R,ls,ts,rfl,S3,hR,nid,rx,lR,wR,wk.skip (fun i a b => zs i a (by omega)),okT,eT⟩
    have tn':t < n:=by have:(t:Int) < (n:Int):=z; omega
    obtain ⟨b1,ys1,v,e1,e2,e3,e4⟩:=rx.ent wR (i:=t) (j:=j) (by omega) hj
    have ev:=nr_int e4
    subst ev
    refine ⟨_,rfl,_,rfl,rl,_,_,_,rfl,rfl,SqL.of hR,ref_at e1,_,rfl,b1,_,_,_,rfl,rfl,SqL.of e2,(by rw [Int.zero_add]; exact atI_nat e3),rfl,_,rfl,?_⟩
    refine if_eqI (fun zz => ?_) (fun zz => ?_)
    · refine ⟨_,fun _ _ h => h,?_⟩
      refine ⟨_,rfl,_,_,rfl,rfl,?_⟩
      exact ⟨_,(by show n - (t + 1) < n - t; omega),t + 1,rfl,rfl,rfl,by omega,by omega,fun i a b => by
        by_cases e:i = t
        · rw [e]; exact nr_zero.mp zz
        · exact zs i a (by omega)⟩
    have pv0:ent R t j ≠ 0:=fun q => zz (nr_zero.mpr q)
    refine ⟨_,rfl,_,rfl,rl,_,rfl,.inl (SqL.of hR),_,_,rfl,rfl,_,rfl,?_⟩
    rw [List.length_map,ld,lR]
    refine ite_yes (show (t:Int) < (n:Int) by omega) ?_
    refine ⟨_,rfl,.inl ⟨rfl,_,SqL.of hR⟩,_,rfl,rl,_,_,t,_,rfl,rfl,hR,by omega,by omega,?_,(by rw [List.getElem?_map,e1]; rfl),?_⟩
    · have c2:((t:Nat):Int) < ((ds.map V.ref).length:Int):=by rw [List.length_map]; omega
      have c0:¬ ((t:Nat):Int) < 0:=by omega
      unfold seqIndex?
      simp [c0]
      rw [List.length_map] at c2
      omega
    have O4:Off [rl] H4 (upd H4 rl (.lst ((ds.map V.ref).eraseIdx t))):=off_upd' (Same.refl H4)
    have q4:=upd_same (H:=H4) (a:=rl) (o:=.lst ((ds.map V.ref).eraseIdx t))
    have rx4:=rx.off nid hR O4
    have S4:Same H (upd H4 rl (.lst ((ds.map V.ref).eraseIdx t))):=Off.same O4 S3 (fun z hz => by rw [List.mem_singleton.mp hz]; exact nrl)
    generalize upd H4 rl (.lst ((ds.map V.ref).eraseIdx t)) = H5 at *
    have le5:((ds.map V.ref).eraseIdx t).length = n - 1:=by rw [List.length_eraseIdx,List.length_map,if_pos (by omega)]; omega
    refine ⟨_,rfl,.inl ⟨rfl,_,SqL.of q4⟩,_,rfl,_,rfl,rl,_,_,ls.length,rfl,rfl,q4,by omega,by omega,?_⟩
    have em:((ds.map V.ref).eraseIdx t).take ls.length ++ V.ref b1 :: ((ds.map V.ref).eraseIdx t).drop ls.length = (mvT ds ls.length t).map V.ref:=(mvT_map V.ref (by omega) e1).symm
    rw [em]
    have O5:Off [rl] H5 (upd H5 rl (.lst ((mvT ds ls.length t).map V.ref))):=off_upd' (Same.refl H5)
    have q5:=upd_same (H:=H5) (a:=rl) (o:=.lst ((mvT ds ls.length t).map V.ref))
    have rx5:=(rx4.off nid q4 O5).mv qt (by omega)
    have S5:Same H (upd H5 rl (.lst ((mvT ds ls.length t).map V.ref))):=Off.same O5 S4 (fun z hz => by rw [List.mem_singleton.mp hz]; exact nrl)
    have ni5:rl ∉ mvT ds ls.length t:=fun z => nid (mvT_mem z)
    generalize upd H5 rl (.lst ((mvT ds ls.length t).map V.ref)) = H6 at *
    obtain ⟨us,oku,eu⟩:=mvT_run (q:=ls.length) (d:=t - ls.length) (R:=R) (by omega)
    rw [show ls.length + (t - ls.length) = t by omega] at eu
    have lM:=mvT_len (R:=R) qt (by omega)
    have wM:=mvT_wid (R:=R) qt (by omega) wR
    have tq:∀ c,ent (mvT R ls.length t) ls.length c = ent R t c:=fun c => by
      unfold ent
      rw [show (mvT R ls.length t).getD ls.length [] = ((mvT R ls.length t)[ls.length]?).getD [] from List.getD_eq_getElem?_getD,mvT_get qt (by omega),if_neg (by omega),if_pos rfl,List.getD_eq_getElem?_getD (l:=R) (a:=[])]
    have gm:(mvT ds ls.length t)[ls.length]? = some b1:=by rw [mvT_get qt (by omega),if_neg (by omega),if_pos rfl]; exact e1
    have eT1:runT (ts ++ us) A = mvT R ls.length t:=by rw [runT_append,eT]; exact eu
    have ok1:∀ t' ∈ ts ++ us,t'.ok n:=fun t' h' => by
      rcases List.mem_append.mp h' with z | z
      · exact okT t' z
      · rw [← lR]; exact oku t' z
    generalize hM:mvT R ls.length t = M at *
    refine ⟨_,rfl,_,_,rfl,rfl,_,rfl,rl,_,rfl,.inl (SqL.of q5),_,_,rfl,?_,?_⟩
    · rw [List.length_map,mvT_len qt (by omega),ld,lR]
      exact ⟨by omega,by omega,by omega,by omega⟩
    rw [List.length_map,mvT_len (R:=ds) qt (by omega),ld,lR]
    refine for_range (lo:=(ls.length:Int) + 1) (n:=((n:Int) - ((ls.length:Int) + 1)).toNat) (fun r σ H7 => ∃ (z7 z8:Option V) (es:List Addr) (R':List (List (RX p hp).F)) (vs:List (Tn (RX p hp))),σ = [some (.int (p:Int)),some (.ref a),some (.ref rl),some (.int (ls.length:Int)),some (.int (0 + (j:Int))),some (.int (t:Int)),some (.ref b1),z7,z8] ∧ Same H H7 ∧ H7 rl = some (.lst (es.map V.ref)) ∧ rl ∉ es ∧ es[ls.length]? = some b1 ∧ RowsX (RX p hp) H7 es R' ∧ R'.length = n ∧ Wid n R' ∧ (∀ t ∈ vs,t.ok n) ∧ runT vs A = R' ∧ ∀ i c,i < n → c < n → ent R' i c = if ls.length < i ∧ i < ls.length + 1 + r then ent M i c * ent M ls.length j - ent M i j * ent M ls.length c else ent M i c) ⟨_,_,mvT ds ls.length t,M,ts ++ us,rfl,S5,q5,ni5,gm,rx5,by omega,wM,ok1,eT1,fun i c hi hc => by rw [if_neg (by omega)]⟩ ?_ ?_
    · rintro r σ H7 hr ⟨z7',z8',es,R',vs,rfl,S7,q7,ni7,g7,rx7,l7,w7,ok7,eT7,en7⟩
      have le7:=rx7.1
      obtain ⟨i,ei⟩:∃ i,i = ls.length + 1 + r:=⟨_,rfl⟩
      have hi:i < n:=by omega
      have ej:((ls.length:Int) + 1 + (r:Int)) = ((i:Nat):Int):=by omega
      obtain ⟨c1,xs1,v1,f1,f2,f3,f4⟩:=rx7.ent w7 (i:=i) (j:=j) (by omega) hj
      obtain ⟨c2,xs2,v2,h1',h2',h3',h4'⟩:=rx7.ent w7 (i:=ls.length) (j:=j) (by omega) hj
      rw [g7] at h1'
      cases h1'
      have ev1:=nr_int f4
      have ev2:=nr_int h4'
      subst ev1 ev2
      obtain ⟨gi,hgi⟩:∃ gi,R'[i]? = some gi:=⟨R'[i]'(by omega),List.getElem?_eq_getElem (by omega)⟩
      obtain ⟨gq,hgq⟩:∃ gq,R'[ls.length]? = some gq:=⟨R'[ls.length]'(by omega),List.getElem?_eq_getElem (by omega)⟩
      obtain ⟨xs1',hx1',al1⟩:=rx7.2 i c1 gi f1 hgi
      rw [f2] at hx1'
      cases hx1'
      obtain ⟨xs2',hx2',al2⟩:=rx7.2 ls.length b1 gq g7 hgq
      rw [h2'] at hx2'
      cases hx2'
      have lgi:=w7 gi (List.mem_of_getElem? hgi)
      have lgq:=w7 gq (List.mem_of_getElem? hgq)
      have lx1:=al1.1
      have lx2:=al2.1
      refine ⟨_,rfl,_,rfl,rl,_,_,_,rfl,rfl,SqL.of q7,(by rw [ej]; exact ref_at f1),_,rfl,c1,_,_,_,rfl,rfl,SqL.of f2,(by rw [Int.zero_add]; exact atI_nat f3),?_⟩
      refine ⟨_,rfl,_,rfl,rl,_,_,_,rfl,rfl,SqL.of q7,(by rw [ej]; exact ref_at f1),_,rfl,c1,b1,rfl,⟨_,SqL.of f2⟩,⟨_,SqL.of h2'⟩,?_⟩
      refine comp_zip2 (K:=K) (a:=c1) (b:=b1) (xs:=xs1) (ys:=xs2) (fun q zs H8 => Same H7 H8 ∧ AllG (NR (RX p hp) H8) zs ((List.zipWith (fun x y => x * ent R' ls.length j - ent R' i j * y) gi gq).take q)) (by omega) ⟨Same.refl H7,by rw [List.take_zero]; exact .nil⟩ (fun q zs H8 c => ⟨SqL.of (c.1 _ _ f2),SqL.of (c.1 _ _ h2')⟩) ?_ ?_
      · rintro q u v Tp zs H8 hu hv _ nT ⟨S8,az⟩
        obtain ⟨x,hx,nx⟩:=al1.get hu
        obtain ⟨y,hy,ny⟩:=al2.get hv
        have ex:=nr_int nx
        have ey:=nr_int ny
        subst ex ey
        have ST:=same_new nT (.tup [.int ((Fin.val (x:Fin p):Nat):Int),.int ((Fin.val (y:Fin p):Nat):Int)])
        generalize upd H8 Tp (.tup [.int ((Fin.val (x:Fin p):Nat):Int),.int ((Fin.val (y:Fin p):Nat):Int)]) = H9 at *
        have S9:=S8.trans ST
        refine ⟨_,rfl,_,rfl,_,rfl,b1,_,_,_,rfl,rfl,SqL.of (S9 _ _ h2'),(by rw [Int.zero_add]; exact atI_nat h3'),_,_,rfl,rfl,mul_fit (rest_small hp _) (rest_small hp _),_,rfl,_,rfl,_,_,rfl,rfl,mul_fit (rest_small hp _) (rest_small hp _),_,_,rfl,rfl,_,rfl,_,_,rfl,rfl,(show (p:Int) ≠ 0 by omega),S9,?_⟩
        rw [List.take_succ,List.getElem?_zipWith,hx,hy]
        exact (az.mono fun _ _ n => n.same ST).append (.one (md_nr (md_sub (md_mul (md_val _) (md_val _)) (md_mul (md_val _) (md_val _)))))
      rintro zs H8 _ ⟨S8,az⟩ D nD8
      have lz:(List.zipWith (fun x y => x * ent R' ls.length j - ent R' i j * y) gi gq).length = n:=by rw [List.length_zipWith]; omega
      rw [show min xs1.length xs2.length = n by omega,List.take_of_length_le (by omega)] at az
      have nD7:=S8.free nD8
      have nDl:D ≠ rl:=fun z => by rw [z,q7] at nD7; cases nD7
      have SD:=same_new nD8 (.lst zs)
      have qD:=upd_same (H:=H8) (a:=D) (o:=.lst zs)
      generalize upd H8 D (.lst zs) = H9 at *
      have S79:=S8.trans SD
      have q9:=S79 _ _ q7
      refine ⟨_,rfl,_,rfl,rl,es.map V.ref,_,i,rfl,rfl,q9,?_,?_⟩
      · show ixN (es.map V.ref).length ((ls.length:Int) + 1 + (r:Int)) = some i
        rw [ej]
        have:=ixN_int (i:=((i:Nat):Int)) (n:=(es.map V.ref).length) (Int.natCast_nonneg _) (by rw [List.length_map]; omega)
        rw [Int.toNat_natCast] at this
        exact this
      have O10:Off [rl] H9 (upd H9 rl (.lst ((es.map V.ref).set i (.ref D)))):=off_upd' (Same.refl H9)
      have eR:elR R' ls.length j i = List.zipWith (fun x y => x * ent R' ls.length j - ent R' i j * y) gi gq:=by
        unfold elR
        rw [List.getD_eq_getElem?_getD,hgi,List.getD_eq_getElem?_getD,hgq]; rfl
      have eqj:ent R' ls.length j = ent M ls.length j:=by rw [en7 _ _ (by omega) hj,if_neg (by omega)]
      have nzq:ent R' ls.length j ≠ 0:=by rw [eqj,tq]; exact pv0
      obtain ⟨ws,okw,ew⟩:=elR_run (j:=j) w7 (show ls.length < R'.length by omega) (show i < R'.length by omega) (by omega) nzq
      refine ⟨_,_,es.set i D,R'.set i (elR R' ls.length j i),vs ++ ws,rfl,Off.same O10 (S7.trans S79) (fun z hz => by rw [List.mem_singleton.mp hz]; exact nrl),by rw [upd_same,List.map_set],fun z => ?_,?_,?_,by rw [List.length_set]; exact l7,?_,fun t' h' => ?_,by rw [runT_append,eT7]; exact ew,fun i' c hi' hc => ?_⟩
      · rcases List.mem_or_eq_of_mem_set z with q | q
        · exact ni7 q
        · exact nDl q.symm
      · rw [List.getElem?_set_ne (by omega)]; exact g7
      · refine ((rx7.same S79).off ni7 q9 O10).set i (O10 _ _ (fun z => nDl (List.mem_singleton.mp z)) qD) ?_
        rw [eR]
        exact az.mono fun _ _ n => (n.same SD).off q9 O10
      · intro f' hf'
        rcases List.mem_or_eq_of_mem_set hf' with q | q
        · exact w7 f' q
        · rw [q]; exact elR_len w7 (by omega) (by omega)
      · rcases List.mem_append.mp h' with z | z
        · exact ok7 t' z
        · rw [← l7]; exact okw t' z
      · by_cases e:i' = i
        · rw [e,show ent (R'.set i (elR R' ls.length j i)) i c = (elR R' ls.length j i).getD c 0 by unfold ent; rw [getD_set_self (by omega)],elR_ent w7 (by omega) (by omega) hc,if_pos (by omega),en7 i c hi hc,if_neg (by omega),en7 i j hi hj,if_neg (by omega),en7 ls.length c (by omega) hc,if_neg (by omega),eqj]
        · rw [show ent (R'.set i (elR R' ls.length j i)) i' c = ent R' i' c by unfold ent; rw [getD_set_ne (Ne.symm e)],en7 i' c hi' hc]
          by_cases q:ls.length < i' ∧ i' < ls.length + 1 + r
          · rw [if_pos q,if_pos (by omega)]
          · rw [if_neg q,if_neg (by omega)]
    · rintro σ H7 ⟨z7',z8',es,R',vs,rfl,S7,q7,ni7,g7,rx7,l7,w7,ok7,eT7,en7⟩
      refine ⟨_,rfl,_,_,rfl,rfl,?_⟩
      have stp:Wek R' n (j + 1) (ls ++ [j]):=by
        refine Wek.step (m:=n) wk lR hj qt tn' pv0 (fun i hi c hc => ?_) (fun i hi hin c hc => ?_)
        · rw [hM,en7 i c (by omega) hc,if_neg (by omega)]
        · rw [hM,en7 i c hin hc,if_pos (by omega),tq,tq]
      refine ⟨some (.int (0 + (j:Int))),some (.int (t:Int)),some (.ref b1),z7',z8',es,R',ls ++ [j],vs,?_,S7,q7,ni7,rx7,l7,w7,stp,ok7,eT7⟩
      rw [show ((ls ++ [j]).length:Int) = (ls.length:Int) + 1 by rw [List.length_append]; rfl]
      rfl
  · rintro σ H3 ⟨z4,z5,z6,z7,z8,ds,R,ls,ts,rfl,S3,hR,nid,rx,lR,wR,wk,okT,eT⟩
    obtain ⟨us,R',oku,eR,lR',wR',ech⟩:=wek_red lR wR wk
    have back:=runT_back (m:=n) (ts:=ts) (R:=A) ta.w (by rw [lA]; exact okT)
    rw [eT] at back
    refine ⟨_,rfl,k H3 R' (us ++ ts.reverse.map invT) ls S3 (by rw [runT_append,← eR]; exact back.symm) (fun t' h' => ?_) lR' wR' ech⟩
    rcases List.mem_append.mp h' with z | z
    · exact oku t' z
    · obtain ⟨u,hu,rfl⟩:=List.mem_map.mp z
      exact invT_ok (okT u (List.mem_reverse.mp hu))
end
end My
namespace My
open PySem L2 PyProof.Rows
structure RzI (K:PySem.W.Frag) (mg:Str → Option Value) (CE C f:Addr) (os:List Addr):Prop where
  c:XIni K mg "NoInverse" C CE f
  u:XUp K mg "FrameError" CE
  na:PySem.W.findIn K (.ref C) "rank" = some none
  e:PySem.W.mroIn K C (.ref CE) = some true
  v:PySem.W.mroIn K C (.type "ValueError") = some true
  o:Apart K C os
theorem qt_rx (p:Nat) (hp:PrN p) (m:Nat) (W:List (List (KX.r p hp).F)):QT (.r p hp) m W:=⟨(fun z => nomatch z),⟨1,1,1,by decide,bits1 (by decide),by decide,fun f _ => ⟨fun _ _ => trivial,fun _ _ => trivial⟩⟩⟩
theorem qn_rx (p:Nat) (hp:PrN p) (D:Int) (M:Nat) (A:List (List (KX.r p hp).F)):AllR (QN (.r p hp) D M) A:=fun _ _ _ _ => trivial
theorem pr_rx (p:Nat) (hp:PrN p) (s n:Nat):PrS (.r p hp) s n:=trivial
section
variable {P:Program} {w:World} {K:PySem.W.Frag} {mg:Str → Option Value} {base:Heap} {CF CR CE cF cI fI:Addr}
theorem sc_l_refused:FnScope ["_law_kind", "_law_table_here", "_law_n", "_law_many", "_law_error", "e"] ["_law_kind", "_law_table_here", "_law_n", "_law_many"] (defScope s_l_refused):=⟨rfl,rfl,rfl,by decide +kernel,rfl,by decide +kernel,by decide +kernel⟩
theorem ok_l_refused72 {sp0:Sp} (h:Here K mg "_law_refused" s_l_refused) (T:Nm mg) (cat:CatC K mg "FrameError" CE) (mI:mg "NoInverse" = some (.ref cI)) (Z:RzI K mg CE cI fI []) (h_power:HasX P w K mg base "power" 11 ["kind", "A", "n"] (spPower CF CR cF cI sp0)) (h_l_whole:Has P w K mg base "_law_whole" 11 ["_law_found"] sp_whole):Has P w K mg base "_law_refused" 12 ["_law_kind", "_law_table_here", "_law_n", "_law_many"] (sp_l_refused72 CF CR):=by
  refine h.has (fun f fd F => F.binds fun _ _ _ _ _ _ us hl => by obtain ⟨_,_,_,_,rfl⟩:=len4 hl; exact rfl) fun f fd F => F.ok sc_l_refused (fun vs H Q E h => ?_) (fun cdv A outer s H vs Q E hr h => ?_)
  · obtain ⟨_,_,_,_,_,_,_,_,_,_,_,rfl,_⟩:=h
    rfl
  obtain ⟨p,hp,sk,a,rs,A,m,n,R,ts,ls,rfl,kx,ta,n0,eA,ok0,lR,wR,ech,less,k⟩:=h
  have nd:=sc_l_refused.nd
  refine ⟨_,(pss_cons (ps_set (i:=4) nd rfl (Or.inl rfl) pe_non)
    (pss_cons (ps_try cat nd (i:=5) rfl rfl (by rfl) (by exact fun E pn xe hp => (pss_one (ps_expr (pe_hasX h_power hp hr (by rfl) (pa_cons (pv 0) (pa_cons (pv 1) (pa_cons (pv 2) pa_nil))))))) (by exact fun e => (pss_one (ps_set (i:=4) nd rfl (Or.inl rfl) (pv 5)))))
    (pss_one (ps_ret (pe_and (pe_callB (call_isinstD Z.c.cls) (by rfl) T.isinstance boot_isinstance (pa_cons (pv 4) (pa_cons (pe_glob (v:=.ref cI) (by rfl) mI rfl) pa_nil))) (pe_and (pe_has h_l_whole hr (by rfl) (pa_cons (pe_fldE Z.c.cls Z.na (pv 4) rfl) pa_nil)) (pe_one (pe_cmpR op_eq (pe_fldE Z.c.cls Z.na (pv 4) rfl) (pv 3) (nomark _))))))))),?_⟩
  have m7:=ta.n7
  intro pn xe
  refine ⟨_,rfl,_,rfl,_,rfl,RX p hp,sk,a,rs,A,m,n,rfl,kx,ta.tabR,(fun z => absurd ta.e z),(fun _ => ⟨m7,(fun z => by omega),(fun _ => ⟨R,ts,ls,eA,lR,wR,ok0,ech,qt_rx p hp m _,(fun _ H0 d S0 hd => ?_),(fun z => by omega)⟩)⟩)⟩
  refine ⟨cI,rfl,Z.e,fun e he => ?_⟩
  refine ⟨_,rfl,?_⟩
  have hE:=upd_same (H:=H0) (a:=e) (o:=excO e cI (some d))
  have S1:=same_new he (excO e cI (some d))
  generalize upd H0 e (excO e cI (some d)) = H1 at *
  have hD:=S1 _ _ hd
  refine ⟨_,rfl,e,d,_,_,_,rfl,hE,hD,.ref kit_self,_,rfl,iteT ?_⟩
  refine ⟨_,rfl,e,d,_,_,rfl,hE,hD,rfl,_,rfl,_,rfl,iteT ?_⟩
  exact ⟨_,rfl,e,d,_,_,rfl,hE,hD,rfl,_,rfl,rfl,bl_yes rfl (k _ (S0.trans S1))⟩
theorem sc_l_below:FnScope ["_law_kind", "_law_prime_here", "_law_table_here", "_law_n", "_law_kept", "_law_many", "_law_found"] ["_law_kind", "_law_prime_here", "_law_table_here", "_law_n"] (defScope s_l_below):=⟨rfl,rfl,rfl,by decide +kernel,rfl,by decide +kernel,by decide +kernel⟩
theorem ok_l_below72 (h:Here K mg "_law_below" s_l_below) (T:Nm mg) (h_l_rank:Has P w K mg base "_law_rank" 12 ["_law_prime_here", "_law_table_here"] sp_l_rank72) (h_l_refused:Has P w K mg base "_law_refused" 12 ["_law_kind", "_law_table_here", "_law_n", "_law_many"] (sp_l_refused72 CF CR)) (h_power:HasX P w K mg base "power" 12 ["kind", "A", "n"] (spPower CF CR cF cI (spPower CF CR cF cI spF))) (h_l_is_table:Has P w K mg base "_law_is_table" 12 ["_law_prime_here", "_law_found", "_law_rows"] sp_l_is_table72) (h_l_product:Has P w K mg base "_law_product" 12 ["_law_prime_here", "_law_one", "_law_other"] sp_l_product72) (h_l_power:Has P w K mg base "_law_power" 12 ["_law_prime_here", "_law_table_here", "_law_n"] sp_l_power72) (h_l_unit:Has P w K mg base "_law_unit" 12 ["_law_prime_here", "_law_size"] sp_l_unit72):Has P w K mg base "_law_below" 13 ["_law_kind", "_law_prime_here", "_law_table_here", "_law_n"] (sp_l_below72 CF CR):=by
  refine h.has (fun f fd F => F.binds fun _ _ _ _ _ _ us hl => by obtain ⟨_,_,_,_,rfl⟩:=len4 hl; exact rfl) fun f fd F => F.ok sc_l_below (fun vs H Q E h => ?_) (fun cdv A outer s H vs Q E hr h => ?_)
  · obtain ⟨_,_,_,_,_,_,_,_,rfl,_⟩:=h
    rfl
  obtain ⟨p,hp,sk,a,rs,A,m,n,rfl,kx,ta,n0,n60,k⟩:=h
  have nd:=sc_l_below.nd
  refine ⟨_,(pss_cons (ps_setComp (i:=4) ["_law_row"] [] nd rfl rfl rfl (pi_list (pv 2)) (by exact fun _ _ _ _ => (pg_name (i:=0) (show (["_law_row"]:List Str).Nodup by decide +kernel) rfl (Or.inl rfl))) (by exact fun _ _ _ _ => (pe_callTy (call_list_ofK K rfl) (by rfl) T.list boot_list (pa_cons (pv 0) pa_nil))) trivial)
    (pss_cons (ps_set (i:=5) nd rfl (Or.inl rfl) (pe_has h_l_rank hr (by rfl) (pa_cons (pv 1) (pa_cons (pv 4) pa_nil))))
    (pss_cons (ps_if (pt_cmpR op_lt (pv 5) (pe_callB call_len_seq (by rfl) T.len boot_len (pa_cons (pv 2) pa_nil)) (nomark _)) (pss_one (ps_ret (pe_and (pe_has h_l_refused hr (by rfl) (pa_cons (pv 0) (pa_cons (pv 2) (pa_cons (pe_un un_neg (pv 3)) (pa_cons (pv 5) pa_nil))))) (pe_one (pe_cmpR (op_eqT hr) (pv 2) (pv 4) (nomark _)))))) pss_nil)
    (pss_cons (ps_set (i:=6) nd rfl (Or.inl rfl) (pe_hasX h_power passN hr (by rfl) (pa_cons (pv 0) (pa_cons (pv 2) (pa_cons (pe_un un_neg (pv 3)) pa_nil)))))
    (pss_cons (ps_if (pw_or (pt_not (pt_val (pe_has h_l_is_table hr (by rfl) (pa_cons (pv 1) (pa_cons (pv 6) (pa_cons (pe_callB call_len_seq (by rfl) T.len boot_len (pa_cons (pv 2) pa_nil)) pa_nil)))))) (pw_or1 (pt_cmpR (op_neT hr) (pv 2) (pv 4) (nomark _)))).pt (pss_one (ps_ret pe_bl)) pss_nil)
    (pss_one (ps_ret (pe_cmpR (op_eqT hr) (pe_has h_l_product hr (by rfl) (pa_cons (pv 1) (pa_cons (pe_has h_l_power hr (by rfl) (pa_cons (pv 1) (pa_cons (pv 4) (pa_cons (pv 3) pa_nil)))) (pa_cons (pv 6) pa_nil)))) (pe_has h_l_unit hr (by rfl) (pa_cons (pv 1) (pa_cons (pe_callB call_len_seq (by rfl) T.len boot_len (pa_cons (pv 2) pa_nil)) pa_nil))) (nomark _))))))))),?_⟩
  have hT:=ta.l
  have lr:=ta.r.1
  have lA:=ta.e
  have m1:=ta.n1
  have m7:=ta.n7
  refine ⟨_,rfl,a,rfl,⟨_,SqL.of hT⟩,?_⟩
  refine comp_list (K:=K) (a:=a) (xs:=rs.map V.ref) (fun i ys H2 => ∃ cs:List Addr,ys = cs.map V.ref ∧ Same H H2 ∧ RowsX (RX p hp) H2 cs (A.take i)) (by rw [List.length_map]; omega) ⟨[],rfl,Same.refl H,by rw [List.take_zero]; exact .nil⟩ (fun i ys H2 _ ⟨as,_,S,_⟩ => SqL.of (S _ _ hT)) ?_ ?_
  · rintro i x ys H2 hx hl ⟨cs,rfl,S,ra⟩
    obtain ⟨b,hb,rfl⟩:=map_ref_get hx
    obtain ⟨f,hf⟩:=get_of_lt hb lr
    obtain ⟨xs,hxs,fl⟩:=ta.r.2 i b f hb hf
    refine ⟨_,rfl,b,xs,rfl,.inl (SqL.of (S _ _ hxs)),fun l nl => ?_⟩
    have Sl:=same_new nl (.lst xs)
    refine ⟨cs ++ [l],by rw [List.map_append]; rfl,S.trans Sl,?_⟩
    rw [List.take_succ,hf]
    exact (ra.same Sl).snoc upd_same (fl.mono fun _ _ n => n.same (S.trans Sl))
  rintro ys H1 hl ⟨cs,rfl,S1,rc⟩ kp nkp
  rw [List.length_map,lr,List.take_length] at rc
  have Skp:=same_new nkp (.lst (cs.map V.ref))
  have qkp:=upd_same (H:=H1) (a:=kp) (o:=.lst (cs.map V.ref))
  generalize upd H1 kp (.lst (cs.map V.ref)) = H2 at *
  have S2:=S1.trans Skp
  have tk:TabP p hp H2 kp cs A m:=⟨qkp,rc.same Skp,ta.w,lA,m1,m7⟩
  have ta2:=ta.same S2
  clear S1 Skp nkp rc hl
  have same:∀ Hx,Same H2 Hx → Rp Hx 3 (.ref a) (tabD A) ∧ Rp Hx 3 (.ref kp) (tabD A):=fun Hx S => ⟨(ta2.r.same S).rp (S _ _ ta2.l),(tk.r.same S).rp (S _ _ tk.l)⟩
  refine ⟨_,rfl,_,rfl,p,hp,kp,cs,A,m,rfl,tk,fun H3 R ts ls S3 eA ok0 lR wR ech => ?_⟩
  refine ⟨_,rfl,_,rfl,a,_,rfl,.inl (SqL.of (S3 _ _ ta2.l)),_,_,rfl,rfl,_,rfl,?_⟩
  rw [List.length_map,lr,lA]
  refine if_dec (fun z => ?_) (fun z => ?_)
  · have z:(ls.length:Int) < (m:Int):=z
    refine ⟨_,rfl,_,rfl,_,rfl,_,rfl,_,rfl,p,hp,sk,a,rs,A,m,-(n:Int),R,ts,ls,rfl,(kx.same S2).same S3,ta2.same S3,by omega,eA,ok0,lR,wR,ech,by omega,fun H4 S4 => ⟨_,rfl,iteT ?_⟩⟩
    obtain ⟨r1,r2⟩:=same H4 (S3.trans S4)
    exact ⟨_,rfl,_,rfl,_,r1.mono (by decide),r2.mono (by decide),k _⟩
  have z:¬ (ls.length:Int) < (m:Int):=z
  have full:ls.length = m:=by have:=ech.le; omega
  have eR:R = unitT (RX p hp) m:=ech_full lR wR ech full
  refine ⟨_,rfl,_,rfl,_,rfl,_,rfl,RX p hp,sk,a,rs,A,m,-(n:Int),rfl,(kx.same S2).same S3,(ta2.same S3).tabR,(fun z => absurd lA z),(fun _ => ⟨m7,(fun z => by omega),(fun _ => ⟨R,ts,ls,eA,lR,wR,ok0,ech,qt_rx p hp m _,(fun z => by omega),(fun _ H4 D0 as0 us S4 nD0 hD0 r0 oku inv => ?_)⟩)⟩)⟩
  rw [eR] at inv
  have w0:Wid m (runT us (unitT (RX p hp) m)):=runT_wid (unitT_wid (κ:=RX p hp) m) (by rw [unitT_len]; exact oku)
  have l0:(runT us (unitT (RX p hp) m)).length = m:=by rw [runT_len,unitT_len]
  have un:=fun i (hi:i < m) j (hj:j < m) => (inv_units ok0 oku inv hi hj).2
  rw [← eR,← eA] at un
  rw [eR] at un
  generalize hT0:runT us (unitT (RX p hp) m) = T0 at *
  have tab0:TabR (RX p hp) H4 D0 as0 T0 m:=⟨hD0,r0,w0,by omega,by omega⟩
  have S34:=S3.trans S4
  have en:(-(-(n:Int))).toNat = n:=by omega
  refine ⟨RX p hp,sk,D0,as0,T0,m,_,rfl,(kx.same S2).same S34,tab0,(fun z => absurd l0 z),(fun _ => ⟨m7,(fun _ => ⟨qn_rx p hp _ _ _,by omega,pr_rx p hp _ _,fun H5 D as TT S5 hD rD lT wT eT ndD nDas frD nD => ?_⟩),(fun z => by omega)⟩)⟩
  rw [en] at eT
  have S25:=S34.trans S5
  have tD:TabP p hp H5 D as TT m:=⟨hD,rD,wT,lT,m1,m7⟩
  refine ⟨_,rfl,_,rfl,_,rfl,a,_,rfl,.inl (SqL.of (S25 _ _ ta2.l)),p,hp,D,as,TT,m,(by rw [List.length_map,lr,lA]; rfl),tD,_,rfl,iteF ?_⟩
  obtain ⟨r1,r2⟩:=same H5 S25
  refine ⟨_,rfl,_,rfl,_,r1.mono (by decide),r2.mono (by decide),_,rfl,?_⟩
  refine ⟨_,rfl,_,rfl,_,rfl,_,rfl,p,hp,kp,cs,A,m,n,rfl,tk.same S25,fun H6 D6 d6 T6 S6 t6 e6 => ?_⟩
  refine ⟨_,rfl,p,hp,D6,D,d6,as,T6,TT,m,rfl,t6,tD.same S6,fun H7 D7 d7 T7 S7 t7 e7 => ?_⟩
  have S27:=S25.trans (S6.trans S7)
  refine ⟨_,rfl,_,rfl,a,_,rfl,.inl (SqL.of (S27 _ _ ta2.l)),p,hp,m,(by rw [List.length_map,lr,lA]; rfl),m1,m7,fun H8 D8 d8 S8 t8 => ?_⟩
  have e78:T7 = unitT (RX p hp) m:=by
    refine ent_ext (m:=m) (by rw [t7.e,unitT_len]) t7.w (unitT_wid m) fun i hi j hj => ?_
    rw [t7.e] at hi
    rw [e7 i j hi hj,unitT_ent hi hj]
    have:=pw_inv (κ:=RX p hp) (a:=ent A) (b:=ent T0) (n:=m) (fun i j hi hj => by
      have:=un i hi j hj
      unfold mulE at this
      rw [sumP_Sg] at this
      exact this) n i j hi hj
    rw [← this]
    exact Sg_congr fun l hl => by rw [e6 i l hi hl,eT l j hl hj]
  rw [e78] at t7
  exact ⟨_,((t7.r.same S8).rp (S8 _ _ t7.l)).mono (by decide),(t8.r.rp t8.l).mono (by decide),k _⟩
end
end My
set_option maxHeartbeats 1000000
namespace My
open PySem L2 PyProof.Rows
theorem rp_rep {H:Hp} {a:Addr} {n:Nat} {c:Int} (h:H a = some (.lst (List.replicate n (.int c)))):Rp H 1 (.ref a) (.list (List.replicate n (.int c))):=by
  refine rp_lst h ⟨by simp,fun i v d hv hd => ?_⟩
  rw [List.getElem?_replicate] at hv hd
  split at hv
  · rename_i q
    rw [if_pos q] at hd
    cases hv; cases hd; exact fl_int'
  · cases hv
def sp_law (K:PySem.W.Frag):Sp:=fun vs H Q _ => ∃ (a:Addr) (ns:List Int),vs = [.ref a] ∧ SqL K H a (ns.map V.int) ∧ ns.length ≤ 63 ∧ (∀ i ∈ ns,Bits 1048576 i) ∧ ∀ H',Q (.bl true) H'
section
variable {P:Program} {w:World} {K:PySem.W.Frag} {mg:Str → Option Value} {base:Heap} {CF CR cF cI:Addr}
theorem sc_law:FnScope ["_law_script", "_law_cells", "_law_prime_here", "_law_kind", "_law_table_here", "_law_kept", "_law_size", "_law_most", "_law_n", "_law_cell", "_law_found", "_law_row"] ["_law_script"] (defScope s_law):=⟨rfl,rfl,rfl,by decide +kernel,rfl,by decide +kernel,by decide +kernel⟩
theorem ok_law {f:Addr} {fd:FuncData} (F:Fun K "law" "law" s_law f fd) (T:Nm mg) (kd:Kd K mg CF CR) (hI:HasI P w K mg base CR 2 ["self", "prime"] (sp_Rinit CR)) (h_l_prime:Has P w K mg base "_law_prime" 13 ["_law_cell"] sp_l_prime72) (h_l_table:Has P w K mg base "_law_table" 13 ["_law_prime_here", "_law_cells"] sp_l_table72) (h_power:HasX P w K mg base "power" 13 ["kind", "A", "n"] (spPower CF CR cF cI spF)) (h_l_is_table:Has P w K mg base "_law_is_table" 13 ["_law_prime_here", "_law_found", "_law_rows"] sp_l_is_table72) (h_l_power:Has P w K mg base "_law_power" 13 ["_law_prime_here", "_law_table_here", "_law_n"] sp_l_power72) (h_l_below:Has P w K mg base "_law_below" 13 ["_law_kind", "_law_prime_here", "_law_table_here", "_law_n"] (sp_l_below72 CF CR)):FnOk P w K mg base CX0 14 f fd ["_law_script"] (sp_law K):=by
  refine F.ok sc_law (fun vs H Q E h => ?_) (fun cdv A outer s H vs Q E hr h => ?_)
  · obtain ⟨_,_,rfl,_⟩:=h
    rfl
  obtain ⟨a,ns,rfl,hS,hl,hb,k⟩:=h
  have nd:=sc_law.nd
  refine ⟨_,(pss_cons (ps_set (i:=1) nd rfl (Or.inl rfl) (pe_op op_cat (pe_slice sl_list (pv 0) po_none (po_some pe_int)) (pe_lst (pa_cons pe_int pa_nil))))
    (pss_cons (ps_set (i:=2) nd rfl (Or.inl rfl) (pe_has h_l_prime hr (by rfl) (pa_cons (pe_ix ix_list (pv 1) pe_int (fun _ _ => rfl)) pa_nil)))
    (pss_cons (ps_set (i:=3) nd rfl (Or.inl rfl) (pe_makeI hI (hr.mono (by decide)) (by rfl) kd.mgR (pa_cons (pv 2) pa_nil)))
    (pss_cons (ps_set (i:=4) nd rfl (Or.inl rfl) (pe_has h_l_table hr (by rfl) (pa_cons (pv 2) (pa_cons (pv 1) pa_nil))))
    (pss_cons (ps_setComp (i:=5) ["_law_row"] [] nd rfl rfl rfl (pi_list (pv 4)) (by exact fun _ _ _ _ => (pg_name (i:=0) (show (["_law_row"]:List Str).Nodup by decide +kernel) rfl (Or.inl rfl))) (by exact fun _ _ _ _ => (pe_callTy (call_list_ofK K rfl) (by rfl) T.list boot_list (pa_cons (pv 0) pa_nil))) trivial)
    (pss_cons (ps_set (i:=6) nd rfl (Or.inr rfl) (pe_callB call_len_seq (by rfl) T.len boot_len (pa_cons (pv 4) pa_nil)))
    (pss_cons (ps_set (i:=7) nd rfl (Or.inl rfl) (pe_ix ix_list (pe_lst (pa_cons (pe_op op_pow pe_int pe_int) (pa_cons (pe_op op_pow pe_int pe_int) (pa_cons (pe_op op_pow pe_int pe_int) (pa_cons (pe_op op_pow pe_int pe_int) (pa_cons (pe_op op_pow pe_int pe_int) pa_nil)))))) (pe_op op_sub (pv 6) pe_int) (fun _ _ => rfl)))
    (pss_cons (ps_set (i:=8) nd rfl (Or.inl rfl) pe_int)
    (pss_cons (ps_for PassesOwn.never rfl (pi_list (pv 1)) (pg_name (i:=9) nd rfl (Or.inl rfl)) (pss_one (ps_set (i:=8) nd rfl (Or.inl rfl) (pe_op op_modN (pe_op op_add (pe_op op_mul (pv 8) pe_int) (pv 9)) (pv 7)))))
    (pss_cons (ps_if (pt_cmpR op_eq (pe_op op_mod (pe_op op_mod (pe_op op_mul (pe_ix ix_list (pv 1) (pe_op op_fdiv (pe_callB call_len_seq (by rfl) T.len boot_len (pa_cons (pv 1) pa_nil)) pe_int) (fun _ _ => rfl)) pe_int) pe_int) pe_int) pe_int (nomark _)) (pss_one (ps_set (i:=8) nd rfl (Or.inl rfl) (pe_op op_sub (pv 7) pe_int))) pss_nil)
    (pss_cons (ps_set (i:=10) nd rfl (Or.inl rfl) (pe_hasX h_power passN hr (by rfl) (pa_cons (pv 3) (pa_cons (pv 4) (pa_cons (pv 8) pa_nil)))))
    (pss_cons (ps_if (pw_or (pt_not (pt_val (pe_has h_l_is_table hr (by rfl) (pa_cons (pv 2) (pa_cons (pv 10) (pa_cons (pv 6) pa_nil)))))) (pw_or1 (pt_cmpR (op_neT hr) (pv 10) (pe_has h_l_power hr (by rfl) (pa_cons (pv 2) (pa_cons (pv 5) (pa_cons (pv 8) pa_nil)))) (nomark _)))).pt (pss_one (ps_ret pe_bl)) pss_nil)
    (pss_cons (ps_for PassesOwn.never rfl (pi_list (pv 10)) (pg_name (i:=11) nd rfl (Or.inl rfl)) (pss_one (ps_expr (pe_bm PySem.F.plainAttrs_list PySem.F.slot_list_append PySem.F.type_list_append mt_append (pv 11) (pa_cons pe_non pa_nil)))))
    (pss_cons (ps_if (pw_or (pt_cmpR (op_neT hr) (pv 4) (pv 5) (nomark _)) (pw_or1 (pt_cmpR (op_neT hr) (pe_comp ["_law_row"] [] rfl (pi_list (pv 10)) (by exact fun _ _ _ _ => (pg_name (i:=0) (show (["_law_row"]:List Str).Nodup by decide +kernel) rfl (Or.inl rfl))) (by exact fun _ _ _ _ => (pe_callB (call_len_seqK K rfl) (by rfl) T.len boot_len (pa_cons (pv 0) pa_nil))) trivial) (pe_comp ["_law_row"] [(6, "_law_size")] rfl (pi_list (pv 5)) (by exact fun _ _ _ _ => (pg_name (i:=0) (show (["_law_row", "_law_size"]:List Str).Nodup by decide +kernel) rfl (Or.inl rfl))) (by exact fun _ _ _ _ => (pe_op op_add (pv 1) pe_int)) ⟨⟨rfl,rfl,(by first | exact Or.inl rfl | exact Or.inr rfl)⟩,trivial⟩) (nomark _)))).pt (pss_one (ps_ret pe_bl)) pss_nil)
    (pss_one (ps_ret (pe_or (pe_cmpR op_eq (pv 8) pe_int (nomark _)) (pe_one (pe_has h_l_below hr (by rfl) (pa_cons (pv 3) (pa_cons (pv 2) (pa_cons (pv 4) (pa_cons (pv 8) pa_nil))))))))))))))))))))))),?_⟩
  refine ⟨_,rfl,63,rfl,a,_,rfl,hS,fun p hp => ?_⟩
  refine ⟨(by show 1 ≤ sizeLine; decide),fun q hq => ?_⟩
  obtain ⟨cs,ec,l1,l2,bc⟩:∃ cs:List Int,cutV (ns.map V.int) none (some 63) ++ [.int 0] = cs.map V.int ∧ 1 ≤ cs.length ∧ cs.length ≤ 64 ∧ ∀ i ∈ cs,Bits 1048576 i:=by
    refine ⟨ns.take 63 ++ [0],?_,?_,?_,fun i hi => ?_⟩
    · have e:=cut_takeX (ns.map V.int) 63
      rw [← List.map_take] at e
      rw [List.map_append]
      exact congrArg (· ++ [V.int 0]) e
    · rw [List.length_append]; show 1 ≤ _ + 1; omega
    · rw [List.length_append,List.length_take]; show _ + 1 ≤ 64; omega
    · rcases List.mem_append.mp hi with h | h
      · exact hb i (List.mem_of_mem_take h)
      · rw [List.mem_singleton.mp h]; exact Nat.zero_le _
  refine ⟨p,q,_,_,rfl,rfl,by rw [upd_ne (ne_of_none upd_same hq)]; exact upd_same,upd_same,?_,fun c hc => ?_⟩
  · have z:=congrArg List.length ec
    rw [List.length_append,List.length_map] at z
    have z2:(65:Nat) ≤ sizeLine:=by decide
    show _ + 1 ≤ sizeLine
    have z3:(cutV (ns.map V.int) none (some 63)).length + 1 = cs.length:=z
    omega
  rw [ec]
  generalize hH0:upd (upd (upd H p (.lst (cutV (ns.map V.int) none (some 63)))) q (.lst [.int 0])) c (.lst (cs.map V.int)) = H0
  have hc0:H0 c = some (.lst (cs.map V.int)):=by rw [← hH0]; exact upd_same
  have ce:Ce H0 c cs:=⟨hc0,l1,by omega,bc⟩
  have c0:atI (cs.map V.int) 0 = some (.int cs[0]):=int_at (i:=0) (by omega)
  refine ⟨_,rfl,_,_,_,_,rfl,rfl,SqL.of hc0,c0,_,rfl,fun H1 p S1 hp => ?_⟩
  have h2:=hp.two
  have hplt:=hp.lt
  refine ⟨_,rfl,fun kk dk nk ndk nek => ⟨kk,dk,(p:Int),rfl,upd_same,hp.pr,by omega,rfl,?_⟩⟩
  obtain ⟨H2,eH2⟩:∃ H2,H2 = upd (upd (upd H1 dk (.own kk)) kk (.ins CR dk [])) kk (.ins CR dk (fsR (p:Int))):=⟨_,rfl⟩
  have S12:Same H1 H2:=fun b o e => by
    rw [eH2,upd_ne (ne_of_none e nk),upd_ne (ne_of_none e nk),upd_ne (ne_of_none e ndk)]; exact e
  have kx2:KdX CF CR (RX p hp) H2 kk:=⟨dk,by rw [eH2]; exact upd_same⟩
  show gName 3 (V.ref kk) _ (upd (upd (upd H1 dk (.own kk)) kk (.ins CR dk [])) kk (.ins CR dk (fsR (p:Int)))) _
  rw [← eH2]
  clear eH2
  have ce2:=(ce.same S1).same S12
  refine ⟨_,rfl,_,rfl,p,hp,c,cs,rfl,ce2,fun H3 tb rs A n S3 ta n5 => ?_⟩
  have ce3:=ce2.same S3
  have kx3:=kx2.same S3
  have hT:=ta.l
  have lr:=ta.r.1
  have lA:=ta.e
  have n1:=ta.n1
  have n7:=ta.n7
  refine ⟨_,rfl,tb,rfl,⟨_,SqL.of hT⟩,?_⟩
  refine comp_list (K:=K) (a:=tb) (xs:=rs.map V.ref) (fun i ys H4 => ∃ cs:List Addr,ys = cs.map V.ref ∧ Same H3 H4 ∧ RowsX (RX p hp) H4 cs (A.take i)) (by rw [List.length_map]; omega) ⟨[],rfl,Same.refl _,by rw [List.take_zero]; exact .nil⟩ (fun i ys H4 _ ⟨as,_,S,_⟩ => SqL.of (S _ _ hT)) ?_ ?_
  · rintro i x ys H4 hx hl ⟨cs,rfl,S,ra⟩
    obtain ⟨b,hb,rfl⟩:=map_ref_get hx
    obtain ⟨f,hf⟩:=get_of_lt hb lr
    obtain ⟨xs,hxs,fl⟩:=ta.r.2 i b f hb hf
    refine ⟨_,rfl,b,xs,rfl,.inl (SqL.of (S _ _ hxs)),fun l nl => ?_⟩
    have Sl:=same_new nl (.lst xs)
    refine ⟨cs ++ [l],by rw [List.map_append]; rfl,S.trans Sl,?_⟩
    rw [List.take_succ,hf]
    exact (ra.same Sl).snoc upd_same (fl.mono fun _ _ n => n.same (S.trans Sl))
  rintro ys H4 hl' ⟨ks,rfl,S4,rk⟩ kp nkp
  rw [List.length_map,lr,List.take_length] at rk
  have Skp:=same_new nkp (.lst (ks.map V.ref))
  have qkp:=upd_same (H:=H4) (a:=kp) (o:=.lst (ks.map V.ref))
  generalize upd H4 kp (.lst (ks.map V.ref)) = H5 at *
  have S5:=S4.trans Skp
  have tk:TabP p hp H5 kp ks A n:=⟨qkp,rk.same Skp,ta.w,lA,n1,n7⟩
  have ta5:=ta.same S5
  have ce5:=ce3.same S5
  have kx5:=kx3.same S5
  clear S4 Skp nkp rk hl'
  have same:∀ Hx,Same H5 Hx → Rp Hx 3 (.ref tb) (tabD A) ∧ Rp Hx 3 (.ref kp) (tabD A):=fun Hx S => ⟨(ta5.r.same S).rp (S _ _ ta5.l),(tk.r.same S).rp (S _ _ tk.l)⟩
  refine ⟨_,rfl,tb,_,rfl,.inl (SqL.of ta5.l),?_⟩
  rw [List.length_map,lr,lA]
  refine ⟨_,_,rfl,rfl,⟨by decide,by decide,by decide⟩,_,_,rfl,rfl,⟨by decide,by decide,by decide⟩,_,_,rfl,rfl,⟨by decide,by decide,by decide⟩,_,_,rfl,rfl,⟨by decide,by decide,by decide⟩,_,_,rfl,rfl,⟨by decide,by decide,by decide⟩,(by show 5 ≤ sizeLine; decide),fun q5 nq5 => ?_⟩
  have Sq5:Same H5 (upd H5 q5 (.lst [.int ((10:Int) ^ (59:Int).toNat),.int ((10:Int) ^ (59:Int).toNat),.int ((10:Int) ^ (20:Int).toNat),.int ((10:Int) ^ (9:Int).toNat),.int ((10:Int) ^ (6:Int).toNat)])):=same_new nq5 _
  obtain ⟨M,eM,M1,M2⟩:∃ M:Int,atI [V.int ((10:Int) ^ (59:Int).toNat),V.int ((10:Int) ^ (59:Int).toNat),V.int ((10:Int) ^ (20:Int).toNat),V.int ((10:Int) ^ (9:Int).toNat),V.int ((10:Int) ^ (6:Int).toNat)] ((n:Int) - 1) = some (.int M) ∧ 0 < M ∧ M ≤ 10 ^ 59:=by
    rcases (by omega:n = 1 ∨ n = 2 ∨ n = 3 ∨ n = 4 ∨ n = 5) with e | e | e | e | e <;> rw [e] <;> exact ⟨_,rfl,by decide,by decide⟩
  refine ⟨_,rfl,_,_,rfl,rfl,q5,_,_,.int M,rfl,rfl,SqL.of upd_same,eM,?_⟩
  show gName 7 (V.int M) _ (upd H5 q5 (.lst [.int ((10:Int) ^ (59:Int).toNat),.int ((10:Int) ^ (59:Int).toNat),.int ((10:Int) ^ (20:Int).toNat),.int ((10:Int) ^ (9:Int).toNat),.int ((10:Int) ^ (6:Int).toNat)])) _
  generalize upd H5 q5 (.lst [.int ((10:Int) ^ (59:Int).toNat),.int ((10:Int) ^ (59:Int).toNat),.int ((10:Int) ^ (20:Int).toNat),.int ((10:Int) ^ (9:Int).toNat),.int ((10:Int) ^ (6:Int).toNat)]) = H6 at *
  have ce6:=ce5.same Sq5
  refine ⟨_,rfl,c,rfl,⟨_,SqL.of ce6.l⟩,?_⟩
  refine for_list (xs:=cs.map V.int) (fun i σ Ha => ∃ (z9 z10 z11:Option V) (v:V),σ = [some (.ref a),some (.ref c),some (.int (p:Int)),some (.ref kk),some (.ref tb),some (.ref kp),some (.int (n:Int)),some (.int M),some v,z9,z10,z11] ∧ Ha = H6 ∧ ∃ N:Int,v = .int N ∧ 0 ≤ N ∧ N < M) ⟨_,_,_,_,rfl,rfl,0,rfl,by decide,M1⟩ ?_ ?_ ?_
  · rintro i σ Ha - ⟨z9,z10,z11,v,rfl,rfl,_⟩
    exact SqL.of ce6.l
  · rintro i x σ Ha hx ⟨z9,z10,z11,v,rfl,rfl,N,rfl,N0,NM⟩
    have hi:i < cs.length:=by have:=(List.getElem?_eq_some_iff.mp hx).1; rwa [List.length_map] at this
    rw [List.getElem?_map,List.getElem?_eq_getElem hi] at hx
    cases hx
    refine ⟨_,rfl,_,_,rfl,rfl,.inr ⟨by decide,by decide⟩,_,rfl,_,_,rfl,rfl,_,rfl,_,_,rfl,rfl,(show M ≠ 0 by omega),?_⟩
    refine ⟨_,_,_,_,rfl,rfl,_,rfl,?_,?_⟩
    · rw [Int.fmod_eq_emod_of_nonneg _ (by omega)]; exact Int.emod_nonneg _ (by omega)
    · rw [Int.fmod_eq_emod_of_nonneg _ (by omega)]; exact Int.emod_lt_of_pos _ M1
  rintro σ Ha ⟨z9,z10,z11,v,rfl,rfl,hv⟩
  have d2:((cs.length:Int)) / 2 = ((cs.length / 2:Nat):Int):=by omega
  revert v
  refine' joinV1 (C:=fun v => ∃ N:Int,v = .int N ∧ 0 ≤ N ∧ N < M) (fun kj v hv => ?first) ?second
  case first =>
    refine ⟨_,rfl,_,rfl,c,_,rfl,.inl (SqL.of ce6.l),_,_,rfl,rfl,⟨by decide,by decide⟩,c,_,_,_,rfl,rfl,SqL.of ce6.l,(by rw [List.length_map,d2]; exact int_at (by omega)),_,_,rfl,rfl,.inr ⟨by decide,by decide⟩,_,_,rfl,rfl,(by show (0:Int) < _; decide),_,_,rfl,rfl,(by show (0:Int) < _; decide),rfl,_,rfl,?_⟩
    refine' if_eqI (fun _ => ?yes) (fun _ => ?no)
    case no => exact kj v hv
    case yes => exact ⟨_,rfl,_,_,rfl,rfl,kj (.int (M - 1)) ⟨M - 1,rfl,by omega,by omega⟩⟩
  rintro v ⟨N,rfl,N0,NM⟩
  have eN:((N.toNat:Nat):Int) = N:=by omega
  have N60:N ≤ 10 ^ 60:=Int.le_trans (Int.le_of_lt NM) (Int.le_trans M2 (by decide))
  have ta6:=ta5.same Sq5
  refine ⟨_,rfl,_,rfl,_,rfl,RX p hp,kk,tb,rs,A,n,N,rfl,kx5.same Sq5,ta6.tabR,(fun z => absurd lA z),(fun _ => ⟨n7,(fun _ => ⟨qn_rx p hp _ _ _,N60,pr_rx p hp _ _,fun Hb D as TT Sb hD ra lT wT eT nd2 nDas nas nD => ?_⟩),(fun z => by omega)⟩)⟩
  have S5b:=Sq5.trans Sb
  have tD:TabP p hp Hb D as TT n:=⟨hD,ra,wT,lT,n1,n7⟩
  have la:=ra.1
  refine ⟨_,rfl,_,rfl,_,rfl,p,hp,D,as,TT,n,rfl,tD,_,rfl,iteF ?_⟩
  refine ⟨_,rfl,_,rfl,_,rfl,_,rfl,p,hp,kp,ks,A,n,N.toNat,(by rw [eN]; rfl),tk.same S5b,fun Hc D2 d2' T2 Sc t2 e2 => ?_⟩
  have e12:T2 = TT:=by
    refine ent_ext (m:=n) (by rw [t2.e,lT]) t2.w wT fun i hi j hj => ?_
    rw [t2.e] at hi
    rw [e2 i j hi hj,eT i j hi hj]
  rw [e12] at t2
  have S5c:=S5b.trans Sc
  refine ⟨_,((ra.same Sc).rp (Sc _ _ hD)).mono (by decide),(t2.r.rp t2.l).mono (by decide),_,rfl,?_⟩
  have hDc:=Sc _ _ hD
  have rac:=ra.same Sc
  refine ⟨_,rfl,D,rfl,⟨_,SqL.of hDc⟩,?_⟩
  refine for_list (xs:=as.map V.ref) (fun i σ Hi => ∃ (z9 z11:Option V),σ = [some (.ref a),some (.ref c),some (.int (p:Int)),some (.ref kk),some (.ref tb),some (.ref kp),some (.int (n:Int)),some (.int M),some (.int N),z9,some (.ref D),z11] ∧ Off as Hc Hi ∧ ∀ (j:Nat) a,as[j]? = some a → ∃ xs:List V,xs.length = n ∧ Hi a = some (.lst (if j < i then xs ++ [.non] else xs))) ⟨_,_,rfl,fun _ _ _ q => q,fun j a ha => ?_⟩ ?_ ?_ ?_
  · obtain ⟨f,hf⟩:=get_of_lt ha la
    obtain ⟨xs,hx,fl⟩:=rac.2 j a f ha hf
    refine ⟨xs,by rw [fl.1]; exact wT f (List.mem_of_getElem? hf),?_⟩
    rw [if_neg (by omega)]; exact hx
  · rintro i σ Hi - ⟨z9,z11,rfl,O,-⟩
    exact SqL.of (O _ _ nDas hDc)
  · rintro i x σ Hi hx ⟨z9,z11,rfl,O,rows⟩
    obtain ⟨a,ha,rfl⟩:=map_ref_get hx
    obtain ⟨xs,lx,hxs⟩:=rows i a ha
    rw [if_neg (by omega)] at hxs
    refine ⟨_,rfl,.inl ⟨rfl,_,SqL.of hxs⟩,a,xs,.non,rfl,rfl,hxs,Nat.lt_of_lt_of_le (show xs.length < 1000 by omega) (by decide),?_⟩
    refine ⟨_,_,rfl,fun b o nb q => ?_,fun j b hb => ?_⟩
    · rw [upd_ne (fun z => nb (by rw [z]; exact List.mem_of_getElem? ha))]
      exact O b o nb q
    · by_cases e:j = i
      · subst e
        rw [ha] at hb
        cases hb
        exact ⟨xs,lx,by rw [upd_same,if_pos (by omega)]⟩
      · obtain ⟨ys,ly,hys⟩:=rows j b hb
        have nba:b ≠ a:=fun z => e (nodup_inj nd2 (by rw [← z]; exact hb) ha)
        refine ⟨ys,ly,?_⟩
        rw [upd_ne nba,hys]
        congr 2
        by_cases h1:j < i
        · rw [if_pos h1,if_pos (by omega)]
        · rw [if_neg h1,if_neg (by omega)]
  rintro σ Hd ⟨z9',z11',rfl,O,rows⟩
  rw [List.length_map] at rows
  have S5d:Same H5 Hd:=Sq5.trans (Off.same O (Sb.trans Sc) nas)
  have hDd:=O _ _ nDas hDc
  have rowd:∀ (j:Nat) a,as[j]? = some a → ∃ xs:List V,xs.length = n + 1 ∧ Hd a = some (.lst xs):=fun j a ha => by
    obtain ⟨xs,lx,hx⟩:=rows j a ha
    rw [if_pos (List.getElem?_eq_some_iff.mp ha).1] at hx
    exact ⟨_,by rw [List.length_append,lx]; rfl,hx⟩
  obtain ⟨r1,r2⟩:=same Hd S5d
  refine ⟨_,rfl,_,rfl,_,r1.mono (by decide),r2.mono (by decide),_,rfl,?_⟩
  refine ⟨_,rfl,D,rfl,⟨_,SqL.of hDd⟩,?_⟩
  refine comp_list (K:=K) (a:=D) (xs:=as.map V.ref) (fun i ys He => He = Hd ∧ ys = List.replicate i (.int ((n:Int) + 1))) (by rw [List.length_map]; omega) ⟨rfl,rfl⟩ (fun i ys He _ q => by rw [q.1]; exact SqL.of hDd) ?_ ?_
  · rintro i x ys He hx hl ⟨rfl,rfl⟩
    obtain ⟨a,ha,rfl⟩:=map_ref_get hx
    obtain ⟨xs,lx,hxs⟩:=rowd i a ha
    refine ⟨_,rfl,a,_,rfl,.inl (SqL.of hxs),rfl,?_⟩
    rw [lx,List.replicate_succ']
    rfl
  rintro ys Hi hl ⟨rfl,rfl⟩ q1 nq1
  rw [List.length_map,la,lT]
  have Sq1:=same_new nq1 (.lst (List.replicate n (.int ((n:Int) + 1))))
  have qq1:=upd_same (H:=Hi) (a:=q1) (o:=.lst (List.replicate n (.int ((n:Int) + 1))))
  generalize upd Hi q1 (.lst (List.replicate n (.int ((n:Int) + 1)))) = Hj at *
  have lk:=tk.r.1
  have hKj:=Sq1 _ _ (S5d _ _ tk.l)
  refine ⟨_,rfl,kp,rfl,⟨_,SqL.of hKj⟩,?_⟩
  refine comp_list (K:=K) (a:=kp) (xs:=ks.map V.ref) (fun i ys He => He = Hj ∧ ys = List.replicate i (.int ((n:Int) + 1))) (by rw [List.length_map]; omega) ⟨rfl,rfl⟩ (fun i ys He _ q => by rw [q.1]; exact SqL.of hKj) ?_ ?_
  · rintro i x ys He hx hl ⟨rfl,rfl⟩
    obtain ⟨a,ha,rfl⟩:=map_ref_get hx
    refine ⟨_,rfl,_,_,rfl,rfl,rfl,?_⟩
    rw [List.replicate_succ']
  rintro ys Hk hl ⟨rfl,rfl⟩ q2 nq2
  rw [List.length_map,lk,lA]
  have Sq2:=same_new nq2 (.lst (List.replicate n (.int ((n:Int) + 1))))
  have qq2:=upd_same (H:=Hk) (a:=q2) (o:=.lst (List.replicate n (.int ((n:Int) + 1))))
  generalize upd Hk q2 (.lst (List.replicate n (.int ((n:Int) + 1)))) = Hl at *
  have S5l:=S5d.trans (Sq1.trans Sq2)
  refine ⟨_,(rp_rep (Sq2 _ _ qq1)).mono (by decide),(rp_rep qq2).mono (by decide),_,rfl,?_⟩
  refine ⟨_,rfl,rfl,_,rfl,?_⟩
  by_cases z:N = 0
  · refine if_yes' z ?_
    exact k _
  · refine if_no' z ?_
    exact ⟨_,rfl,_,rfl,_,rfl,_,rfl,p,hp,kk,tb,rs,A,n,N.toNat,(by rw [eN]; rfl),kx5.same S5l,ta5.same S5l,by omega,by omega,fun H' => k H'⟩
end
end My
theorem PySem.W.Fast.tw4526863892065654784:True:=⟨⟩
theorem PySem.W.Fast.tw4103334149136036928:True:=⟨⟩
theorem PySem.W.Fast.tw7644031045373319264:True:=⟨⟩
theorem PySem.W.Fast.tw4527969056837157088:True:=⟨⟩
theorem PySem.W.Fast.tw7936245809450448096:True:=⟨⟩
theorem PySem.W.Fast.tw7797621558834420000:True:=⟨⟩
theorem PySem.W.Fast.tw1066531042659015104:True:=⟨⟩
theorem PySem.W.Fast.tw14435012636021391840:True:=⟨⟩
theorem PySem.W.Fast.tw7526997153668806144:True:=⟨⟩
theorem PySem.W.Fast.tw3959528988229443072:True:=⟨⟩
theorem PySem.W.Fast.tw1512632478244516384:True:=⟨⟩
theorem PySem.W.Fast.tw17188191471967008416:True:=⟨⟩
theorem PySem.W.Fast.tw16789446822028012609:True:=⟨⟩
theorem PySem.W.Fast.tw8647499367243884769:True:=⟨⟩
theorem PySem.W.Fast.tw7940222171630745889:True:=⟨⟩
theorem PySem.W.Fast.tw16639605497373664609:True:=⟨⟩
theorem PySem.W.Fast.tw8783873873493961249:True:=⟨⟩
theorem PySem.W.Fast.tw17735325141337642625:True:=⟨⟩
theorem PySem.W.Fast.tw16177069283215096449:True:=⟨⟩
theorem PySem.W.Fast.tw9707144575442018177:True:=⟨⟩
theorem PySem.W.Fast.tw18063093720111062945:True:=⟨⟩
theorem PySem.W.Fast.tw2794864788595693634:True:=⟨⟩
theorem PySem.W.Fast.tw16180875593793726530:True:=⟨⟩
theorem PySem.W.Fast.tw17038995306378719362:True:=⟨⟩
theorem PySem.W.Fast.tw9178852510174153890:True:=⟨⟩
theorem PySem.W.Fast.tw12258612581573140674:True:=⟨⟩
theorem PySem.W.Fast.tw13983288221016427746:True:=⟨⟩
theorem PySem.W.Fast.tw1680177056094436674:True:=⟨⟩
theorem PySem.W.Fast.tw14461553924475215170:True:=⟨⟩
theorem PySem.W.Fast.tw18201901339703396706:True:=⟨⟩
theorem PySem.W.Fast.tw9829431660041671234:True:=⟨⟩
theorem PySem.W.Fast.tw10537862751738632834:True:=⟨⟩
theorem PySem.W.Fast.tw3673943708899995362:True:=⟨⟩
theorem PySem.W.Fast.tw5275895968526565122:True:=⟨⟩
theorem PySem.W.Fast.tw9476321159774845762:True:=⟨⟩
theorem PySem.W.Fast.tw4187935446846247746:True:=⟨⟩
theorem PySem.W.Fast.tw3713046815900198754:True:=⟨⟩
theorem PySem.W.Fast.tw11358663340151494530:True:=⟨⟩
theorem PySem.W.Fast.tw17661193206727956418:True:=⟨⟩
theorem PySem.W.Fast.tw10273195175820695522:True:=⟨⟩
theorem PySem.W.Fast.tw860377441057076194:True:=⟨⟩
theorem PySem.W.Fast.tw10246317878393490531:True:=⟨⟩
theorem PySem.W.Fast.tw15351929164519748739:True:=⟨⟩
theorem PySem.W.Fast.tw332445610599601379:True:=⟨⟩
theorem PySem.W.Fast.tw13814728341651852547:True:=⟨⟩
theorem PySem.W.Fast.tw13798104798302671107:True:=⟨⟩
theorem PySem.W.Fast.tw17583658707831718275:True:=⟨⟩
theorem PySem.W.Fast.tw13018003154008982019:True:=⟨⟩
theorem PySem.W.Fast.tw10846761592795433507:True:=⟨⟩
theorem PySem.W.Fast.tw15228643857017859619:True:=⟨⟩
theorem PySem.W.Fast.tw3181504108322673219:True:=⟨⟩
theorem PySem.W.Fast.tw9737012671800871523:True:=⟨⟩
theorem PySem.W.Fast.tw9111768113886260867:True:=⟨⟩
theorem PySem.W.Fast.tw5529936374155107011:True:=⟨⟩
theorem PySem.W.Fast.tw10540536864634231523:True:=⟨⟩
theorem PySem.W.Fast.tw7889141902920485603:True:=⟨⟩
theorem PySem.W.Fast.tw14169158735299263267:True:=⟨⟩
theorem PySem.W.Fast.tw11492578151443552067:True:=⟨⟩
theorem PySem.W.Fast.tw7870728358168890275:True:=⟨⟩
theorem PySem.W.Fast.tw9726914657863373892:True:=⟨⟩
theorem PySem.W.Fast.tw2698451762910042180:True:=⟨⟩
theorem PySem.W.Fast.tw10978735566278048932:True:=⟨⟩
theorem PySem.W.Fast.tw15530801849695353028:True:=⟨⟩
theorem PySem.W.Fast.tw10369837709949193412:True:=⟨⟩
theorem PySem.W.Fast.tw16097959468204602692:True:=⟨⟩
theorem PySem.W.Fast.tw1063386422339320132:True:=⟨⟩
theorem PySem.W.Fast.tw7382172260522293572:True:=⟨⟩
theorem PySem.W.Fast.tw15167681797496105380:True:=⟨⟩
theorem PySem.W.Fast.tw9838748045985306020:True:=⟨⟩
theorem PySem.W.Fast.tw15047114977093050884:True:=⟨⟩
theorem PySem.W.Fast.tw9807037041792807620:True:=⟨⟩
theorem PySem.W.Fast.tw18313990426944110276:True:=⟨⟩
theorem PySem.W.Fast.tw8810755339109810948:True:=⟨⟩
theorem PySem.W.Fast.tw16748707700120474436:True:=⟨⟩
theorem PySem.W.Fast.tw5166323016377273252:True:=⟨⟩
theorem PySem.W.Fast.tw3012725486994016261:True:=⟨⟩
theorem PySem.W.Fast.tw1623920688727933189:True:=⟨⟩
theorem PySem.W.Fast.tw15595090314111421733:True:=⟨⟩
theorem PySem.W.Fast.tw3508827066792418629:True:=⟨⟩
theorem PySem.W.Fast.tw11516069677345967461:True:=⟨⟩
theorem PySem.W.Fast.tw16564138841949194661:True:=⟨⟩
theorem PySem.W.Fast.tw10804930744608782917:True:=⟨⟩
theorem PySem.W.Fast.tw9610507281274552005:True:=⟨⟩
theorem PySem.W.Fast.tw6782647323581336293:True:=⟨⟩
theorem PySem.W.Fast.tw5023890580228687685:True:=⟨⟩
theorem PySem.W.Fast.tw13935710455986713477:True:=⟨⟩
theorem PySem.W.Fast.tw7081093675450875877:True:=⟨⟩
theorem PySem.W.Fast.tw687211089631532005:True:=⟨⟩
theorem PySem.W.Fast.tw9523461866028220422:True:=⟨⟩
theorem PySem.W.Fast.tw9206487747041318:True:=⟨⟩
theorem PySem.W.Fast.tw5527521833303135334:True:=⟨⟩
theorem PySem.W.Fast.tw13274206707301544166:True:=⟨⟩
theorem PySem.W.Fast.tw12338930295301364038:True:=⟨⟩
theorem PySem.W.Fast.tw13321002787556138374:True:=⟨⟩
theorem PySem.W.Fast.tw13839404782320332326:True:=⟨⟩
theorem PySem.W.Fast.tw6126411343967228550:True:=⟨⟩
theorem PySem.W.Fast.tw2202597159803560646:True:=⟨⟩
theorem PySem.W.Fast.tw5021072077474079494:True:=⟨⟩
theorem PySem.W.Fast.tw265978663815130918:True:=⟨⟩
theorem PySem.W.Fast.tw2578475517486320422:True:=⟨⟩
theorem PySem.W.Fast.tw3637613252373753702:True:=⟨⟩
theorem PySem.W.Fast.tw5575105893032123238:True:=⟨⟩
theorem PySem.W.Fast.tw6654671291506045830:True:=⟨⟩
theorem PySem.W.Fast.tw2769254342765098886:True:=⟨⟩
theorem PySem.W.Fast.tw16178898507242857350:True:=⟨⟩
theorem PySem.W.Fast.tw15239661880249113574:True:=⟨⟩
theorem PySem.W.Fast.tw17162819595584960486:True:=⟨⟩
theorem PySem.W.Fast.tw250858621782731750:True:=⟨⟩
theorem PySem.W.Fast.tw7534205278737407015:True:=⟨⟩
theorem PySem.W.Fast.tw4064931876815767911:True:=⟨⟩
theorem PySem.W.Fast.tw13556119534921953671:True:=⟨⟩
theorem PySem.W.Fast.tw9267484290360575399:True:=⟨⟩
theorem PySem.W.Fast.tw3386699738679740999:True:=⟨⟩
theorem PySem.W.Fast.tw10121387454356060839:True:=⟨⟩
theorem PySem.W.Fast.tw3493651908197857191:True:=⟨⟩
theorem PySem.W.Fast.tw16396241804757405607:True:=⟨⟩
theorem PySem.W.Fast.tw6095730033894723624:True:=⟨⟩
theorem PySem.W.Fast.tw8687077886679925864:True:=⟨⟩
theorem PySem.W.Fast.tw1764196304159255720:True:=⟨⟩
theorem PySem.W.Fast.tw87117418938514600:True:=⟨⟩
theorem PySem.W.Fast.tw7194701518874027272:True:=⟨⟩
theorem PySem.W.Fast.tw8674274671423054120:True:=⟨⟩
theorem PySem.W.Fast.tw4298709920771073448:True:=⟨⟩
theorem PySem.W.Fast.tw18424616472003666376:True:=⟨⟩
theorem PySem.W.Fast.tw14428778226858425800:True:=⟨⟩
theorem PySem.W.Fast.tw769583373035493032:True:=⟨⟩
theorem PySem.W.Fast.tw7460506849978300104:True:=⟨⟩
theorem PySem.W.Fast.tw14293229952076514056:True:=⟨⟩
theorem PySem.W.Fast.tw1279745101860963080:True:=⟨⟩
theorem PySem.W.Fast.tw10715644429871085352:True:=⟨⟩
theorem PySem.W.Fast.tw9995327571682611369:True:=⟨⟩
theorem PySem.W.Fast.tw1426950713456829673:True:=⟨⟩
theorem PySem.W.Fast.tw7017963679033073929:True:=⟨⟩
theorem PySem.W.Fast.tw7389469101581268233:True:=⟨⟩
theorem PySem.W.Fast.tw8044643346430292265:True:=⟨⟩
theorem PySem.W.Fast.tw4658391391389984073:True:=⟨⟩
theorem PySem.W.Fast.tw9851673883187902793:True:=⟨⟩
theorem PySem.W.Fast.tw11355884120639227241:True:=⟨⟩
theorem PySem.W.Fast.tw8633225090969479561:True:=⟨⟩
theorem PySem.W.Fast.tw17289768981866780137:True:=⟨⟩
theorem PySem.W.Fast.tw245405137590207977:True:=⟨⟩
theorem PySem.W.Fast.tw4943323357229383273:True:=⟨⟩
theorem PySem.W.Fast.tw6090565094686575305:True:=⟨⟩
theorem PySem.W.Fast.tw17224499191159083785:True:=⟨⟩
theorem PySem.W.Fast.tw17907400876312487689:True:=⟨⟩
theorem PySem.W.Fast.tw6954951417831015273:True:=⟨⟩
theorem PySem.W.Fast.tw11799329151456905097:True:=⟨⟩
theorem PySem.W.Fast.tw13831319610843833289:True:=⟨⟩
theorem PySem.W.Fast.tw13380079136176341002:True:=⟨⟩
theorem PySem.W.Fast.tw17205043038887911498:True:=⟨⟩
theorem PySem.W.Fast.tw9340190880456127626:True:=⟨⟩
theorem PySem.W.Fast.tw5815364526821898378:True:=⟨⟩
theorem PySem.W.Fast.tw2933845908103058666:True:=⟨⟩
theorem PySem.W.Fast.tw17143627933743439082:True:=⟨⟩
theorem PySem.W.Fast.tw14523105562195122442:True:=⟨⟩
theorem PySem.W.Fast.tw499860738293396842:True:=⟨⟩
theorem PySem.W.Fast.tw4873755684106369418:True:=⟨⟩
theorem PySem.W.Fast.tw3931817659659739786:True:=⟨⟩
theorem PySem.W.Fast.tw16739487653584951946:True:=⟨⟩
theorem PySem.W.Fast.tw7733095130798263978:True:=⟨⟩
theorem PySem.W.Fast.tw459055984694888202:True:=⟨⟩
theorem PySem.W.Fast.tw11271254924617252618:True:=⟨⟩
theorem PySem.W.Fast.tw13094316985459515178:True:=⟨⟩
theorem PySem.W.Fast.tw13624755869685531434:True:=⟨⟩
theorem PySem.W.Fast.tw13655357742160433066:True:=⟨⟩
theorem PySem.W.Fast.tw18145105758263423978:True:=⟨⟩
theorem PySem.W.Fast.tw1544423263954465867:True:=⟨⟩
theorem PySem.W.Fast.tw903187209613818955:True:=⟨⟩
theorem PySem.W.Fast.tw1983801209968846955:True:=⟨⟩
theorem PySem.W.Fast.tw7173931506606097515:True:=⟨⟩
theorem PySem.W.Fast.tw3206933121510612139:True:=⟨⟩
theorem PySem.W.Fast.tw820021705939977387:True:=⟨⟩
theorem PySem.W.Fast.tw8406074958644408491:True:=⟨⟩
theorem PySem.W.Fast.tw13945485486093973707:True:=⟨⟩
theorem PySem.W.Fast.tw14478172562074091755:True:=⟨⟩
theorem PySem.W.Fast.tw14625758884090599659:True:=⟨⟩
theorem PySem.W.Fast.tw15171850750727840011:True:=⟨⟩
theorem PySem.W.Fast.tw15548583918683838763:True:=⟨⟩
theorem PySem.W.Fast.tw7091130880330107275:True:=⟨⟩
theorem PySem.W.Fast.tw14292062656406885771:True:=⟨⟩
theorem PySem.W.Fast.tw16871303968555988363:True:=⟨⟩
theorem PySem.W.Fast.tw1096668011896880587:True:=⟨⟩
theorem PySem.W.Fast.tw12097427104590904811:True:=⟨⟩
theorem PySem.W.Fast.tw9937211894434422251:True:=⟨⟩
theorem PySem.W.Fast.tw3865187581686598219:True:=⟨⟩
theorem PySem.W.Fast.tw18337549760084142699:True:=⟨⟩
theorem PySem.W.Fast.tw11898102953792834219:True:=⟨⟩
theorem PySem.W.Fast.tw12089515207134500683:True:=⟨⟩
theorem PySem.W.Fast.tw5352076555286208331:True:=⟨⟩
theorem PySem.W.Fast.tw17026115611676500811:True:=⟨⟩
theorem PySem.W.Fast.tw923658059196541867:True:=⟨⟩
theorem PySem.W.Fast.tw15431623171243575243:True:=⟨⟩
theorem PySem.W.Fast.tw2710784334545389515:True:=⟨⟩
theorem PySem.W.Fast.tw2510491941456288715:True:=⟨⟩
theorem PySem.W.Fast.tw6907724109995447404:True:=⟨⟩
theorem PySem.W.Fast.tw8531603538686998700:True:=⟨⟩
theorem PySem.W.Fast.tw15778244568418937036:True:=⟨⟩
theorem PySem.W.Fast.tw11989384958579315020:True:=⟨⟩
theorem PySem.W.Fast.tw4403396418935309644:True:=⟨⟩
theorem PySem.W.Fast.tw17405662493506953644:True:=⟨⟩
theorem PySem.W.Fast.tw11292428420301112908:True:=⟨⟩
theorem PySem.W.Fast.tw16030816446350281644:True:=⟨⟩
theorem PySem.W.Fast.tw328758791446618060:True:=⟨⟩
theorem PySem.W.Fast.tw4239481809705181293:True:=⟨⟩
theorem PySem.W.Fast.tw8905703090980361453:True:=⟨⟩
theorem PySem.W.Fast.tw14759085471528152397:True:=⟨⟩
theorem PySem.W.Fast.tw6117756529257946509:True:=⟨⟩
theorem PySem.W.Fast.tw2132546463700953517:True:=⟨⟩
theorem PySem.W.Fast.tw9645764332510381613:True:=⟨⟩
theorem PySem.W.Fast.tw13819951780179489357:True:=⟨⟩
theorem PySem.W.Fast.tw2407464091193413325:True:=⟨⟩
theorem PySem.W.Fast.tw1801212648410239757:True:=⟨⟩
theorem PySem.W.Fast.tw10359755209314648877:True:=⟨⟩
theorem PySem.W.Fast.tw15808288586903266125:True:=⟨⟩
theorem PySem.W.Fast.tw8497903669248491341:True:=⟨⟩
theorem PySem.W.Fast.tw15954340451147750253:True:=⟨⟩
theorem PySem.W.Fast.tw12652479669658629997:True:=⟨⟩
theorem PySem.W.Fast.tw17693295699597634445:True:=⟨⟩
theorem PySem.W.Fast.tw6393595172632959917:True:=⟨⟩
theorem PySem.W.Fast.tw8574147543868874701:True:=⟨⟩
theorem PySem.W.Fast.tw3920702152046313486:True:=⟨⟩
theorem PySem.W.Fast.tw9181222746906426574:True:=⟨⟩
theorem PySem.W.Fast.tw14508941775370176814:True:=⟨⟩
theorem PySem.W.Fast.tw9914753100674931054:True:=⟨⟩
theorem PySem.W.Fast.tw17380522982165020078:True:=⟨⟩
theorem PySem.W.Fast.tw15385674964006917550:True:=⟨⟩
theorem PySem.W.Fast.tw5796520650980383214:True:=⟨⟩
theorem PySem.W.Fast.tw1186715332989482542:True:=⟨⟩
theorem PySem.W.Fast.tw17242563090387081806:True:=⟨⟩
theorem PySem.W.Fast.tw12468486200915446478:True:=⟨⟩
theorem PySem.W.Fast.tw11798958644002325326:True:=⟨⟩
theorem PySem.W.Fast.tw3006794477833750350:True:=⟨⟩
theorem PySem.W.Fast.tw11905240028976158638:True:=⟨⟩
theorem PySem.W.Fast.tw13545949837141653422:True:=⟨⟩
theorem PySem.W.Fast.tw17354135472955695183:True:=⟨⟩
theorem PySem.W.Fast.tw18055723031523333295:True:=⟨⟩
theorem PySem.W.Fast.tw1377237957667068111:True:=⟨⟩
theorem PySem.W.Fast.tw8014498556887160143:True:=⟨⟩
theorem PySem.W.Fast.tw15869591901772112239:True:=⟨⟩
theorem PySem.W.Fast.tw7311259339162438031:True:=⟨⟩
theorem PySem.W.Fast.tw10291293522146942479:True:=⟨⟩
theorem PySem.W.Fast.tw7018347421983028015:True:=⟨⟩
theorem PySem.W.Fast.tw3984128230159567695:True:=⟨⟩
theorem PySem.W.Fast.tw14473926080297455471:True:=⟨⟩
theorem PySem.W.Fast.tw9016150852602924048:True:=⟨⟩
theorem PySem.W.Fast.tw13522614304695115888:True:=⟨⟩
theorem PySem.W.Fast.tw14496401944698780816:True:=⟨⟩
theorem PySem.W.Fast.tw16568310171602147632:True:=⟨⟩
theorem PySem.W.Fast.tw2849623140951291184:True:=⟨⟩
theorem PySem.W.Fast.tw11326448971774412368:True:=⟨⟩
theorem PySem.W.Fast.tw2552161983477957264:True:=⟨⟩
theorem PySem.W.Fast.tw3394332415898652336:True:=⟨⟩
theorem PySem.W.Fast.tw9640654734171837104:True:=⟨⟩
theorem PySem.W.Fast.tw12219229202323141456:True:=⟨⟩
theorem PySem.W.Fast.tw17567549966664311632:True:=⟨⟩
theorem PySem.W.Fast.tw12235702107503337424:True:=⟨⟩
theorem PySem.W.Fast.tw6338080276453230576:True:=⟨⟩
theorem PySem.W.Fast.tw4366720549017804945:True:=⟨⟩
theorem PySem.W.Fast.tw4509932884934187185:True:=⟨⟩
theorem PySem.W.Fast.tw131439034165219569:True:=⟨⟩
theorem PySem.W.Fast.tw14844943474631574801:True:=⟨⟩
theorem PySem.W.Fast.tw3044129827554858257:True:=⟨⟩
theorem PySem.W.Fast.tw457152061781055857:True:=⟨⟩
theorem PySem.W.Fast.tw3441908931042279857:True:=⟨⟩
theorem PySem.W.Fast.tw3219997254404287953:True:=⟨⟩
theorem PySem.W.Fast.tw6067711581083205105:True:=⟨⟩
theorem PySem.W.Fast.tw1129556850792964657:True:=⟨⟩
theorem PySem.W.Fast.tw8405412607813613329:True:=⟨⟩
theorem PySem.W.Fast.tw5459721161364225170:True:=⟨⟩
theorem PySem.W.Fast.tw7823338317651701906:True:=⟨⟩
theorem PySem.W.Fast.tw14577478615842754738:True:=⟨⟩
theorem PySem.W.Fast.tw14212132559027433746:True:=⟨⟩
theorem PySem.W.Fast.tw4107298826387110194:True:=⟨⟩
theorem PySem.W.Fast.tw14778789190105676114:True:=⟨⟩
theorem PySem.W.Fast.tw6343864886806466898:True:=⟨⟩
theorem PySem.W.Fast.tw13530711951558844786:True:=⟨⟩
theorem PySem.W.Fast.tw7648865015526286738:True:=⟨⟩
theorem PySem.W.Fast.tw2372317279640738226:True:=⟨⟩
theorem PySem.W.Fast.tw9393999739171245522:True:=⟨⟩
theorem PySem.W.Fast.tw17067288323833500146:True:=⟨⟩
theorem PySem.W.Fast.tw2428002562463275506:True:=⟨⟩
theorem PySem.W.Fast.tw13173844984013552146:True:=⟨⟩
theorem PySem.W.Fast.tw15567980376998909554:True:=⟨⟩
theorem PySem.W.Fast.tw8682943524419842770:True:=⟨⟩
theorem PySem.W.Fast.tw51284611777365746:True:=⟨⟩
theorem PySem.W.Fast.tw2732574518143467314:True:=⟨⟩
theorem PySem.W.Fast.tw5911177806730923922:True:=⟨⟩
theorem PySem.W.Fast.tw828575371798932466:True:=⟨⟩
theorem PySem.W.Fast.tw14687874302283761683:True:=⟨⟩
theorem PySem.W.Fast.tw17030981047754256403:True:=⟨⟩
theorem PySem.W.Fast.tw7979084150869681203:True:=⟨⟩
theorem PySem.W.Fast.tw5022600757664599123:True:=⟨⟩
theorem PySem.W.Fast.tw220757636219753555:True:=⟨⟩
theorem PySem.W.Fast.tw1039899742407482515:True:=⟨⟩
theorem PySem.W.Fast.tw9160199077608388851:True:=⟨⟩
theorem PySem.W.Fast.tw1699566845210616083:True:=⟨⟩
theorem PySem.W.Fast.tw12449911443833052499:True:=⟨⟩
theorem PySem.W.Fast.tw15632630455852057971:True:=⟨⟩
theorem PySem.W.Fast.tw147167110397626835:True:=⟨⟩
theorem PySem.W.Fast.tw16548469273005246931:True:=⟨⟩
theorem PySem.W.Fast.tw15978511640541805043:True:=⟨⟩
theorem PySem.W.Fast.tw6125725887753754163:True:=⟨⟩
theorem PySem.W.Fast.tw11109832122996829747:True:=⟨⟩
theorem PySem.W.Fast.tw7558117757893504563:True:=⟨⟩
theorem PySem.W.Fast.tw1560192205759857363:True:=⟨⟩
theorem PySem.W.Fast.tw6298634862852770643:True:=⟨⟩
theorem PySem.W.Fast.tw4349649368125407155:True:=⟨⟩
theorem PySem.W.Fast.tw1080082760719170547:True:=⟨⟩
theorem PySem.W.Fast.tw2219371917565302836:True:=⟨⟩
theorem PySem.W.Fast.tw2856356483976997940:True:=⟨⟩
theorem PySem.W.Fast.tw16838034461616765012:True:=⟨⟩
theorem PySem.W.Fast.tw4451955422207671412:True:=⟨⟩
theorem PySem.W.Fast.tw13505480095026690164:True:=⟨⟩
theorem PySem.W.Fast.tw695098775554463924:True:=⟨⟩
theorem PySem.W.Fast.tw17300356243808959860:True:=⟨⟩
theorem PySem.W.Fast.tw14621260262373029396:True:=⟨⟩
theorem PySem.W.Fast.tw7968028937051920948:True:=⟨⟩
theorem PySem.W.Fast.tw1249525763146952244:True:=⟨⟩
theorem PySem.W.Fast.tw14761423926575895156:True:=⟨⟩
theorem PySem.W.Fast.tw5824418578113472180:True:=⟨⟩
theorem PySem.W.Fast.tw797283125126644436:True:=⟨⟩
theorem PySem.W.Fast.tw8765915881212569396:True:=⟨⟩
theorem PySem.W.Fast.tw7296247688769804084:True:=⟨⟩
theorem PySem.W.Fast.tw17618434159835535188:True:=⟨⟩
theorem PySem.W.Fast.tw16330857608344489908:True:=⟨⟩
theorem PySem.W.Fast.tw3695513082535011349:True:=⟨⟩
theorem PySem.W.Fast.tw13736769752586293333:True:=⟨⟩
theorem PySem.W.Fast.tw16723135855601744021:True:=⟨⟩
theorem PySem.W.Fast.tw12547568839670367381:True:=⟨⟩
theorem PySem.W.Fast.tw5705798375124645109:True:=⟨⟩
theorem PySem.W.Fast.tw1789858162860897589:True:=⟨⟩
theorem PySem.W.Fast.tw2517574872929255893:True:=⟨⟩
theorem PySem.W.Fast.tw16598166106505146837:True:=⟨⟩
theorem PySem.W.Fast.tw17515708703489056245:True:=⟨⟩
theorem PySem.W.Fast.tw13946137035561545301:True:=⟨⟩
theorem PySem.W.Fast.tw233949280935892629:True:=⟨⟩
theorem PySem.W.Fast.tw9213398625218979573:True:=⟨⟩
theorem PySem.W.Fast.tw15071949216671642485:True:=⟨⟩
theorem PySem.W.Fast.tw98961630287244149:True:=⟨⟩
theorem PySem.W.Fast.tw9513820172071055285:True:=⟨⟩
theorem PySem.W.Fast.tw7949457917096033237:True:=⟨⟩
theorem PySem.W.Fast.tw11160275402807278646:True:=⟨⟩
theorem PySem.W.Fast.tw8767581575139314774:True:=⟨⟩
theorem PySem.W.Fast.tw13537883259950386294:True:=⟨⟩
theorem PySem.W.Fast.tw17377942581223413910:True:=⟨⟩
theorem PySem.W.Fast.tw766811843384656086:True:=⟨⟩
theorem PySem.W.Fast.tw16671876725485629686:True:=⟨⟩
theorem PySem.W.Fast.tw1475290196933786902:True:=⟨⟩
theorem PySem.W.Fast.tw2286851721228136726:True:=⟨⟩
theorem PySem.W.Fast.tw15696169499517781302:True:=⟨⟩
theorem PySem.W.Fast.tw3143956583135374774:True:=⟨⟩
theorem PySem.W.Fast.tw13030222736350796214:True:=⟨⟩
theorem PySem.W.Fast.tw7870247635345271350:True:=⟨⟩
theorem PySem.W.Fast.tw6791400243903823414:True:=⟨⟩
theorem PySem.W.Fast.tw6698076770807915094:True:=⟨⟩
theorem PySem.W.Fast.tw3478806439713014422:True:=⟨⟩
theorem PySem.W.Fast.tw14272020838298190614:True:=⟨⟩
theorem PySem.W.Fast.tw349682196749079318:True:=⟨⟩
theorem PySem.W.Fast.tw2589377983399380790:True:=⟨⟩
theorem PySem.W.Fast.tw9464084935637391190:True:=⟨⟩
theorem PySem.W.Fast.tw8281686979700424566:True:=⟨⟩
theorem PySem.W.Fast.tw16816688052553686934:True:=⟨⟩
theorem PySem.W.Fast.tw8397272193451461558:True:=⟨⟩
theorem PySem.W.Fast.tw3822674819642900470:True:=⟨⟩
theorem PySem.W.Fast.tw9435404132941439063:True:=⟨⟩
theorem PySem.W.Fast.tw15725338234416040087:True:=⟨⟩
theorem PySem.W.Fast.tw5458309278775100599:True:=⟨⟩
theorem PySem.W.Fast.tw17168824718080369847:True:=⟨⟩
theorem PySem.W.Fast.tw3722827230198776023:True:=⟨⟩
theorem PySem.W.Fast.tw2936281670677771575:True:=⟨⟩
theorem PySem.W.Fast.tw3340210627401638199:True:=⟨⟩
theorem PySem.W.Fast.tw3473404584261051703:True:=⟨⟩
theorem PySem.W.Fast.tw11510473378568122743:True:=⟨⟩
theorem PySem.W.Fast.tw5766061662051092919:True:=⟨⟩
theorem PySem.W.Fast.tw3033344978044901847:True:=⟨⟩
theorem PySem.W.Fast.tw15447827072596026871:True:=⟨⟩
theorem PySem.W.Fast.tw11143810363666509303:True:=⟨⟩
theorem PySem.W.Fast.tw16072858178959124055:True:=⟨⟩
theorem PySem.W.Fast.tw9287459173442679447:True:=⟨⟩
theorem PySem.W.Fast.tw3340176217791020695:True:=⟨⟩
theorem PySem.W.Fast.tw1639254132246951607:True:=⟨⟩
theorem PySem.W.Fast.tw10938190345513091767:True:=⟨⟩
theorem PySem.W.Fast.tw7357989616371289783:True:=⟨⟩
theorem PySem.W.Fast.tw2445497811130672823:True:=⟨⟩
theorem PySem.W.Fast.tw8759148094650799991:True:=⟨⟩
theorem PySem.W.Fast.tw6322679298508852183:True:=⟨⟩
theorem PySem.W.Fast.tw384073040970244152:True:=⟨⟩
theorem PySem.W.Fast.tw11311674338733630616:True:=⟨⟩
theorem PySem.W.Fast.tw16976191879751559352:True:=⟨⟩
theorem PySem.W.Fast.tw14707199298393884920:True:=⟨⟩
theorem PySem.W.Fast.tw1524358619447282968:True:=⟨⟩
theorem PySem.W.Fast.tw2622427788957129048:True:=⟨⟩
theorem PySem.W.Fast.tw5446382605722316120:True:=⟨⟩
theorem PySem.W.Fast.tw3720704334285605240:True:=⟨⟩
theorem PySem.W.Fast.tw6053656802303873400:True:=⟨⟩
theorem PySem.W.Fast.tw498707555941004760:True:=⟨⟩
theorem PySem.W.Fast.tw5577714623506036248:True:=⟨⟩
theorem PySem.W.Fast.tw15243072501229633048:True:=⟨⟩
theorem PySem.W.Fast.tw8407392801321133624:True:=⟨⟩
theorem PySem.W.Fast.tw5573791774511905368:True:=⟨⟩
theorem PySem.W.Fast.tw1468763555501943448:True:=⟨⟩
theorem PySem.W.Fast.tw8696337695552942840:True:=⟨⟩
theorem PySem.W.Fast.tw12720176964087974680:True:=⟨⟩
theorem PySem.W.Fast.tw9867925258229178232:True:=⟨⟩
theorem PySem.W.Fast.tw9179399296159388600:True:=⟨⟩
theorem PySem.W.Fast.tw13832032127628300216:True:=⟨⟩
theorem PySem.W.Fast.tw7031314419175175160:True:=⟨⟩
theorem PySem.W.Fast.tw18095467008365628537:True:=⟨⟩
theorem PySem.W.Fast.tw575822061289479289:True:=⟨⟩
theorem PySem.W.Fast.tw141764590839421049:True:=⟨⟩
theorem PySem.W.Fast.tw7008418282587276569:True:=⟨⟩
theorem PySem.W.Fast.tw16456155490014338425:True:=⟨⟩
theorem PySem.W.Fast.tw3087605243718377945:True:=⟨⟩
theorem PySem.W.Fast.tw6145482130963562041:True:=⟨⟩
theorem PySem.W.Fast.tw6698971893818125049:True:=⟨⟩
theorem PySem.W.Fast.tw4600430090369124185:True:=⟨⟩
theorem PySem.W.Fast.tw11850039015167576921:True:=⟨⟩
theorem PySem.W.Fast.tw13856117119991704537:True:=⟨⟩
theorem PySem.W.Fast.tw4312871568040015865:True:=⟨⟩
theorem PySem.W.Fast.tw17035958905328531514:True:=⟨⟩
theorem PySem.W.Fast.tw8414635236889942106:True:=⟨⟩
theorem PySem.W.Fast.tw13430605651388027034:True:=⟨⟩
theorem PySem.W.Fast.tw17774048334442329306:True:=⟨⟩
theorem PySem.W.Fast.tw12030522598596457722:True:=⟨⟩
theorem PySem.W.Fast.tw7815030114527890714:True:=⟨⟩
theorem PySem.W.Fast.tw16281216429047147834:True:=⟨⟩
theorem PySem.W.Fast.tw2292170140338941274:True:=⟨⟩
theorem PySem.W.Fast.tw11497672650282334650:True:=⟨⟩
theorem PySem.W.Fast.tw17102975004712326618:True:=⟨⟩
theorem PySem.W.Fast.tw6516485190119076346:True:=⟨⟩
theorem PySem.W.Fast.tw3904450193291982458:True:=⟨⟩
theorem PySem.W.Fast.tw10203733251679877754:True:=⟨⟩
theorem PySem.W.Fast.tw14681856323372408506:True:=⟨⟩
theorem PySem.W.Fast.tw4252436841816652474:True:=⟨⟩
theorem PySem.W.Fast.tw10735203744638172890:True:=⟨⟩
theorem PySem.W.Fast.tw8357038234424606458:True:=⟨⟩
theorem PySem.W.Fast.tw1082018583468997498:True:=⟨⟩
theorem PySem.W.Fast.tw8314560805859235738:True:=⟨⟩
theorem PySem.W.Fast.tw17038156917577133050:True:=⟨⟩
theorem PySem.W.Fast.tw8776670857114813499:True:=⟨⟩
theorem PySem.W.Fast.tw2520526102394618011:True:=⟨⟩
theorem PySem.W.Fast.tw9786237071656030363:True:=⟨⟩
theorem PySem.W.Fast.tw16163644838380830971:True:=⟨⟩
theorem PySem.W.Fast.tw16071481307837846811:True:=⟨⟩
theorem PySem.W.Fast.tw11398165777104979259:True:=⟨⟩
theorem PySem.W.Fast.tw7296424713539507515:True:=⟨⟩
theorem PySem.W.Fast.tw3284989237851862427:True:=⟨⟩
theorem PySem.W.Fast.tw1904091373665116731:True:=⟨⟩
theorem PySem.W.Fast.tw14191392486803228283:True:=⟨⟩
theorem PySem.W.Fast.tw10519329338325613275:True:=⟨⟩
theorem PySem.W.Fast.tw13123982711497385787:True:=⟨⟩
theorem PySem.W.Fast.tw9920582384884614043:True:=⟨⟩
theorem PySem.W.Fast.tw2492868387434561435:True:=⟨⟩
theorem PySem.W.Fast.tw6716096481536442267:True:=⟨⟩
theorem PySem.W.Fast.tw11220281152953482203:True:=⟨⟩
theorem PySem.W.Fast.tw15776696561120685051:True:=⟨⟩
theorem PySem.W.Fast.tw4443708471462300700:True:=⟨⟩
theorem PySem.W.Fast.tw1691778946662363324:True:=⟨⟩
theorem PySem.W.Fast.tw913431629609580860:True:=⟨⟩
theorem PySem.W.Fast.tw4100985843190973756:True:=⟨⟩
theorem PySem.W.Fast.tw16828072392239984988:True:=⟨⟩
theorem PySem.W.Fast.tw13043550872577745244:True:=⟨⟩
theorem PySem.W.Fast.tw15664245013388547484:True:=⟨⟩
theorem PySem.W.Fast.tw7320469583207167516:True:=⟨⟩
theorem PySem.W.Fast.tw15774635628934945372:True:=⟨⟩
theorem PySem.W.Fast.tw6994657755344944764:True:=⟨⟩
theorem PySem.W.Fast.tw9853508798325137180:True:=⟨⟩
theorem PySem.W.Fast.tw15195086928765896476:True:=⟨⟩
theorem PySem.W.Fast.tw786978933924010812:True:=⟨⟩
theorem PySem.W.Fast.tw2284129238030991292:True:=⟨⟩
theorem PySem.W.Fast.tw6094352684710814684:True:=⟨⟩
theorem PySem.W.Fast.tw17406652483560702972:True:=⟨⟩
theorem PySem.W.Fast.tw17868551085986530300:True:=⟨⟩
theorem PySem.W.Fast.tw15668901684495796220:True:=⟨⟩
theorem PySem.W.Fast.tw17136701015659646013:True:=⟨⟩
theorem PySem.W.Fast.tw3500147657267449949:True:=⟨⟩
theorem PySem.W.Fast.tw8338522150968261725:True:=⟨⟩
theorem PySem.W.Fast.tw2134656662423264445:True:=⟨⟩
theorem PySem.W.Fast.tw10730352488336071901:True:=⟨⟩
theorem PySem.W.Fast.tw13102593839393755389:True:=⟨⟩
theorem PySem.W.Fast.tw45795502479718717:True:=⟨⟩
theorem PySem.W.Fast.tw17047014584307311997:True:=⟨⟩
theorem PySem.W.Fast.tw11601633640942819709:True:=⟨⟩
theorem PySem.W.Fast.tw13047618328159328701:True:=⟨⟩
theorem PySem.W.Fast.tw8936953955333476797:True:=⟨⟩
theorem PySem.W.Fast.tw256722388251956701:True:=⟨⟩
theorem PySem.W.Fast.tw17396070092100577789:True:=⟨⟩
theorem PySem.W.Fast.tw715378718726582909:True:=⟨⟩
theorem PySem.W.Fast.tw1875769779024336509:True:=⟨⟩
theorem PySem.W.Fast.tw16760799367772150461:True:=⟨⟩
theorem PySem.W.Fast.tw5196032195377242877:True:=⟨⟩
theorem PySem.W.Fast.tw12821077795430558525:True:=⟨⟩
theorem PySem.W.Fast.tw134575779414235965:True:=⟨⟩
theorem PySem.W.Fast.tw14078151731896693597:True:=⟨⟩
theorem PySem.W.Fast.tw7621027725377966973:True:=⟨⟩
theorem PySem.W.Fast.tw3724542569451142077:True:=⟨⟩
theorem PySem.W.Fast.tw8694728610384994366:True:=⟨⟩
theorem PySem.W.Fast.tw14334510106220947678:True:=⟨⟩
theorem PySem.W.Fast.tw18242431701742893310:True:=⟨⟩
theorem PySem.W.Fast.tw13372043121525231070:True:=⟨⟩
theorem PySem.W.Fast.tw11143425950080779742:True:=⟨⟩
theorem PySem.W.Fast.tw7823760042512811518:True:=⟨⟩
theorem PySem.W.Fast.tw6494122825752312350:True:=⟨⟩
theorem PySem.W.Fast.tw2921604423726058046:True:=⟨⟩
theorem PySem.W.Fast.tw15821577886285857406:True:=⟨⟩
theorem PySem.W.Fast.tw4146961598070857470:True:=⟨⟩
theorem PySem.W.Fast.tw4118852639093772062:True:=⟨⟩
theorem PySem.W.Fast.tw17573549751748168510:True:=⟨⟩
theorem PySem.W.Fast.tw372822991746686814:True:=⟨⟩
theorem PySem.W.Fast.tw11976031724664741886:True:=⟨⟩
theorem PySem.W.Fast.tw3866869741453095999:True:=⟨⟩
theorem PySem.W.Fast.tw1972034340994417855:True:=⟨⟩
theorem PySem.W.Fast.tw9666355056348529919:True:=⟨⟩
theorem PySem.W.Fast.tw8493901892501121279:True:=⟨⟩
theorem PySem.W.Fast.tw5691254487323915519:True:=⟨⟩
theorem PySem.W.Fast.tw3550543484946092319:True:=⟨⟩
theorem PySem.W.Fast.tw5164475085766511167:True:=⟨⟩
theorem PySem.W.Fast.tw3560228082737869375:True:=⟨⟩
theorem PySem.W.Fast.tw12528598927713846879:True:=⟨⟩
theorem PySem.W.Fast.tw4984151203696563871:True:=⟨⟩
theorem PySem.W.Fast.tw4560346124824762143:True:=⟨⟩
theorem PySem.W.Fast.tw3129665427773734783:True:=⟨⟩
theorem PySem.W.Fast.tw1425305232257834879:True:=⟨⟩
namespace My
open PySem L2 PyProof.Rows
structure Defs (K:PySem.W.Frag) (mg:Str → Option Value) (CF CR CE cI cN cT cF:Addr):Prop where
  T:Nm mg
  kd:Kd K mg CF CR
  nE:CN K mg "FrameError" CE
  eb:PySem.W.mroIn K CE (.type "BaseException") = some true
  ni:CN K mg "NoInverse" cI
  I:∃ (f:Addr) (fd:FuncData),Fun K "__init__" "NoInverse.__init__" s_NoInverse___init__ f fd ∧ RzI K mg CE cI f []
  xn:ExcC K mg "NoNumber" cN
  xt:ExcC K mg "NoTurn" cT
  xf:ExcC K mg "NoFit" cF
  nz:mg "zip" = none
  nsu:mg "sum" = none
  d2:Here K mg "is_whole" s_is_whole
  d3:Here K mg "is_prime" s_is_prime
  d4:Here K mg "shares" s_shares
  d5:Here K mg "less_times" s_less_times
  c1:Here K mg "scaled_row" s_scaled_row
  c2:Here K mg "plus_row" s_plus_row
  c3:Here K mg "make_turn" s_make_turn
  c4:Here K mg "is_idle" s_is_idle
  c5:Here K mg "take" s_take
  c6:Here K mg "take_bottoms" s_take_bottoms
  c7:Here K mg "first_filled" s_first_filled
  c8:Here K mg "empty_column" s_empty_column
  c9:Here K mg "emptied" s_emptied
  c10:Here K mg "steps" s_steps
  c11:Here K mg "is_place" s_is_place
  c12:Here K mg "is_turn" s_is_turn
  c13:Here K mg "done" s_done
  c14:Here K mg "unit_row" s_unit_row
  c15:Here K mg "unit" s_unit
  c16:Here K mg "column_at" s_column_at
  c17:Here K mg "turned" s_turned
  c18:Here K mg "scaled" s_scaled
  c19:Here K mg "sums_with" s_sums_with
  c20:Here K mg "times_table" s_times_table
  c21:Here K mg "evenly_freed" s_evenly_freed
  c22:Here K mg "power_parts" s_power_parts
  c23:Here K mg "power" s_power
  c24:Here K mg "is_square" s_is_square
  c25:Here K mg "need_square" s_need_square
  c26:Here K mg "inverse" s_inverse
  l1:Here K mg "_law_whole" s_l_whole
  l2:Here K mg "_law_is_prime" s_l_is_prime
  l3:Here K mg "_law_prime" s_l_prime
  l4:Here K mg "_law_table" s_l_table
  l5:Here K mg "_law_product" s_l_product
  l6:Here K mg "_law_unit" s_l_unit
  l7:Here K mg "_law_power" s_l_power
  l8:Here K mg "_law_rank" s_l_rank
  l9:Here K mg "_law_is_table" s_l_is_table
  l10:Here K mg "_law_refused" s_l_refused
  l11:Here K mg "_law_below" s_l_below
  r1:HereM K CR "plus" "Rests.plus" s_Rests_plus
  r2:HereM K CR "minus" "Rests.minus" s_Rests_minus
  r3:HereM K CR "back" "Rests.back" s_Rests_back
  r4:HereM K CR "times" "Rests.times" s_Rests_times
  r5:HereM K CR "is_nought" "Rests.is_nought" s_Rests_is_nought
  r6:HereM K CR "common_bottom" "Kind.common_bottom" s_Kind_common_bottom
  r7:HereM K CR "sum_of_products" "Rests.sum_of_products" s_Rests_sum_of_products
  n2:∃ tk,HereD K CR "number" "Rests.number" s_Rests_number #[.int 1 tk]
  i1:HereI K CR "Rests.__init__" s_Rests___init__
  lw:Here K mg "law" s_law
theorem all_mk {l:PySem.W.OpenLaw} {w:World} {K:PySem.W.Frag} {mg:Str → Option Value} {fa CF CR CE cI cN cT cF:Addr} (hfa:mg "law" = some (.ref fa)) (D:Defs K mg CF CR CE cI cN cT cF) :
    ∃ fd:FuncData,(∀ (s:Shared) (v:Value),BindsTo s fd ⟨[v],[]⟩ [("_law_script", v)]) ∧ ∀ base:Heap,K.In base → base.Ns mainGlobals mg → FnOk l.prog w K mg base CX0 14 fa fd ["_law_script"] (sp_law K):=by
  obtain ⟨f,fd,F,m⟩:=D.lw.ex
  have e:=hfa.symm.trans m
  cases e
  refine ⟨fd,?_,fun base _ _ => ?_⟩
  · obtain ⟨oc,od,kV,doc,pm,an,cdv,ct,osl,rfl,lk,hcd⟩:=F.ex
    exact fun s v => .of_eq rfl
  · have T:=D.T
    have kd:=D.kd
    obtain ⟨tk0,n2⟩:=D.n2
    have g2:Has l.prog w K mg base "is_whole" 1 _ _:=ok_is_whole D.d2 T
    have g3:Has l.prog w K mg base "is_prime" 1 _ _:=ok_is_prime D.d3 T
    have g5:Has l.prog w K mg base "less_times" 1 _ _:=ok_less_times D.d5
    have g4:=ok_shares D.d4 g5
    have ai:=ok_Rinit D.i1 kd.clR kd.nP g2 g3
    have b1:HasM l.prog w K mg base CR "plus" 1 _ _ _:=ok_Rplus D.r1 kd.clR kd.nP
    have b2:HasM l.prog w K mg base CR "minus" 1 _ _ _:=ok_Rminus D.r2 kd.clR kd.nP
    have b7:=ok_Rnumber1 n2 kd.clR kd.nP D.xn g4
    have b8:=ok_Rnumber n2 kd.clR kd.nP D.xn g4
    have b3:=ok_Rback D.r3 kd.clR b8
    have b4:HasM l.prog w K mg base CR "times" 1 _ _ _:=ok_Rtimes D.r4 kd.clR kd.nP
    have b5:HasM l.prog w K mg base CR "is_nought" 1 _ _ _:=ok_Rnought D.r5
    have b6:HasM l.prog w K mg base CR "common_bottom" 1 _ _ _:=ok_Kbottom D.r6
    have b9:HasM l.prog w K mg base CR "sum_of_products" 3 _ _ _:=ok_RdotX D.r7 kd.clR kd.nP D.nz D.nsu
    have mp:=meth_plus kd (b1.mono (by decide))
    have mt:=meth_times kd (b4.mono (by decide))
    have mz:=meth_nought kd (b5.mono (by decide))
    have mm:=meth_minus kd (b2.mono (by decide))
    have mn:=meth_number kd b7
    have mnC:=meth_numC kd b8
    have mb:=meth_back kd b3
    have mo:=meth_bottom kd (b6.mono (by decide))
    have md:=meth_dot kd b9
    have e1:=ok_scaled_rowX D.c1 mt
    have e2:=ok_plus_rowX D.c2 D.nz mp
    have e3:=ok_make_turn D.c3 e1 e2
    have e4:=ok_is_idle D.c4 mn mz
    have e5:=ok_take D.c5 e4 e3
    have e6:=ok_take_bottoms D.c6 T mn mo e5
    have e7:=ok_first_filled D.c7 T mz
    have e8:=ok_empty_column D.c8 T mn mm mb e5
    have e9:=ok_emptied D.c9 T mn e6 (e7.mono (by decide)) (e5.mono (by decide)) e8
    have e10:=ok_steps D.c10 T mb e9 (e5.mono (by decide))
    have e11:=ok_is_place D.c11 T g2
    have e12:=ok_is_turn D.c12 mz e11
    have e13:=ok_done D.c13 T D.xt (e12.mono (by decide)) e3
    have e14:=ok_unit_rowX D.c14 T mn
    have e15:=ok_unitX D.c15 T e14
    have e16:Has l.prog w K mg base "column_at" 1 _ _:=ok_column_atX D.c16
    have e17:=ok_turnedX D.c17 T e16
    have e18:=ok_scaledX D.c18 e1
    have e18N:=ok_scaledN D.c18 e1
    have e19:=ok_sums_withX D.c19 md
    have e20:=ok_times_tableX D.c20 T D.xf (e17.mono (by decide)) e19
    have e21:=ok_evenly_freedX D.c21 mn mo e18
    have e22:=ok_power_parts D.c22 T (e21.mono (by decide)) (e15.mono (by decide)) (e20.mono (by decide))
    obtain ⟨fI,fdI,FI,ZI⟩:=D.I
    have q1:Has l.prog w K mg base "is_square" 1 _ _:=ok_is_squareR D.c24 T
    have q2:HasX l.prog w K mg base "need_square" 2 _ _:=ok_need_squareR D.c25 D.xf q1
    have qi:=ok_Iinit (P:=l.prog) (w:=w) (base:=base) FI ZI.u ZI.c ZI.na
    have bI:Binds K fdI ["self", "rank"] []:=FI.binds fun _ _ _ _ _ _ us hl => by obtain ⟨_,_,rfl⟩:=len2 hl; exact rfl
    have q3:=ok_inverse D.c26 T ZI.c qi bI (q2.mono (by decide)) (e10.mono (by decide)) (e13.mono (by decide)) (e15.mono (by decide))
    have p0:=power0 (P:=l.prog) (w:=w) (base:=base) D.c23
    have p1:=ok_power (Nat.le_refl 9) D.c23 mnC (q2.mono (by decide)) q3 (e22.mono (by decide)) (e18N.mono (by decide)) p0
    have p2:=ok_power (show 9 ≤ 10 by decide) D.c23 mnC (q2.mono (by decide)) (q3.mono (by decide)) (e22.mono (by decide)) (e18N.mono (by decide)) p1
    have w1:Has l.prog w K mg base "_law_whole" 1 _ _:=ok_l_whole D.l1 T
    have w2:Has l.prog w K mg base "_law_is_prime" 1 _ _:=ok_l_is_prime D.l2
    have w3:=ok_l_prime72 D.l3 w2
    have w4:Has l.prog w K mg base "_law_table" 1 _ _:=ok_l_table72 D.l4 T
    have w5:Has l.prog w K mg base "_law_product" 1 _ _:=ok_l_product72 D.l5 T D.nsu
    have w6:Has l.prog w K mg base "_law_unit" 1 _ _:=ok_l_unit72 D.l6 T
    have w7:=ok_l_power72 D.l7 T w6 w5
    have w8:Has l.prog w K mg base "_law_rank" 1 _ _:=ok_l_rank72 D.l8 T D.nz
    have w9:=ok_l_is_table72 D.l9 T (w1.mono (by decide))
    have cat:CatC K mg "FrameError" CE:=⟨D.nE.m,D.nE.t,D.eb,D.nE.c⟩
    have w10:=ok_l_refused72 D.l10 T cat D.ni.m ZI p2 (w1.mono (by decide))
    have w11:=ok_l_below72 D.l11 T (w8.mono (by decide)) w10 (p2.mono (by decide)) (w9.mono (by decide)) (w5.mono (by decide)) (w7.mono (by decide)) (w6.mono (by decide))
    exact ok_law F T kd ai (w3.mono (by decide)) (w4.mono (by decide)) (p1.mono (by decide)) (w9.mono (by decide)) (w7.mono (by decide)) w11
theorem walk {l:PySem.W.OpenLaw} {q:Program} {loose:List Str} {XP:(Str → Option Value) → Heap → Prop} {YP:World → Heap → Prop} {d:DefRec} {K:Params → PySem.W.Frag} (hn:l.most = some 63) (hdf:d.params.defaults = [])
    (hY:∀ (w:World) (h:Heap),YP w h → (K w.params).In h)
    (F:∀ (w:World) (mg:Str → Option Value) (fa:Addr) (h:Heap),(K w.params).In h → h.Ns mainGlobals mg → mg d.name = some (.ref fa) →
      ∃ fd:FuncData,(∀ (s:Shared) (u:Value),BindsTo s fd ⟨[u],[]⟩ [("_law_script", u)]) ∧ ∀ base:Heap,(K w.params).In base → base.Ns mainGlobals mg → FnOk l.prog w (K w.params) mg base CX0 14 fa fd ["_law_script"] (sp_law (K w.params))) :
    PySem.W.WalkO q loose XP YP l.row.toRowW d [] (fun f vs => PySem.call f vs) :=
  L2.walk_ofB (n:=63) (k:=14) (x := "_law_script") (CX:=fun _ => CX0) (sp:=fun w => sp_law (K w.params)) hn (by decide) hdf ⟨rfl,by decide,by decide⟩ hY F (fun _ _ a ns hl hb _ hS => ⟨a,ns,rfl,hS,hl,hb,fun _ => rfl⟩) fun _ _ _ _ _ z => z
theorem kd_mk {K:PySem.W.Frag} {h:Heap} {mg:Str → Option Value} {CR:Addr} (X:K.In h) (G:h.Ns mainGlobals mg) (aR:PySem.W.nsIn K mainGlobals "Rests" = some (some (.ref CR)))
    (q1:PySem.W.plainGet K CR Str.empty = true) (q2:PySem.W.hasDictIn K CR = true) (q3:PySem.W.plainOver K CR = true) (q4:PySem.W.findIn K (.ref CR) "__setattr__" = some (some (.builtin "object.__setattr__")))
    (nP:PySem.W.findIn K (.ref CR) "prime" = some none):Kd K mg 0 CR :=
  ⟨⟨q1,q2,q3,q4⟩,nP,PySem.W.mg_of X G aR⟩
theorem cn_mk {K:PySem.W.Frag} {h:Heap} {mg:Str → Option Value} {x:Str} {C:Addr} (X:K.In h) (G:h.Ns mainGlobals mg) (a:PySem.W.nsIn K mainGlobals x = some (some (.ref C))) (b:PySem.W.isClsIn K C = true) (c:PySem.W.typeIn K (.ref C) = some (.type "type")):CN K mg x C:=⟨PySem.W.mg_of X G a,b,c⟩
theorem xcls_mk {K:PySem.W.Frag} {C:Addr} (ga:PySem.W.findIn K (.ref C) "__getattribute__" = some (some (.builtin "BaseException.__getattribute__"))) (ha:PySem.W.findIn K (.ref C) "__getattr__" = some none) (cl:PySem.W.findIn K (.ref C) "__class__" = some (some (.builtin "object.__class__")))
    (hn:PySem.W.specialIn K (.builtin "object.__class__") "__get__" = some (some (.builtin "getset_descriptor.__get__"))) (tk:PySem.W.takesIn K (.builtin "object.__class__") = some true) (ob:PySem.W.mroIn K C (.type "object") = some true) (be:PySem.W.mroIn K C (.type "BaseException") = some true) (hd:PySem.W.hasDictIn K C = true):XCls K C:=⟨ga,ha,cl,hn,tk,ob,be,hd⟩
theorem apart_cons {K:PySem.W.Frag} {C D:Addr} {r:List Addr} (a:PySem.W.mroIn K C (.ref D) = some false) (n:C ≠ D) (z:Apart K C r):Apart K C (D :: r):=⟨⟨a,n⟩,z⟩
theorem rzi_mk {K:PySem.W.Frag} {mg:Str → Option Value} {CE C f:Addr} {os:List Addr} {oc:Value} {od an:Option Addr} {osl:Array (Option Value)} {kV doc pm cdv ct:Value} (nI:CN K mg "NoInverse" C) (nE:CN K mg "FrameError" CE) (ini:PySem.W.findIn K (.ref C) "__init__" = some (some (.ref f)))
    (l:K.lookup f = some ⟨oc,od,.func (PySem.W.fnOf "__init__" "NoInverse.__init__" (defArgs s_NoInverse___init__) (defBody s_NoInverse___init__) (defScope s_NoInverse___init__) .none kV doc pm an cdv ct),osl⟩) (c:PySem.W.codeIn K cdv "NoInverse.__init__" = true) (k:PySem.W.keepIn K (.ref f) = true)
    (cls:XCls K C) (own:ownExc K C CE = true) (tail:PySem.W.tailIn K bmV (.ref CE :: bmV) = true) (fn:PySem.W.typeIn K (.ref f) = some (.type "function")) (kp:PySem.W.keepIn K (.ref C) = true) (sa:PySem.W.findIn K (.ref C) "__setattr__" = some (some (.builtin "object.__setattr__"))) (sf:PySem.W.mroIn K C (.ref C) = some true)
    (sg:PySem.W.specialIn K (.ref CE) "__getattribute__" = some (some (.builtin "type.__getattribute__"))) (rd:PySem.W.readsIn K CE (.type "type") = true) (fc:PySem.W.findCls K (.ref CE) (.type "type") "__init__" = some (.val (.builtin "ValueError.__init__"))) (na:PySem.W.findIn K (.ref C) "rank" = some none) (e:PySem.W.mroIn K C (.ref CE) = some true) (v:PySem.W.mroIn K C (.type "ValueError") = some true) (o:Apart K C os) :
    ∃ (f:Addr) (fd:FuncData),Fun K "__init__" "NoInverse.__init__" s_NoInverse___init__ f fd ∧ RzI K mg CE C f os:=⟨f,_,fun_mk l c k,⟨⟨cls,nI.m,own,tail,ini,fn,kp,sa,sf⟩,⟨nE.m,sg,rd,fc⟩,na,e,v,o⟩⟩
end My
open PySem PySem.W PyProof.Rows
local macro_rules | `(tactic| walk_at "xcls") => `(tactic| exact My.xcls_mk (by k_is) (by k_is) (by k_is) (by k_is) (by k_is) (by k_is) (by k_is) (by k_is))
local macro_rules | `(tactic| walk_at "apart") => `(tactic| repeat (first | exact True.intro | (refine' My.apart_cons (by k_is) (by decide) ?_)))
set_option maxRecDepth 100000 in
set_option maxHeartbeats 0 in
theorem PySem.Challenge.cw_turnframe_k72_whole_powers_holds : PySem.Challenge.rw_turnframe_k72_whole_powers.Holds := by
  w_on; o_law; k_head; (case hw => w_witness2)
  k_fill
  refine My.walk (l:=PySem.Challenge.rw_turnframe_k72_whole_powers) rfl rfl (fun w h Y => PySem.W.kIn_of Y) ?F
  case F =>
    intro w mg fa h KX G hmg
    have kd:=by
      refine' My.kd_mk KX G ?e1 ?e2 ?e3 ?e4 ?e5 ?e6
      (case e1 => k_is); (case e2 => k_is); (case e3 => k_is); (case e4 => k_is); (case e5 => k_is); (case e6 => k_is)
    have nE:=by
      refine' My.cn_mk (x := "FrameError") KX G ?a ?b ?c
      (case a => k_is); (case b => k_is); (case c => k_is)
    have ni:=by
      refine' My.cn_mk (x := "NoInverse") KX G ?a ?b ?c
      (case a => k_is); (case b => k_is); (case c => k_is)
    have x_xn:=by
      refine' My.cn_mk (x := "NoNumber") KX G ?a ?b ?c
      (case a => k_is); (case b => k_is); (case c => k_is)
    have x_xt:=by
      refine' My.cn_mk (x := "NoTurn") KX G ?a ?b ?c
      (case a => k_is); (case b => k_is); (case c => k_is)
    have x_xf:=by
      refine' My.cn_mk (x := "NoFit") KX G ?a ?b ?c
      (case a => k_is); (case b => k_is); (case c => k_is)
    refine My.all_mk hmg ⟨?T,kd,nE,?eb,ni,?I,⟨?xnx,x_xn.m,?xni⟩,⟨?xtx,x_xt.m,?xti⟩,⟨?xfx,x_xf.m,?xfi⟩,PySem.W.mg_none_of KX G ?nz,PySem.W.mg_none_of KX G ?nsu,?d2,?d3,?d4,?d5,?c1,?c2,?c3,?c4,?c5,?c6,?c7,?c8,?c9,?c10,?c11,?c12,?c13,?c14,?c15,?c16,?c17,?c18,?c19,?c20,?c21,?c22,?c23,?c24,?c25,?c26,?l1,?l2,?l3,?l4,?l5,?l6,?l7,?l8,?l9,?l10,?l11,?r1,?r2,?r3,?r4,?r5,?r6,?r7,?n2,?i1,?lw⟩
    case eb => k_is
    case I =>
      refine' My.rzi_mk ni nE ?e1 ?e2 ?e3 ?e4 ?e5 ?e6 ?e7 ?e8 ?e9 ?e10 ?e11 ?e12 ?e13 ?e14 ?e15 ?e16 ?e17 ?e18
      (case e1 => k_is); (case e2 => k_is); (case e3 => k_is); (case e4 => k_is); (case e5 => walk_at "xcls"); (case e6 => kernel_rfl); (case e7 => kernel_rfl); (case e8 => k_is); (case e9 => k_is); (case e10 => k_is); (case e11 => k_is)
      (case e12 => k_is); (case e13 => k_is); (case e14 => k_is); (case e15 => k_is); (case e16 => k_is); (case e17 => k_is); (case e18 => walk_at "apart")
    case xnx => walk_at "xcls"
    case xni => k_exc
    case xtx => walk_at "xcls"
    case xti => k_exc
    case xfx => walk_at "xcls"
    case xfi => k_exc
    case nz => k_is
    case nsu => k_is
    case T =>
      refine' My.nm_mk (PySem.W.mg_of KX G ?e1) ?e2 (PySem.W.mg_none_of KX G ?e3) (PySem.W.mg_none_of KX G ?e4) (PySem.W.mg_none_of KX G ?e5) (PySem.W.mg_none_of KX G ?e6) (PySem.W.mg_none_of KX G ?e7) (PySem.W.mg_none_of KX G ?e8) (PySem.W.mg_none_of KX G ?e9) (PySem.W.mg_none_of KX G ?e10)
      (case e1 => k_is); (case e2 => exact ⟨_,rfl⟩); (case e3 => k_is); (case e4 => k_is); (case e5 => k_is); (case e6 => k_is); (case e7 => k_is); (case e8 => k_is); (case e9 => k_is); (case e10 => k_is)
    case i1 =>
      refine' L2.hereI_mk ?e1 ?e2 ?e3 ?e4 ?e5 ?e6 ?e7
      (case e1 => k_is); (case e2 => k_is); (case e3 => k_is); (case e4 => k_is); (case e5 => k_is); (case e6 => k_is); (case e7 => k_is)
    case n2 =>
      refine' ⟨_,L2.hereD_mk ?x0a ?x0i ?x0l ?x0t ?x0c ?x0k⟩
      (case x0a => k_is); (case x0i => k_is); (case x0l => k_is); (case x0t => (apply Eq.trans; k_is; rfl)); (case x0c => k_is); (case x0k => k_is)
    all_goals first
      | (refine' L2.here_mk KX G ?y1 ?y2 ?y3 ?y4
         (case y1 => k_is); (case y2 => k_is); (case y3 => k_is); (case y4 => k_is))
      | (refine' L2.hereM_mk ?z1 ?z2 ?z3 ?z4 ?z5
         (case z1 => k_is); (case z2 => k_is); (case z3 => k_is); (case z4 => k_is); (case z5 => k_is))
